import PyProof.Rows.All
import Wide.All
import OpenK.AllK
import Wide.FinOn
import Lean
import PyProof.EqAt
import PyProof.EqKinds
import PyProof.TupleCall
import PyProof.ZipIter
import PyProof.Draws
import PyProof.EnumMake
import KE.KStateDown
import PyProof.Rows.EqDataRows
import PyProof.Rows.SeqMore2
import PySem.Challenge.RW_evennotes_k19_whole_walked_by_rows
open PySem renaming wpAny_bind → Qa, wpAny_pure → Qf, wpAny_field → QD, wpAny_call_entry → QQ, wpAny_callSpecial?_slot → QR, wpAny_seqItems → QT, wpAny_newObj_type → QU, wpAny_setField_rec → Q6, wpAny_mono → Pa, wpAny_holding → Pb, wpAny_Call_Name_kw → Pg, wpAny_truthy_bool → Pn, wpAny_passesOwn → PD, wpAny_rule → PP, wpAny_updateSeq → PR, wpAny_updateSeq_pair → PV, wpAny_onRaise → P1, wpAny_attempt → P3, wpAny_pyIter_tuple → P4
open PySem.Heap renaming get?_push_of_some → Qb, lt_size → Qk, get?_push_size → Qp, size_push → QH, get?_update_self → QZ, get?_update_other → Pi
open List renaming mem_cons → Qc, length_append → Qd, mem_cons_of_mem → Qe, length_cons → Qg, size_toArray → Qj, length_map → Ql, getElem?_eq_some_iff → Qm, not_mem_nil → Qn, length_set → Qo, map_cons → Qq, mem_singleton → Qs, mem_cons_self → Qt, nodup_cons → Qx, length_nil → Qy, getElem?_eq_getElem → Qz, length_singleton → QA, getElem?_map → QE, mem_append_right → QF, replicate_succ → QJ, mem_append → QL, lookup_cons → QM, getElem?_set_self → QN, getElem?_append_left → QO, mem_of_getElem? → QS, map_map → QV, getElem?_append_right → QW, flatten_cons → QX, append_assoc → QY, mem_map → Q3, map_append → Q8, cons_append → Pe, foldl_cons → Pk, append_nil → Pl, any_cons → Pm, map_nil → Po, length_take → Pp, drop_length → Pq, drop_eq_getElem_cons → Pr, nil_append → Ps, find?_cons → Pu, getElem?_replicate → Pv, getLast_cons → Pw, getElem?_zipWith → Px, getElem?_eq_none → Pz, getElem_mem → PB, forIn_cons → PJ, forIn_nil → PL, getElem?_cons_zero → PN, take_of_length_le → PQ, length_zipWith → PY, filterMap_cons → PZ, pairwise_cons → P5
open Nat renaming le_refl → Qh, lt_of_lt_of_le → Qr, ne_of_lt → Qu, le_trans → Qv, ne_of_gt → QC, lt_trans → QG, zero_add → QK, lt_succ_self → Q0, lt_succ_of_lt → Q1, le_of_lt → Q2, zero_le → Q4, le_add_right → Q5, lt_of_le_of_lt → Q7, lt_irrefl → Pd, mul_add → Pf, min_eq_left → PH, mul_le_mul_left → PK, min_eq_right → PM
open Bool renaming false_ne_true → Qi, and_eq_true → QI, false_eq_true → Pj, eq_iff_iff → PU, or_eq_false_iff → PX
open Int renaming emod_lt_of_pos → Qw, emod_nonneg → QB, natCast_add → QP, toNat_natCast → Q9, toNat_of_nonneg → P0
open Option renaming isSome_iff_exists → Pc, map_eq_some_iff → Ph
open PySem renaming Value → Ka, Shared → Kb, Addr → Kc, starEach → Ke, mainGlobals → Kf, sizeLine → Kg, FuncData → Kh, Program → Ki, Around → Kj, World → Kk, Heap → Kl, compareOp → Km, wpAny → Ko, attributeBase → Kp, backTo → Kq, backToKw → Kr, keywordEach → Ks, swapsWith → Kt, NameKind → Ku, Expr → Kv, Str → Kw, Stmt → Kx, model → Ky, eval → Kz, Obj → KA, Pos → KB
open PySem.W renaming Frag → KC, findIn → KD, emptyDict → KF, instObj → KG
open PyProof.Rows renaming callWith_type1 → KH
open PySem.F renaming plainAttrs_list → KI
noncomputable section
theorem KQ {c:Prop} {h:Decidable c} (q:c) {α:Sort _} {t e:α}:ite c t e=t:=if_pos q
theorem KR {c:Prop} {h:Decidable c} (q:¬c) {α:Sort _} {t e:α}:ite c t e=e:=if_neg q
theorem KS {p:Prop} [Decidable p] (h:p):decide p=true:=decide_eq_true h
theorem KU {p:Prop} [Decidable p] (h:¬p):decide p=false:=decide_eq_false h
theorem zSet {α:Type}:(∀ (a:α) (l:List α) (n:Nat) (b:α),(a::l).set (n+1) b=a::l.set n b)/\∀ (a:α) (l:List α) (b:α),(a::l).set 0 b=b::l:=⟨fun _ _ _ _=>rfl,fun _ _ _=>rfl⟩
theorem zMap {α β:Type}:(∀ (f:α->β) (a:α) (l:List α),(a::l).map f=f a::l.map f)/\∀ f:α->β,[].map f=[]:=⟨fun _ _ _=>rfl,fun _=>rfl⟩
theorem zLen {α:Type}:(∀ (a:α) (l:List α),(a::l).length=l.length+1)/\([]:List α).length=0:=⟨fun _ _=>rfl,rfl⟩
theorem zApp {α:Type}:(∀ (a:α) (l m:List α),(a::l)++m=a::(l++m))/\∀ l:List α,[]++l=l:=⟨fun _ _ _=>rfl,fun _=>rfl⟩
theorem oB {α β:Type} {f:α->Option β} {a:α}:(some a).bind f=f a:=rfl
open PySem.W (nsIn fnOf keepIn codeIn)
set_option Elab.async false
set_option linter.all false
set_option maxRecDepth 100000
namespace L2
open PySem PySem.Spec PyProof.Rows
abbrev Key:=Sum Int Kw
def keyIs:Key->Ka->Bool
 | .inl k,v=>Value.isInt k v
 | .inr x,v=>Value.isStrOf x v
def keyH (w:Kk):Key->Int
 | .inl k=>hashInt k
 | .inr x=>hashStr w x
theorem Z9:∀ {k:Key} {v:Ka},keyIs k v=true->(∃ i t,k=Sum.inl i/\v=Value.int i t)\/(∃ x t,k=Sum.inr x/\v=Value.str x t)
 | .inl i,v,h=>by
  obtain ⟨t,e⟩:=Value.isInt_shape (k:=i) (v:=v) h
  exact .inl ⟨i,t,rfl,e⟩
 | .inr x,v,h=>by
  obtain ⟨t,e⟩:=Value.isStrOf_shape (x:=x) (v:=v) h
  exact .inr ⟨x,t,rfl,e⟩
theorem keyIs_int (i:Int) (t:Tok):keyIs (.inl i) (.int i t)=true:=by simp [keyIs,Value.isInt]
theorem keyIs_str (x:Kw) (t:Tok):keyIs (.inr x) (.str x t)=true:=by simp [keyIs,Value.isStrOf]
theorem key_ll (a b:Int):decide ((Sum.inl a:Key)=Sum.inl b)=(a == b):=by
 by_cases e:a=b
 ·subst e;simp
 ·have h:¬ (Sum.inl a:Key)=Sum.inl b:=fun q=>e (Sum.inl.inj q)
  rw [KU h]
  exact (beq_eq_false_iff_ne.mpr e).symm
theorem key_rr (a b:Kw):decide ((Sum.inr a:Key)=Sum.inr b)=decide (a=b):=by
 by_cases e:a=b
 ·subst e;simp
 ·have h:¬ (Sum.inr a:Key)=Sum.inr b:=fun q=>e (Sum.inr.inj q)
  rw [KU h,KU e]
theorem key_lr (a:Int) (b:Kw):decide ((Sum.inl a:Key)=Sum.inr b)=false:=KU (fun q=>nomatch q)
theorem key_rl (a:Kw) (b:Int):decide ((Sum.inr a:Key)=Sum.inl b)=false:=KU (fun q=>nomatch q)
def yl (prog:Ki) (w:Kk):PySem.KeyKind prog w Key where
 is:=keyIs
 hash:=keyH w
 inj:=fun v a b ha hb=>by
  rcases Z9 ha with ⟨i,t,rfl,rfl⟩ | ⟨x,t,rfl,rfl⟩
  ·rcases Z9 hb with ⟨j,u,rfl,e⟩ | ⟨y,u,rfl,e⟩
   ·injection e with e1 _;rw [e1]
   ·exact nomatch e
  ·rcases Z9 hb with ⟨j,u,rfl,e⟩ | ⟨y,u,rfl,e⟩
   ·exact nomatch e
   ·injection e with e1 _;rw [e1]
 byValue:=fun k v h=>by
  rcases Z9 h with ⟨i,t,rfl,rfl⟩ | ⟨x,t,rfl,rfl⟩ <;> rfl
 pyHash:=fun hv h=>by
  rcases Z9 hv with ⟨i,t,rfl,rfl⟩ | ⟨x,t,rfl,rfl⟩
  ·exact wpAny_pyHash_int h
  ·exact wpAny_pyHash_str h
 eqBool:=fun hu hv h=>by
  rcases Z9 hu with ⟨i,t,rfl,rfl⟩ | ⟨x,t,rfl,rfl⟩
  ·rcases Z9 hv with ⟨j,u,rfl,rfl⟩ | ⟨y,u,rfl,rfl⟩
   ·rw [key_ll] at h;exact wpAny_eqBool_int h
   ·rw [key_lr] at h;exact SeqAt.EqAt.int_str i t y u _ _ _ _ h
  ·rcases Z9 hv with ⟨j,u,rfl,rfl⟩ | ⟨y,u,rfl,rfl⟩
   ·rw [key_rl] at h;exact SeqAt.EqAt.str_int x t j u _ _ _ _ h
   ·rw [key_rr] at h;exact wpAny_eqBool_str h
 «strs»:=fun k x t v h=>by
  rcases Z9 h with ⟨i,u,rfl,e⟩ | ⟨y,u,rfl,e⟩
  ·exact nomatch e
  ·injection e with e1 _
   subst e1
   cases v <;> rfl
theorem mixKind_int (prog:Ki) (w:Kk) (i:Int) (t:Tok):(yl prog w).is (.inl i) (.int i t)=true:=keyIs_int i t
theorem mixKind_str (prog:Ki) (w:Kk) (x:Kw) (t:Tok):(yl prog w).is (.inr x) (.str x t)=true:=keyIs_str x t
end L2
namespace L2
open PySem PySem.Spec PyProof.Rows
inductive V where
 | non | bl (b:Bool) | int (i:Int) | str (x:Kw) | byt (b:Array UInt8) | flt (b:UInt64) | ref (a:Kc) | ty (n:String)
 deriving DecidableEq
def Zu:V->Ka->Prop
 | .non,u=>u=Value.none
 | .bl b,u=>u=Value.bool b
 | .int i,u=>∃ t,u=Value.int i t
 | .str x,u=>∃ t,u=Value.str x t
 | .byt b,u=>∃ t,u=Value.bytes b t
 | .flt b,u=>∃ t,u=Value.float b t
 | .ref a,u=>u=Value.ref a
 | .ty n,u=>u=Value.type n
abbrev zY:List V->List Ka->Prop:=Paired Zu
theorem zY.length {xs:List V} {us:List Ka} (r:zY xs us):xs.length=us.length:=Paired.length r
theorem zY.get:∀ {xs:List V} {us:List Ka} {i:Nat} {x:V},zY xs us->xs[i]?=some x->∃ u,us[i]?=some u/\Zu x u
 | _,_,_,_,.nil,e=>by simp at e
 | _,_,0,_,.cons r _,e=>by simp at e;subst e;exact ⟨_,rfl,r⟩
 | _,_,i+1,x,.cons _ t,e=>by
  obtain ⟨u,h1,h2⟩:=zY.get (i:=i) (x:=x) t (by simpa using e)
  exact ⟨u,by simpa using h1,h2⟩
theorem zY.set {x:V} {u:Ka} (r:Zu x u):∀ {xs:List V} {us:List Ka} (i:Nat),zY xs us->zY (xs.set i x) (us.set i u)
 | _,_,_,.nil=>.nil
 | _,_,0,.cons _ t=>.cons r t
 | _,_,i+1,.cons q t=>.cons q (zY.set r i t)
theorem zY.append:∀ {xs ys:List V} {us ws:List Ka},zY xs us->zY ys ws->zY (xs++ys) (us++ws)
 | _,_,_,_,.nil,s=>s
 | _,_,_,_,.cons r t,s=>.cons r (zY.append t s)
theorem zY.take:∀ {xs:List V} {us:List Ka} (n:Nat),zY xs us->zY (xs.take n) (us.take n)
 | _,_,0,_=>.nil
 | _,_,_+1,.nil=>.nil
 | _,_,n+1,.cons r t=>.cons r (zY.take n t)
theorem zY.drop:∀ {xs:List V} {us:List Ka} (n:Nat),zY xs us->zY (xs.drop n) (us.drop n)
 | _,_,0,r=>r
 | _,_,_+1,.nil=>.nil
 | _,_,n+1,.cons _ t=>zY.drop n t
def jn:Option V->Option Ka->Prop
 | some v,some u=>Zu v u
 | none,none=>True
 | _,_=>False
def KV {κ:Type}:List (κ×V)->List (κ×Ka)->Prop:=Paired fun (p:κ×V) (q:κ×Ka)=>p.1=q.1/\Zu p.2 q.2
def kV:Key->V
 | .inl i=>.int i
 | .inr x=>.str x
inductive HO where
  | lst (xs:List V)
  | tup (xs:List V)
  | dK (KO:List (Key×V)) | dT (KO:List (List Key×V))
  | set (S:Int->Bool) (n:Nat)
  | ins (C dx:Kc) (fs:List (Kw×V))
  | own (x:Kc)
  | xd (fs:List (Kw×V))
  | met (f x:Kc)
  | rng (lo hi:Int)
  | frz (o:KA) (u:HO)
  | tbl (ps:Array Ka)
  | ext (φ:Kl->Prop)
abbrev Hp:=Kc->Option HO
def upd (H:Hp) (a:Kc) (o:HO):Hp:=fun b=>if b=a then some o else H b
theorem zw {H:Hp} {a:Kc} {o:HO}:upd H a o a=some o:=by unfold upd;rw [KQ rfl]
theorem zv {H:Hp} {a b:Kc} {o:HO} (h:b≠a):upd H a o b=H b:=by unfold upd;rw [KR h]
theorem ne_of {H:Hp} {a b:Kc} {o u:HO} (h:H a=some o) (h':H b=some u) (d:o≠u):a≠b:=by
 intro e;subst e;rw [h] at h';exact d (Option.some.inj h')
theorem yb {H:Hp} {a b:Kc} {o:HO} (h:H a=some o) (h':H b=none):a≠b:=by
 intro e;subst e;rw [h] at h';cases h'
section
variable (P:Ki) (w:Kk)
def yH (H:Hp) (h:Kl) (a:Kc):HO->Prop
 | .lst xs=>xs.length<=Kg/\∃ (KP:List Ka) (n:Nat),zY xs KP/\h.get? a=some { cls:=.type "list",data:=.seq KP.toArray n }
 | .tup xs=>xs.length<=Kg/\∃ KP:List Ka,zY xs KP/\IsTup h a KP.toArray
 | .dK KO=>KO.length<=Kg/\(a == sysModules)=false/\∃ vs,KV KO vs/\h.DictOf (yl P w) a vs
 | .dT KO=>KO.length<=Kg/\(a == sysModules)=false/\∃ xs:List (List Key×Kc×Ka),
   Paired (fun (p:List Key×V) (q:List Key×Kc×Ka)=>p.1=q.1/\H q.2.1=some (.tup (p.1.map kV))/\Zu p.2 q.2.2) KO xs /\
   ∃ o es ep,h.get? a=some o/\o.ExactDict/\o.data=.dict es ep/\es.toList=xs.map (entryOfKey (tupleKind (yl P w)))/\(xs.map (·.1)).Nodup
 | .set S n=>h.SetOf (intKind P w) a S n
 | .ins C dx fs=>H dx=some (.own a)/\fs.length<=1000/\dx≠a/\h.get? a=some (KG C dx) /\
   ∃ mA,h.Ns1 dx mA/\(∀ f,jn (fs.lookup f) (mA f))/\PySem.Within mA (fs.map (·.1))
 | .own _=>∃ o,h.get? a=some o
 | .xd fs=>∃ mA,h.Ns1 a mA/\∀ f,jn (fs.lookup f) (mA f)
 | .rng lo hi=>∃ t u v,h.get? a=some { cls:=.type "range",data:=.fields #[.int lo t,.int hi u,.int 1 v] }
 | .frz o u=>h.get? a=some o/\yH H h a u
 | .tbl ps=>h.get? a=some { cls:=.none,data:=.fields ps }
 | .met f x=>h.get? a=some (PySem.W.methodObj (.ref f) (.ref x))
 | .ext φ=>φ h/\(∃ o,h.get? a=some o)/\∀ h1 h2:Kl,φ h1->(∀ o,h1.get? a=some o->h2.get? a=some o)->φ h2
def HOk (H:Hp) (h:Kl):Prop:=∀ a o,H a=some o->yH P w H h a o
end
section
variable {P:Ki} {w:Kk} {H H':Hp} {h h':Kl} {a:Kc} {o:HO}
theorem yH.lt (x:yH P w H h a o):a<h.objs.size:=by
 cases o with
 | lst xs=>obtain ⟨_,_,_,_,e⟩:=x;exact Qk e
 | tup xs=>obtain ⟨_,_,_,p⟩:=x;exact p.lt
 | dK KO=>obtain ⟨_,_,_,_,o,_,_,e,_⟩:=x;exact Qk e
 | dT KO=>obtain ⟨_,_,_,_,o,_,_,e,_⟩:=x;exact Qk e
 | set S n=>obtain ⟨o,_,_,_,e,_⟩:=x;exact Qk e
 | ins C dx fs=>obtain ⟨_,_,_,e,_⟩:=x;exact Qk e
 | own y=>obtain ⟨_,e⟩:=x;exact Qk e
 | xd fs=>obtain ⟨_,⟨_,_,_,e,_⟩,_⟩:=x;exact Qk e
 | rng lo hi=>obtain ⟨_,_,_,e⟩:=x;exact Qk e
 | frz ob u=>obtain ⟨e,_⟩:=x;exact Qk e
 | tbl ps=>exact Qk (show h.get? a=some _ from x)
 | met f y=>exact Qk (show h.get? a=some _ from x)
 | ext φ=>obtain ⟨_,⟨_,e⟩,_⟩:=x;exact Qk e
theorem Paired.mapP {α β:Type} {F G:α->β->Prop}:∀ {l₁:List α} {l₂:List β},Paired F l₁ l₂->(∀ a b,F a b->G a b)->Paired G l₁ l₂
 | _,_,.nil,_=>.nil
 | _,_,.cons r t,f=>.cons (f _ _ r) (Paired.mapP t f)
theorem yH.stay (x:yH P w H h a o) (k:∀ b u,(b=a\/H b=some (.own a))->h.get? b=some u->h'.get? b=some u)
  (ho:∀ b,H b=some (.own a)->H' b=some (.own a)) (ht:∀ b xs,H b=some (.tup xs)->H' b=some (.tup xs)):yH P w H' h' a o:=by
 induction o with
 | lst xs=>obtain ⟨z,KP,n,r,e⟩:=x;exact ⟨z,KP,n,r,k _ _ (.inl rfl) e⟩
 | tup xs=>obtain ⟨z,KP,r,ob,e,c⟩:=x;exact ⟨z,KP,r,ob,k _ _ (.inl rfl) e,c⟩
 | dK KO=>obtain ⟨z,y,vs,r,ob,es,ep,e,c⟩:=x;exact ⟨z,y,vs,r,ob,es,ep,k _ _ (.inl rfl) e,c⟩
 | dT KO =>
  obtain ⟨z,y,xs,r,ob,es,ep,e,c⟩:=x
  exact ⟨z,y,xs,Paired.mapP r fun p q z=>⟨z.1,ht _ _ z.2.1,z.2.2⟩,ob,es,ep,k _ _ (.inl rfl) e,c⟩
 | set S n=>obtain ⟨ob,es,ep,t,e,c⟩:=x;exact ⟨ob,es,ep,t,k _ _ (.inl rfl) e,c⟩
 | ins C dx fs =>
  obtain ⟨d,z,ne,e,mA,⟨od,es,ep,e2,c⟩,r⟩:=x
  exact ⟨ho _ d,z,ne,k _ _ (.inl rfl) e,mA,⟨od,es,ep,k _ _ (.inr d) e2,c⟩,r⟩
 | own y=>obtain ⟨ob,e⟩:=x;exact ⟨ob,k _ _ (.inl rfl) e⟩
 | xd fs=>obtain ⟨mA,⟨od,es,ep,e,c⟩,r⟩:=x;exact ⟨mA,⟨od,es,ep,k _ _ (.inl rfl) e,c⟩,r⟩
 | rng lo hi=>obtain ⟨t,u,v,e⟩:=x;exact ⟨t,u,v,k _ _ (.inl rfl) e⟩
 | frz ob u ih=>obtain ⟨e,q⟩:=x;exact ⟨k _ _ (.inl rfl) e,ih q⟩
 | tbl ps =>
  have e:h.get? a=some { cls:=.none,data:=.fields ps }:=x
  show h'.get? a=some { cls:=.none,data:=.fields ps }
  exact k a _ (.inl rfl) e
 | met f y =>
  have e:h.get? a=some (PySem.W.methodObj (.ref f) (.ref y)):=x
  show h'.get? a=some (PySem.W.methodObj (.ref f) (.ref y))
  exact k a _ (.inl rfl) e
 | ext φ=>obtain ⟨p,⟨o,e⟩,st⟩:=x;exact ⟨st _ _ p fun o q=>k _ _ (.inl rfl) q,⟨o,k _ _ (.inl rfl) e⟩,st⟩
theorem HOk.lt (x:HOk P w H h) (e:H a=some o):a<h.objs.size:=(x a o e).lt
theorem HOk.fresh (x:HOk P w H h) (e:h.objs.size<=a):H a=none:=by
 cases q:H a with
 | none=>rfl
 | some u=>exact absurd (Qr (x.lt q) e) (Pd _)
theorem HOk.kept (x:HOk P w H h) (k:∀ b u,h.get? b=some u->h'.get? b=some u):HOk P w H h':=fun a o e =>
 (x a o e).stay (fun b u _ q=>k b u q) (fun _ q=>q) fun _ _ q=>q
theorem HOk.laid (x:HOk P w H h) (k:∀ b u,h.get? b=some u->h'.get? b=some u) (hp:h.objs.size<=a) (new:yH P w (upd H a o) h' a o):HOk P w (upd H a o) h':=fun b u e=>by
 have hn:=x.fresh hp
 by_cases hb:b=a
 ·subst hb;rw [zw] at e;cases e;exact new
 ·rw [zv hb] at e
  exact (x b u e).stay (fun c v _ q=>k c v q) (fun c q=>by rw [zv (yb q hn)];exact q) fun c xs q=>by rw [zv (yb q hn)];exact q
end
def Rd (H:Hp) (a:Kc) (u:HO):Prop:=H a=some u\/∃ o,H a=some (.frz o u)
theorem Rd.ok {P:Ki} {w:Kk} {H:Hp} {h:Kl} {a:Kc} {u:HO} (r:Rd H a u) (x:HOk P w H h):yH P w H h a u:=by
 rcases r with r | ⟨o,r⟩
 ·exact x a u r
 ·obtain ⟨_,q⟩:=x a _ r
  exact q
def Mut:Option HO->Prop
 | some (.lst _)=>True
 | some (.dK _)=>True
 | some (.dT _)=>True
 | some (.set _ _)=>True
 | some (.ins _ _ _)=>True
 | some (.ext _)=>True
 | _=>False
section
variable {P:Ki} {w:Kk} {H:Hp} {h h':Kl} {x e:Kc} {o':HO}
theorem HOk.write (ok:HOk P w H h) (mu:Mut (H x)) (he:e=x\/H e=some (.own x)) (k:∀ b u,b≠e->h.get? b=some u->h'.get? b=some u) (heo:∃ u,h'.get? e=some u)
  (new:yH P w (upd H x o') h' x o'):HOk P w (upd H x o') h':=fun b u q=>by
 have nown:∀ c y,H c=some (.own y)->c≠x:=fun c y r z=>by subst z;rw [r] at mu;exact mu
 have ntup:∀ c xs,H c=some (.tup xs)->c≠x:=fun c xs r z=>by subst z;rw [r] at mu;exact mu
 by_cases hb:b=x
 ·subst hb;rw [zw] at q;cases q;exact new
 ·rw [zv hb] at q
  by_cases hbe:b=e
  ·have q':H b=some (.own x):=by
    rcases he with z | z
    ·exact absurd (hbe.trans z) hb
    ·rw [hbe];exact z
   rw [q] at q';cases q'
   obtain ⟨v,hv⟩:=heo
   exact ⟨v,by rw [hbe];exact hv⟩
  ·refine (ok b u q).stay (fun c v hc r=>k c v ?_ r) (fun c r=>by rw [zv (nown c b r)];exact r) fun c xs r=>by rw [zv (ntup c xs r)];exact r
   rcases hc with rfl | hc
   ·exact hbe
   ·rintro rfl
    rcases he with z | z
    ·exact nown c b hc z
    ·rw [hc] at z;cases z;exact hb rfl
end
structure Un (fs ex:List Kc) (H H':Hp) (h h':Kl):Prop where
 keep:∀ b o,h.get? b=some o->H b=none->b∉fs->b∉ex->h'.get? b=some o
 slot:∀ b o,h.get? b=some o->H b=none->b∈fs->b∉ex->∃ sl,h'.get? b=some { o with slots:=sl }
 free:∀ b o,h.get? b=some o->H b=none->b∉ex->H' b=none
 there:∀ b o,h.get? b=some o->b∉ex->∃ o',h'.get? b=some o'
 tups:∀ b xs,H b=some (.tup xs)->H' b=some (.tup xs)
 frzs:∀ b o u,H b=some (.frz o u)->H' b=some (.frz o u)
 tbls:∀ b ps,H b=some (.tbl ps)->∃ more,H' b=some (.tbl (ps++more))
section
variable {fs fs' ex ex':List Kc} {H H1 H2:Hp} {h h1 h2 h':Kl} {a x e:Kc} {o:HO}
theorem Un.any (u:Un fs ex H H1 h h1) {b:Kc} {ob:KA} (q:h.get? b=some ob) (n:H b=none) (hx:b∉ex):∃ sl,h1.get? b=some { ob with slots:=sl }:=by
 by_cases hb:b∈fs
 ·exact u.slot b ob q n hb hx
 ·exact ⟨ob.slots,u.keep b ob q n hb hx⟩
theorem Un.trans (a:Un fs ex H H1 h h1) (b:Un fs ex H1 H2 h1 h2):Un fs ex H H2 h h2 where
 keep:=fun c ob q n hc hx=>b.keep c ob (a.keep c ob q n hc hx) (a.free c ob q n hx) hc hx
 slot:=fun c ob q n hc hx=>by
  obtain ⟨sl,e1⟩:=a.slot c ob q n hc hx
  obtain ⟨sl',e2⟩:=b.slot c _ e1 (a.free c ob q n hx) hc hx
  exact ⟨sl',e2⟩
 free:=fun c ob q n hx=>by
  obtain ⟨o',e1⟩:=a.there c ob q hx
  exact b.free c o' e1 (a.free c ob q n hx) hx
 there:=fun c ob q hx=>by
  obtain ⟨o',e1⟩:=a.there c ob q hx
  exact b.there c o' e1 hx
 tups:=fun c xs q=>b.tups c xs (a.tups c xs q)
 frzs:=fun c ob xs q=>b.frzs c ob xs (a.frzs c ob xs q)
 tbls:=fun c ps q=>by
  obtain ⟨m1,e1⟩:=a.tbls c ps q
  obtain ⟨m2,e2⟩:=b.tbls c _ e1
  exact ⟨m1++m2,by rw [e2,Array.append_assoc]⟩
theorem Un.kept (k:∀ b u,h.get? b=some u->h'.get? b=some u):Un fs ex H H h h' :=
 ⟨fun b ob q _ _ _=>k b ob q,fun b ob q _ _ _=>⟨ob.slots,k b ob q⟩,fun _ _ _ n _=>n,fun b ob q _=>⟨ob,k b ob q⟩,fun _ _ q=>q,fun _ _ _ q=>q,fun _ ps q=>⟨#[],by rw [q];simp⟩⟩
theorem Un.refl:Un fs ex H H h h:=Un.kept fun _ _ q=>q
theorem Un.laid (k:∀ b u,h.get? b=some u->h'.get? b=some u) (hp:h.objs.size<=a) (hn:H a=none):Un fs ex H (upd H a o) h h' where
 keep:=fun b u q _ _ _=>k b u q
 slot:=fun b u q _ _ _=>⟨u.slots,k b u q⟩
 free:=fun b u q n _=>by rw [zv (Qu (Qr (Qk q) hp))];exact n
 there:=fun b u q _=>⟨u,k b u q⟩
 tups:=fun b xs q=>by rw [zv (yb q hn)];exact q
 frzs:=fun b u xs q=>by rw [zv (yb q hn)];exact q
 tbls:=fun b ps q=>⟨#[],by rw [zv (yb q hn),q];simp⟩
theorem Un.write (mu:Mut (H x)) (he:e=x\/H e=some (.own x)) (k:∀ b u,b≠e->h.get? b=some u->h'.get? b=some u) (heo:∃ u,h'.get? e=some u):Un fs ex H (upd H x o) h h':=by
 have hx:∀ b,H b=none->b≠x:=fun b n z=>by subst z;rw [n] at mu;exact mu
 have hb:∀ b,H b=none->b≠e:=fun b n z=>by
  subst z
  rcases he with r | r
  ·exact hx b n r
  ·rw [n] at r;cases r
 have hm:∀ b u,H b=some u->¬ Mut (some u)->b≠x:=fun b u q nm z=>by subst z;rw [q] at mu;exact nm mu
 refine ⟨fun b u q n _ _=>k b u (hb b n) q,fun b u q n _ _=>⟨u.slots,k b u (hb b n) q⟩,fun b u q n _=>by rw [zv (hx b n)];exact n,fun b u q _=>?_,
  fun b xs q=>by rw [zv (hm b _ q fun z=>z)];exact q,fun b u xs q=>by rw [zv (hm b _ q fun z=>z)];exact q,fun b ps q=>⟨#[],by rw [zv (hm b _ q fun z=>z),q];simp⟩⟩
 by_cases hbe:b=e
 ·subst hbe;exact heo
 ·exact ⟨u,k b u hbe q⟩
end
def trk (h:Kl) (H:Hp):List Kc:=(List.range h.objs.size).filter fun a=>(H a).isSome
def hidT (h:Kl) (H:Hp):Kl:=PySem.W.hideAll h (trk h H)
theorem hidT_size (h:Kl) (H:Hp):(hidT h H).objs.size=h.objs.size:=PySem.W.hideAll_size _ _
theorem hidT_get {h:Kl} {H:Hp} {b:Kc} {o:KA} (e:h.get? b=some o) (n:H b=none):(hidT h H).get? b=some o :=
 PySem.W.hideAll_get _ e fun hm=>by
  have q:(H b).isSome=true:=(List.mem_filter.mp hm).2
  rw [n] at q;simp at q
theorem of_hidT {h:Kl} {H:Hp} {b:Kc} {o:KA} (e:(hidT h H).get? b=some o):h.get? b=some o/\H b=none:=by
 have e':h.get? b=some o:=PySem.W.of_hideAll (trk h H) e
 refine ⟨e',?_⟩
 cases q:H b with
 | none=>rfl
 | some x =>
  have hm:b∈trk h H:=List.mem_filter.mpr ⟨List.mem_range.mpr (Qk e'),by simp [q]⟩
  have z:(hidT h H).get? b=none:=PySem.W.hideAll_none (trk h H) hm
  rw [z] at e;cases e
def allNews (g h:Kl) (L:Kc):List (Kc×KA):=(List.range h.objs.size).filterMap fun a=>if a=L\/(g.get? a).isSome=true then none else (h.get? a).map fun o=>(a,o)
def Zc (g h:Kl) (L d:Kc):List (Kc×KA):=(allNews g h L).filter fun p=>decide (p.1≠d)
end L2
namespace L2
open PySem PySem.Spec PyProof.Rows
structure Mod (K:KC) (mg:Kw->Option Ka) (base:Kl):Prop where
 kin:K.In base
 glob:base.Ns Kf mg
 blt:∃ mb,base.Ns builtinsNs mb/\∀ x:Kw,x≠"__name__"->mb x=bootBuiltins x
 nolimit:base.NoLimit
 seer:base.NoSeer
structure Cx where
 prog:Ki
 w:Kk
 K:KC
 mg:Kw->Option Ka
 base:Kl
 A:Kj
 N:List Kw
 s₀:Kb
 P6:Hp
 env:Env
 outer:List Env
 stack:List Env
 ex:List Kc
 fn:Kw->Bool
 calm:Bool
 pn:List (Kc×KA)
 xe:Ka->Kb->Prop
def frs (l:List Env):List Kc:=l.filterMap (·.frame)
abbrev Cx.fs (X:Cx):List Kc:=frs X.outer
def Vis (sc:Scope) (x:Kw):Prop:=sc.names.lookup x=some .local\/sc.names.lookup x=some .cell\/sc.names.lookup x=some .free
def Loc (sc:Scope) (x:Kw):Prop:=sc.names.lookup x=some .local\/sc.names.lookup x=some .cell
def Look (env:Env) (h:Kl) (m:Kw->Option Ka) (x:Kw) (u:Ka):Prop :=
 (env.kindOf x=some .local/\m x=some u)\/((env.kindOf x=some .cell\/env.kindOf x=some .free)/\∃ c,env.cells.lookup x=some c/\h.IsCell c (some u))
structure Cx.Ok (X:Cx):Prop where
 mod:Mod X.K X.mg X.base
 kind:X.env.scope.kind=.function
 glob:X.env.globals=Kf
 blt:X.env.builtins=builtinsNs
 above:X.s₀.heap.objs.size<=X.env.locals
 inj:∀ x y c,X.env.cells.lookup x=some c->X.env.cells.lookup y=some c->x=y
 has:∀ x,(X.env.kindOf x=some .cell\/X.env.kindOf x=some .free)->∃ c,X.env.cells.lookup x=some c
 cab:∀ x c,X.fn x=true->X.env.cells.lookup x=some c->X.s₀.heap.objs.size<=c
 hd:X.calm=true->X.A.handled=none
 frames:X.A.frames=some X.stack
 stk:X.stack=X.outer\/(X.stack=X.env::X.outer/\X.env.frame=some X.env.locals)
 exf:∀ b∈X.ex,b≠X.env.locals/\∀ x c,X.env.cells.lookup x=some c->c≠b
 bs:∀ b o,X.base.get? b=some o->X.s₀.heap.get? b=some o/\X.P6 b=none
 bsz:X.base.objs.size<=X.s₀.heap.objs.size
 noex:∀ b o,X.base.get? b=some o->b∉X.ex
 exfs:∀ b∈X.ex,b∉X.fs
 funs:X.s₀.heap.FunFrames X.base X.outer
 frf:∀ b∈X.fs,X.P6 b=none
 top:∃ e l,X.stack=e::l/\e.scope.isGenerator=false/\e.scope.isCoroutine=false/\e.builtins=builtinsNs/\e.globals=Kf
 tree:X.prog.given.tree=none
structure Inv (X:Cx) (KJ:List (Kc×KA)) (σ:List (Option V)) (H:Hp) (s:Kb):Prop where
 ok:X.Ok
 os:s.os=X.s₀.os
 bare:AllBare s.gens
 base:Un X.fs X.ex X.P6 H X.s₀.heap s.heap
 loc:∃ m,s.heap.Ns X.env.locals m/\∀ (i:Nat) (x:Kw) (v:V),X.N[i]?=some x->σ[i]?=some (some v)->Vis X.env.scope x->∃ u,Zu v u/\Look X.env s.heap m x u
 cell:∀ x c,X.env.cells.lookup x=some c->∃ v,s.heap.IsCell c v
 free:H X.env.locals=none
 freeC:∀ x c,X.env.cells.lookup x=some c->H c=none
 pin:∀ p∈X.pn++KJ,s.heap.get? p.1=some p.2/\H p.1=none/\p.1≠X.env.locals/\p.1∉X.fs/\∀ v,p.2.data≠.cell v
 hok:HOk X.prog X.w H s.heap
 len:σ.length=X.N.length
section
variable {X:Cx} {KJ:List (Kc×KA)} {σ:List (Option V)} {H H':Hp} {s:Kb} {h':Kl}
theorem Cx.Ok.nofr (ok:X.Ok) {b:Kc} {o:KA} (e:X.base.get? b=some o):b∉X.fs:=fun hb=>by
 have:=(ok.funs.mem hb).1
 rw [e] at this;cases this
theorem Inv.bs (I:Inv X KJ σ H s):∀ b o,X.base.get? b=some o->s.heap.get? b=some o/\H b=none:=fun b o e =>
 ⟨I.base.keep b o (I.ok.bs b o e).1 (I.ok.bs b o e).2 (I.ok.nofr e) (I.ok.noex b o e),I.base.free b o (I.ok.bs b o e).1 (I.ok.bs b o e).2 (I.ok.noex b o e)⟩
theorem Inv.bk (I:Inv X KJ σ H s):∀ b o,X.base.get? b=some o->s.heap.get? b=some o:=fun b o e=>(I.bs b o e).1
theorem Inv.mod (I:Inv X KJ σ H s):Mod X.K X.mg X.base:=I.ok.mod
theorem Inv.kIn (I:Inv X KJ σ H s):X.K.In s.heap:=I.ok.mod.kin.keeps I.bk
theorem Inv.nolimit (I:Inv X KJ σ H s):s.heap.NoLimit:=I.ok.mod.nolimit.keeps I.bk
theorem Inv.lt (I:Inv X KJ σ H s):X.env.locals<s.heap.objs.size:=let ⟨_,hn,_⟩:=I.loc;hn.lt
theorem Inv.sz (I:Inv X KJ σ H s):X.s₀.heap.objs.size<=s.heap.objs.size:=Qv I.ok.above (Q2 I.lt)
theorem Inv.nofs (I:Inv X KJ σ H s) {a:Kc} (h:s.heap.objs.size<=a):a∉X.fs:=fun hb=>by
 obtain ⟨_,o,ho,_⟩:=I.ok.funs.mem hb
 exact absurd (Qr (Qk ho) (Qv I.sz h)) (Pd _)
theorem Inv.cne (I:Inv X KJ σ H s):∀ x c,X.env.cells.lookup x=some c->c≠X.env.locals:=fun x c e z=>by
 obtain ⟨v,o,ho,hd⟩:=I.cell x c e
 obtain ⟨m,⟨o',es,ep,ho',hd',_⟩,_⟩:=I.loc
 rw [z,ho'] at ho;cases ho;rw [hd'] at hd;cases hd
theorem Inv.funs (I:Inv X KJ σ H s):s.heap.FunFrames X.base X.outer:=by
 have all:∀ (l:List Env),(∀ b∈frs l,b∈X.fs)->X.s₀.heap.FunFrames X.base l->s.heap.FunFrames X.base l:=by
  intro l
  induction l with
  | nil=>intro _ _;trivial
  | cons env r ih =>
   intro hs hl
   obtain ⟨hk,⟨L,o,hf,hn,ho,hd⟩,hr⟩:=hl
   have hL:L∈X.fs:=hs L (by unfold frs;rw [PZ,hf];exact Qt)
   obtain ⟨sl,e⟩:=I.base.slot L o ho (I.ok.frf L hL) hL fun z=>I.ok.exfs L z hL
   exact ⟨hk,⟨L,_,hf,hn,e,hd⟩,ih (fun b hb=>hs b (by unfold frs;rw [PZ,hf];exact Qe _ hb)) hr⟩
 exact all X.outer (fun _ hb=>hb) I.ok.funs
theorem Inv.stack (I:Inv X KJ σ H s):s.heap.FunFrames X.base X.stack:=by
 rcases I.ok.stk with e | ⟨e,hf⟩
 ·rw [e];exact I.funs
 ·rw [e]
  obtain ⟨m,hn,_⟩:=I.loc
  refine .cons (by rw [I.ok.kind];decide) hf hn ?_ I.funs
  exact Heap.get?_none_of_le (Qv I.ok.bsz I.ok.above)
theorem Inv.stkSub (I:Inv X KJ σ H s):∀ b∈frs X.stack,b∈X.env.locals::X.fs:=fun b hb=>by
 rcases I.ok.stk with e | ⟨e,hf⟩
 ·rw [e] at hb;exact Qe _ hb
 ·rw [e] at hb
  unfold frs at hb
  rw [PZ,hf] at hb
  exact hb
theorem Inv.stkFree (I:Inv X KJ σ H s):∀ b∈frs X.stack,H b=none:=fun b hb=>by
 rcases Qc.mp (I.stkSub b hb) with e | hb
 ·rw [e];exact I.free
 ·obtain ⟨_,o,ho,_⟩:=I.ok.funs.mem hb
  exact I.base.free b o ho (I.ok.frf b hb) fun z=>I.ok.exfs b z hb
theorem Inv.step {g':Array GenState} {t':Nat} {d':Drawn} {ch:List Kc} (I:Inv X KJ σ H s)
  (hch:∀ b∈ch,(b∈X.ex\/X.s₀.heap.objs.size<=b)/\b≠X.env.locals/\(∀ x c,X.env.cells.lookup x=some c->c≠b)/\∀ p∈X.pn++KJ,p.1≠b)
  (keep:∀ b o,b≠X.env.locals->b∉X.fs->b∉ch->s.heap.get? b=some o->H b=none->h'.get? b=some o)
  (slot:∀ b o,b≠X.env.locals->b∈X.fs->b∉ch->s.heap.get? b=some o->H b=none->∃ sl,h'.get? b=some { o with slots:=sl }) (free:∀ b o,b∉ch->s.heap.get? b=some o->H b=none->H' b=none)
  (there:∀ b o,b∉ch->s.heap.get? b=some o->∃ o',h'.get? b=some o')
  (tups:∀ b xs,H b=some (.tup xs)->H' b=some (.tup xs)) (frzs:∀ b o u,H b=some (.frz o u)->H' b=some (.frz o u)) (tbls:∀ b ps,H b=some (.tbl ps)->∃ more,H' b=some (.tbl (ps++more)))
  (ns:∀ m,s.heap.Ns X.env.locals m->h'.Ns X.env.locals m) (hok:HOk X.prog X.w H' h') (hg:AllBare g') :
  Inv X KJ σ H' { s with heap:=h',gens:=g',drawn:=d',toks:=t' }:=by
 have neL:∀ b o,X.s₀.heap.get? b=some o->b≠X.env.locals:=fun b o e=>Qu (Qr (Qk e) I.ok.above)
 have neC:∀ b o,X.s₀.heap.get? b=some o->b∉X.ex->b∉ch:=fun b o e hx hb=>by
  rcases (hch b hb).1 with z | z
  ·exact hx z
  ·exact absurd (Qr (Qk e) z) (Pd _)
 have cellK:∀ x c,X.env.cells.lookup x=some c->∀ v,s.heap.IsCell c v->h'.IsCell c v:=fun x c e v ⟨o,ho,hd⟩=>by
  have nch:c∉ch:=fun z=>(hch c z).2.2.1 x c e rfl
  by_cases hc:c∈X.fs
  ·obtain ⟨sl,q⟩:=slot c o (I.cne x c e) hc nch ho (I.freeC x c e)
   exact ⟨_,q,hd⟩
  ·exact ⟨o,keep c o (I.cne x c e) hc nch ho (I.freeC x c e),hd⟩
 refine ⟨I.ok,I.os,hg,⟨fun b o e n hb hx=>?_,fun b o e n hb hx=>?_,fun b o e n hx=>?_,fun b o e hx=>?_,fun b xs e=>tups b xs (I.base.tups b xs e),fun b o xs e=>frzs b o xs (I.base.frzs b o xs e),fun b ps e=>?_⟩,?_,fun x c e=>?_,?_,fun x c e=>?_,fun p hp=>?_,hok,I.len⟩
 ·exact keep b o (neL b o e) hb (neC b o e hx) (I.base.keep b o e n hb hx) (I.base.free b o e n hx)
 ·obtain ⟨sl,e1⟩:=I.base.slot b o e n hb hx
  obtain ⟨sl',e2⟩:=slot b _ (neL b o e) hb (neC b o e hx) e1 (I.base.free b o e n hx)
  exact ⟨sl',e2⟩
 ·obtain ⟨o',e1⟩:=I.base.there b o e hx
  exact free b o' (neC b o e hx) e1 (I.base.free b o e n hx)
 ·obtain ⟨o',e1⟩:=I.base.there b o e hx
  exact there b o' (neC b o e hx) e1
 ·obtain ⟨m1,e1⟩:=I.base.tbls b ps e
  obtain ⟨m2,e2⟩:=tbls b _ e1
  exact ⟨m1++m2,by rw [e2,Array.append_assoc]⟩
 ·obtain ⟨m,hn,hl⟩:=I.loc
  refine ⟨m,ns m hn,fun i x v e1 e2 e3=>?_⟩
  obtain ⟨u,r,l⟩:=hl i x v e1 e2 e3
  refine ⟨u,r,?_⟩
  rcases l with l | ⟨k,c,e,z⟩
  ·exact .inl l
  ·exact .inr ⟨k,c,e,cellK x c e _ z⟩
 ·obtain ⟨v,z⟩:=I.cell x c e
  exact ⟨v,cellK x c e v z⟩
 ·obtain ⟨m,⟨o,_,_,ho,_⟩,_⟩:=I.loc
  exact free _ o (fun z=>(hch _ z).2.1 rfl) ho I.free
 ·obtain ⟨v,o,ho,hd⟩:=I.cell x c e
  exact free c o (fun z=>(hch c z).2.2.1 x c e rfl) ho (I.freeC x c e)
 ·obtain ⟨e,n,ne,nf,d⟩:=I.pin p hp
  have nch:p.1∉ch:=fun z=>(hch p.1 z).2.2.2 p hp rfl
  exact ⟨keep p.1 p.2 ne nf nch e n,free p.1 p.2 nch e n,ne,nf,d⟩
theorem Inv.un {t':Nat} (I:Inv X KJ σ H s) (u:Un X.fs [] H H' s.heap h') (hok:HOk X.prog X.w H' h'):Inv X KJ σ H' { s with heap:=h',toks:=t' }:=by
 obtain ⟨m,⟨o,es,ep,ho,r⟩,_⟩:=id I.loc
 obtain ⟨sl,hL⟩:=u.any ho I.free (by simp)
 exact I.step (g':=s.gens) (d':=s.drawn) (ch:=[]) (fun _ z=>nomatch z) (fun b o _ hb _ e n=>u.keep b o e n hb (by simp)) (fun b o _ hb _ e n=>u.slot b o e n hb (by simp)) (fun b o _ e n=>u.free b o e n (by simp)) (fun b o _ e=>u.there b o e (by simp)) u.tups u.frzs u.tbls (fun m' hm=>by
  obtain ⟨o',es',ep',ho',r'⟩:=hm
  rw [ho] at ho';cases ho'
  exact ⟨_,es',ep',hL,r'⟩) hok I.bare
theorem Inv.call {g':Array GenState} {t':Nat} {d':Drawn} {ch:List Kc} (I:Inv X KJ σ H s) (u:Un (frs X.stack) ch H H' s.heap h') (hok:HOk X.prog X.w H' h') (hg:AllBare g')
  (hch:∀ b∈ch,(b∈X.ex\/X.s₀.heap.objs.size<=b)/\b≠X.env.locals/\(∀ x c,X.env.cells.lookup x=some c->c≠b)/\∀ p∈X.pn++KJ,p.1≠b) :
  Inv X KJ σ H' { s with heap:=h',gens:=g',drawn:=d',toks:=t' }:=by
 obtain ⟨m,⟨o,es,ep,ho,r⟩,_⟩:=id I.loc
 obtain ⟨sl,hL⟩:=u.any ho I.free fun z=>(hch _ z).2.1 rfl
 exact I.step (ch:=ch) hch (fun b o hL hb hc e n=>u.keep b o e n (fun z=>(Qc.mp (I.stkSub b z)).elim hL hb) hc) (fun b o _ _ hc e n=>u.any e n hc) (fun b o hc e n=>u.free b o e n hc) (fun b o hc e=>u.there b o e hc) u.tups u.frzs u.tbls (fun m' hm=>by
  obtain ⟨o',es',ep',ho',r'⟩:=hm
  rw [ho] at ho';cases ho'
  exact ⟨_,es',ep',hL,r'⟩) hok hg
theorem Inv.turned {t':Nat} {it:Kc} (I:Inv X KJ σ H s) (k:∀ b o,b≠it->s.heap.get? b=some o->h'.get? b=some o) (hn:H it=none) (hL:it≠X.env.locals)
  (h1:it∈X.ex\/X.s₀.heap.objs.size<=it) (h2:∀ x c,X.env.cells.lookup x=some c->c≠it) (h3:∀ p∈X.pn++KJ,p.1≠it):Inv X KJ σ H { s with heap:=h',toks:=t' }:=by
 have nit:∀ b u,H b=some u->b≠it:=fun b u e z=>by rw [z,hn] at e;cases e
 refine I.step (g':=s.gens) (d':=s.drawn) (ch:=[it]) (fun b hb=>?_) (fun b o _ _ hc e _=>k b o (fun z=>hc (by simp [z])) e) (fun b o _ _ hc e _=>⟨o.slots,k b o (fun z=>hc (by simp [z])) e⟩) (fun _ _ _ _ n=>n)
  (fun b o hc e=>⟨o,k b o (fun z=>hc (by simp [z])) e⟩) (fun _ _ e=>e) (fun _ _ _ e=>e) (fun b ps e=>⟨#[],by rw [e];simp⟩) (fun m hm=>?_) (fun b u e=>?_) I.bare
 ·have e:b=it:=by simpa using hb
  subst e
  exact ⟨h1,hL,h2,h3⟩
 ·obtain ⟨o,es,ep,ho,r⟩:=hm
  exact ⟨o,es,ep,k _ o (Ne.symm hL) ho,r⟩
 ·refine (I.hok b u e).stay (fun c v hc q=>k c v ?_ q) (fun _ q=>q) fun _ _ q=>q
  rcases hc with z | z
  ·rw [z];exact nit b u e
  ·exact nit c _ z
theorem Inv.tok (I:Inv X KJ σ H s) (t:Nat):Inv X KJ σ H { s with toks:=t }:=I.un (h':=s.heap) (t':=t) Un.refl I.hok
theorem Inv.kept {t':Nat} (I:Inv X KJ σ H s) (k:∀ b u,s.heap.get? b=some u->h'.get? b=some u):Inv X KJ σ H { s with heap:=h',toks:=t' }:=I.un (Un.kept k) (I.hok.kept k)
theorem Inv.laid {a:Kc} {o:HO} {t':Nat} (I:Inv X KJ σ H s) (k:∀ b u,s.heap.get? b=some u->h'.get? b=some u) (hp:s.heap.objs.size<=a) (new:yH X.prog X.w (upd H a o) h' a o) :
  Inv X KJ σ (upd H a o) { s with heap:=h',toks:=t' }:=I.un (Un.laid k hp (I.hok.fresh hp)) (I.hok.laid k hp new)
theorem Inv.write {x e:Kc} {o:HO} {t':Nat} (I:Inv X KJ σ H s) (mu:Mut (H x)) (he:e=x\/H e=some (.own x)) (k:∀ b u,b≠e->s.heap.get? b=some u->h'.get? b=some u) (heo:∃ u,h'.get? e=some u)
  (new:yH X.prog X.w (upd H x o) h' x o):Inv X KJ σ (upd H x o) { s with heap:=h',toks:=t' }:=I.un (Un.write mu he k heo) (I.hok.write mu he k heo new)
theorem Inv.pins_of {pins':List (Kc×KA)} (I:Inv X KJ σ H s) (h:∀ p∈pins',s.heap.get? p.1=some p.2/\H p.1=none/\p.1≠X.env.locals/\p.1∉X.fs/\∀ v,p.2.data≠.cell v):Inv X pins' σ H s :=
 ⟨I.ok,I.os,I.bare,I.base,I.loc,I.cell,I.free,I.freeC,fun p hp=>(QL.mp hp).elim (fun z=>I.pin p (List.mem_append_left _ z)) (h p),I.hok,I.len⟩
theorem nodup_ix {N:List Kw} (hN:N.Nodup) {i j:Nat} {x:Kw} (a:N[i]?=some x) (b:N[j]?=some x):i=j:=by
 obtain ⟨h1,e1⟩:=Qm.mp a
 obtain ⟨h2,e2⟩:=Qm.mp b
 exact (List.getElem_inj hN).mp (e1.trans e2.symm)
theorem store_ok2 {M:Model} {A:Kj} {E:Ka->Kb->Prop} {i:Nat} {x:Kw} {v:V} {u:Ka} {Q:Unit->Kb->Prop} (I:Inv X KJ σ H s) (hN:X.N.Nodup) (hi:X.N[i]?=some x) (hx:Loc X.env.scope x) (r:Zu v u)
  (h:∀ s',Inv X KJ (σ.set i (some v)) H s'->(∃ a,Heap.SameBut a s.heap s'.heap/\(a=X.env.locals\/X.env.cells.lookup x=some a))->Q () s') (hf:X.fn x=true\/X.env.scope.names.lookup x=some .local:=by first | exact .inl rfl | exact .inr rfl | assumption):Ko M A (storeName X.env x u) Q E s:=by
 obtain ⟨m,hn,hl⟩:=id I.loc
 have hcls:(X.env.scope.kind == .class||(X.env.scope.kind == .module&&X.env.locals != X.env.globals))=false:=by rw [I.ok.kind];rfl
 have hiσ:i<σ.length:=by rw [I.len];exact (Qm.mp hi).1
 have cne:=I.cne
 have tracked:∀ {a:Kc} {h':Kl},(∃ o,s.heap.get? a=some o/\H a=none)->Heap.SameBut a s.heap h'->HOk X.prog X.w H h':=fun {a h'} ha hs b ob e=>by
  obtain ⟨_,_,hfree⟩:=ha
  refine (I.hok b ob e).stay (fun c w' hc q=>(hs.2 c ?_).trans q) (fun _ q=>q) fun _ _ q=>q
  rintro rfl
  rcases hc with rfl | hc
  ·rw [hfree] at e;cases e
  ·rw [hfree] at hc;cases hc
 rcases hx with hk | hk
 ·refine wpAny_storeName_local hk hn (fun h' hn' hs=>?_) hcls
  obtain ⟨oL,_,_,hoL,_⟩:=id hn
  refine h _ ⟨I.ok,I.os,I.bare,⟨fun b o e n hb hx=>?_,fun b o e n hb hx=>?_,I.base.free,fun b o e hx=>?_,I.base.tups,I.base.frzs,I.base.tbls⟩,⟨_,hn',fun j y v' e1 e2 e3=>?_⟩,fun y c e=>?_,I.free,I.freeC,fun p hp=>?_,tracked ⟨oL,hoL,I.free⟩ hs,by simpa using I.len⟩ ⟨_,hs,.inl rfl⟩
  ·exact (hs.2 b (Qu (Qr (Qk e) I.ok.above))).trans (I.base.keep b o e n hb hx)
  ·obtain ⟨sl,e1⟩:=I.base.slot b o e n hb hx
   exact ⟨sl,(hs.2 b (Qu (Qr (Qk e) I.ok.above))).trans e1⟩
  ·obtain ⟨o',e1⟩:=I.base.there b o e hx
   exact ⟨o',(hs.2 b (Qu (Qr (Qk e) I.ok.above))).trans e1⟩
  ·by_cases hj:j=i
   ·subst hj
    rw [hi] at e1;cases e1
    rw [QN hiσ] at e2
    cases e2
    exact ⟨u,r,.inl ⟨hk,by simp⟩⟩
   ·rw [List.getElem?_set_ne (Ne.symm hj)] at e2
    obtain ⟨u',r',q⟩:=hl j y v' e1 e2 e3
    refine ⟨u',r',?_⟩
    rcases q with ⟨k,e⟩ | ⟨k,c,e,z⟩
    ·refine .inl ⟨k,?_⟩
     have:y≠x:=fun e=>hj (nodup_ix hN e1 (e▸hi))
     simp [this,e]
    ·exact .inr ⟨k,c,e,z.sameBut hs (cne y c e)⟩
  ·obtain ⟨w',z⟩:=I.cell y c e
   exact ⟨w',z.sameBut hs (cne y c e)⟩
  ·obtain ⟨e,n,ne,nf,d⟩:=I.pin p hp
   exact ⟨(hs.2 p.1 ne).trans e,n,ne,nf,d⟩
 ·have hfn:X.fn x=true:=by
   rcases hf with z | z
   ·exact z
   ·rw [z] at hk;cases hk
  obtain ⟨c,hc⟩:=I.ok.has x (.inl hk)
  obtain ⟨w',z⟩:=I.cell x c hc
  refine wpAny_storeName_cell I.ok.kind hk hc z (fun h' hc' hs=>?_)
  obtain ⟨oc,hoc,hocd⟩:=id z
  refine h { s with heap:=h' } ⟨I.ok,I.os,I.bare,⟨fun b o e n hb hx=>?_,fun b o e n hb hx=>?_,I.base.free,fun b o e hx=>?_,I.base.tups,I.base.frzs,I.base.tbls⟩,⟨m,hn.sameBut hs (Ne.symm (cne x c hc)),fun j y v' e1 e2 e3=>?_⟩,fun y c' e=>?_,I.free,I.freeC,fun p hp=>?_,tracked ⟨oc,hoc,I.freeC x c hc⟩ hs,by simpa using I.len⟩ ⟨c,hs,.inr hc⟩
  ·exact (hs.2 b (Qu (Qr (Qk e) (I.ok.cab x c hfn hc)))).trans (I.base.keep b o e n hb hx)
  ·obtain ⟨sl,e1⟩:=I.base.slot b o e n hb hx
   exact ⟨sl,(hs.2 b (Qu (Qr (Qk e) (I.ok.cab x c hfn hc)))).trans e1⟩
  ·obtain ⟨o',e1⟩:=I.base.there b o e hx
   exact ⟨o',(hs.2 b (Qu (Qr (Qk e) (I.ok.cab x c hfn hc)))).trans e1⟩
  ·by_cases hj:j=i
   ·subst hj
    rw [hi] at e1;cases e1
    rw [QN hiσ] at e2
    cases e2
    exact ⟨u,r,.inr ⟨.inl hk,c,hc,hc'⟩⟩
   ·rw [List.getElem?_set_ne (Ne.symm hj)] at e2
    obtain ⟨u',r',q⟩:=hl j y v' e1 e2 e3
    refine ⟨u',r',?_⟩
    rcases q with q | ⟨k,c',e,z'⟩
    ·exact .inl q
    ·refine .inr ⟨k,c',e,z'.sameBut hs ?_⟩
     rintro rfl
     exact hj (nodup_ix hN e1 (I.ok.inj _ _ _ e hc▸hi))
  ·by_cases hcc:c'=c
   ·subst hcc;exact ⟨_,hc'⟩
   ·obtain ⟨w2,z2⟩:=I.cell y c' e
    exact ⟨w2,z2.sameBut hs hcc⟩
  ·obtain ⟨e,n,ne,nf,d⟩:=I.pin p hp
   refine ⟨(hs.2 p.1 ?_).trans e,n,ne,nf,d⟩
   intro q
   rw [q,hoc] at e
   have q':oc=p.2:=Option.some.inj e
   exact d w' (by rw [<- q'];exact hocd)
theorem store_ok {M:Model} {A:Kj} {E:Ka->Kb->Prop} {i:Nat} {x:Kw} {v:V} {u:Ka} {Q:Unit->Kb->Prop} (I:Inv X KJ σ H s) (hN:X.N.Nodup) (hi:X.N[i]?=some x) (hx:Loc X.env.scope x) (r:Zu v u)
  (h:∀ s',Inv X KJ (σ.set i (some v)) H s'->Q () s') (hf:X.fn x=true\/X.env.scope.names.lookup x=some .local:=by first | exact .inl rfl | exact .inr rfl | assumption):Ko M A (storeName X.env x u) Q E s :=
 store_ok2 I hN hi hx r (fun s' I' _=>h s' I') hf
theorem Inv.call' {s':Kb} {ch:List Kc} (I:Inv X KJ σ H s) (ho:s'.os=s.os) (u:Un (frs X.stack) ch H H' s.heap s'.heap) (hok:HOk X.prog X.w H' s'.heap) (hg:AllBare s'.gens)
  (hch:∀ b∈ch,(b∈X.ex\/X.s₀.heap.objs.size<=b)/\b≠X.env.locals/\(∀ x c,X.env.cells.lookup x=some c->c≠b)/\∀ p∈X.pn++KJ,p.1≠b):Inv X KJ σ H' s':=by
 obtain ⟨h',g',d',t',o'⟩:=s'
 have e:o'=s.os:=ho
 subst e
 exact I.call (g':=g') (t':=t') (d':=d') u hok hg hch
end
abbrev XK:=Ka->Option Kc->Hp->Prop
abbrev St:=List (Option V)
abbrev VK:=V->Hp->Prop
abbrev TE:=St->Hp->VK->Prop
abbrev TT:=St->Hp->(Bool->Hp->Prop)->Prop
abbrev TA:=St->Hp->(List V->Hp->Prop)->Prop
structure Ends where
 nx:St->Hp->Prop
 rt:VK
 bk:St->Hp->Prop:=fun _ _=>False
 ct:St->Hp->Prop:=fun _ _=>False
abbrev TS:=Ends->St->Hp->Prop
def EP (X:Cx) (KJ:List (Kc×KA)) (σ:St) (Q:VK) (u:Ka) (s':Kb):Prop:=∃ v H',Inv X KJ σ H' s'/\Zu v u/\Q v H'
def TP (X:Cx) (KJ:List (Kc×KA)) (σ:St) (Q:Bool->Hp->Prop) (b:Bool) (s':Kb):Prop:=∃ H',Inv X KJ σ H' s'/\Q b H'
def AP (X:Cx) (KJ:List (Kc×KA)) (σ:St) (Q:List V->Hp->Prop) (us:List Ka) (s':Kb):Prop:=∃ vs H',Inv X KJ σ H' s'/\zY vs us/\Q vs H'
def SP (X:Cx) (KJ:List (Kc×KA)) (D:Ends) (f:Flow) (s':Kb):Prop :=
 match f with
 | .next=>∃ σ' H',Inv X KJ σ' H' s'/\D.nx σ' H'
 | .brk=>∃ σ' H',Inv X KJ σ' H' s'/\D.bk σ' H'
 | .cont=>∃ σ' H',Inv X KJ σ' H' s'/\D.ct σ' H'
 | .ret u=>∃ v σ' H',Inv X KJ σ' H' s'/\Zu v u/\D.rt v H'
def PE (X:Cx) (e:Kv) (t:TE):Prop :=
 ∀ (KJ:List (Kc×KA)) (s:Kb) (σ:St) (H:Hp) (Q:VK),Inv X KJ σ H s->t σ H Q->Ko (Ky X.prog X.w) X.A (Kz e X.env) (EP X KJ σ Q) X.xe s
def PT (X:Cx) (e:Kv) (t:TT):Prop :=
 ∀ (KJ:List (Kc×KA)) (s:Kb) (σ:St) (H:Hp) (Q:Bool->Hp->Prop),Inv X KJ σ H s->t σ H Q->Ko (Ky X.prog X.w) X.A (isTrue e X.env (Kz e X.env)) (TP X KJ σ Q) X.xe s
def PW (X:Cx) (e:Kv) (t:TT):Prop :=
 ∀ (whole:Sem Ka) (KJ:List (Kc×KA)) (s:Kb) (σ:St) (H:Hp) (Q:Bool->Hp->Prop),Inv X KJ σ H s->t σ H Q->Ko (Ky X.prog X.w) X.A (isTrue e X.env whole) (TP X KJ σ Q) X.xe s
theorem PW.pt {X:Cx} {e:Kv} {t:TT} (h:PW X e t):PT X e t:=h _
def PA (X:Cx) (es:List Kv) (t:TA):Prop :=
 ∀ (pos:KB) (KJ:List (Kc×KA)) (s:Kb) (σ:St) (H:Hp) (Q:List V->Hp->Prop),Inv X KJ σ H s->t σ H Q->Ko (Ky X.prog X.w) X.A (spliced (Kq pos (Ke es X.env))) (AP X KJ σ Q) X.xe s
def PS (X:Cx) (st:Kx) (t:TS):Prop :=
 ∀ (KJ:List (Kc×KA)) (s:Kb) (σ:St) (H:Hp) (D:Ends),Inv X KJ σ H s->t D σ H->Ko (Ky X.prog X.w) X.A (exec st X.env) (SP X KJ D) X.xe s
def PSs (X:Cx) (st:List Kx) (t:TS):Prop :=
 ∀ (KJ:List (Kc×KA)) (s:Kb) (σ:St) (H:Hp) (D:Ends),Inv X KJ σ H s->t D σ H->Ko (Ky X.prog X.w) X.A (execs st X.env) (SP X KJ D) X.xe s
theorem thn {α:Type} {t:Sem α} {Q Q':α->Kb->Prop} {M:Model} {A:Kj} {E:Ka->Kb->Prop} {s:Kb} (h:Ko M A t Q E s) (hQ:∀ a s,Q a s->Q' a s):Ko M A t Q' E s:=Pa h hQ fun _ _ x=>x
end L2
namespace L2
open PySem PySem.Spec PyProof.Rows
section
variable {X:Cx}
theorem bin {a b:Kv} {ta tb:TE} (ha:PE X a ta) (hb:PE X b tb) {KJ:List (Kc×KA)} {s:Kb} {σ:St} {H:Hp} {R:V->V->Hp->Prop} (I:Inv X KJ σ H s) (h:ta σ H fun x H1=>tb σ H1 fun y H2=>R x y H2)
  {α:Type} {Q:α->Kb->Prop} {f:Ka->Ka->Sem α}
  (hf:∀ v u s2 x y H2,Inv X KJ σ H2 s2->Zu x v->Zu y u->R x y H2->Ko (Ky X.prog X.w) X.A (f v u) Q X.xe s2) :
  Ko (Ky X.prog X.w) X.A (Kz a X.env) (fun v s₁=>Ko (Ky X.prog X.w) X.A (Kz b X.env) (fun u s₂=>Ko (Ky X.prog X.w) X.A (f v u) Q X.xe s₂) X.xe s₁) X.xe s:=by
 refine thn (ha KJ s σ H _ I h) fun v s1 ⟨x,H1,I1,r1,q1⟩=>?_
 refine thn (hb KJ s1 σ H1 _ I1 q1) fun u s2 ⟨y,H2,I2,r2,q2⟩=>?_
 exact hf v u s2 x y H2 I2 r1 r2 q2
def ZA (i:Nat):TE:=fun σ H Q=>∃ v,σ[i]?=some (some v)/\Q v H
def tC (v:V):TE:=fun _ H Q=>Q v H
theorem pe_var {i:Nat} {x:Kw} {pos:KB} (hN:X.N[i]?=some x) (hv:Vis X.env.scope x) (hd:(x == ("__debug__":Kw))=false:=by decide) (hcd:(x == ("__classdict__":Kw))=false:=by decide):PE X (.Name x pos) (ZA i):=by
 intro KJ s σ H Q I h
 obtain ⟨v,e,h⟩:=h
 obtain ⟨m,hn,hl⟩:=I.loc
 obtain ⟨u,r,l⟩:=hl i x v hN e hv
 have fin:EP X KJ σ Q u s:=⟨v,H,I,r,h⟩
 rcases l with ⟨hk,hm⟩ | ⟨hk,c,hc,hcell⟩
 ·exact wpAny_Name (wpAny_loadName_local I.ok.kind hk hn hm fin) hd
 ·rcases hk with hk | hk
  ·exact wpAny_Name (wpAny_loadName_cell I.ok.kind hk hc hcell fin) hd
  ·exact wpAny_Name (wpAny_loadName_free I.ok.kind hk hc hcell fin hcd) hd
theorem yj {i j pos}:PE X (.Constant (.int i) j pos) (tC (.int i)):=fun _ _ _ H _ I h=>wpAny_Constant_int ⟨.int i,H,I.tok _,⟨_,rfl⟩,h⟩
theorem pe_bl {b j pos}:PE X (.Constant (.bool b) j pos) (tC (.bl b)):=fun _ _ _ H _ I h=>Constant_bool ⟨.bl b,H,I,rfl,h⟩
theorem pe_non {j pos}:PE X (.Constant .none j pos) (tC .non):=fun _ _ _ H _ I h=>Constant_none ⟨.non,H,I,rfl,h⟩
theorem yw {x j pos}:PE X (.Constant (.str x) j pos) (tC (.str x)):=fun _ _ _ H _ I h=>Calls.Constant_str ⟨.str x,H,I.tok _,⟨_,rfl⟩,h⟩
def Gl (X:Cx) (x:Kw):Prop:=X.env.kindOf x=some .globalImplicit
theorem ld_glob {E:Ka->Kb->Prop} {KJ:List (Kc×KA)} {s:Kb} {σ:St} {H:Hp} {x:Kw} {u:Ka} {pos:KB} {Q:Ka->Kb->Prop} (I:Inv X KJ σ H s) (hg:Gl X x) (hm:X.mg x=some u) (h:Q u s)
  (hd:(x == ("__debug__":Kw))=false:=by decide):Ko (Ky X.prog X.w) X.A (Kz (.Name x pos) X.env) Q E s :=
 Calls.Name_function_global I.ok.kind hg (Calls.loadGlobal_global (by rw [I.ok.glob];exact I.mod.glob.keeps I.bk) hm h) hd
theorem jL {E:Ka->Kb->Prop} {KJ:List (Kc×KA)} {s:Kb} {σ:St} {H:Hp} {x:Kw} {u:Ka} {pos:KB} {Q:Ka->Kb->Prop} (I:Inv X KJ σ H s) (hg:Gl X x) (hm:X.mg x=none) (hv:bootBuiltins x=some u) (h:Q u s)
  (hn:x≠"__name__":=by decide) (hd:(x == ("__debug__":Kw))=false:=by decide):Ko (Ky X.prog X.w) X.A (Kz (.Name x pos) X.env) Q E s:=by
 obtain ⟨mb,h1,h2⟩:=I.mod.blt
 exact Calls.Name_function_global I.ok.kind hg (Calls.loadGlobal_builtin (by rw [I.ok.glob];exact I.mod.glob.keeps I.bk) hm (by rw [I.ok.blt];exact h1.keeps I.bk) ((h2 x hn).trans hv) h) hd
theorem pe_glob {x:Kw} {v:V} {u:Ka} {pos:KB} (hg:Gl X x) (hm:X.mg x=some u) (r:Zu v u) (hd:(x == ("__debug__":Kw))=false:=by decide):PE X (.Name x pos) (tC v) :=
 fun _ _ _ H _ I h=>ld_glob I hg hm ⟨v,H,I,r,h⟩ hd
theorem pe_bltn {x:Kw} {v:V} {u:Ka} {pos:KB} (hg:Gl X x) (hm:X.mg x=none) (hv:bootBuiltins x=some u) (r:Zu v u) (hn:x≠"__name__":=by decide) (hd:(x == ("__debug__":Kw))=false:=by decide):PE X (.Name x pos) (tC v) :=
 fun _ _ _ H _ I h=>jL I hg hm hv ⟨v,H,I,r,h⟩ hn hd
variable {a b:Kv} {ta tb:TE} {pos:KB}
def PC (X:Cx) (op:CmpOp) (a b:Kv) (t:TE):Prop :=
 ∀ (KJ:List (Kc×KA)) (s:Kb) (σ:St) (H:Hp) (Q:VK),Inv X KJ σ H s->t σ H Q ->
  Ko (Ky X.prog X.w) X.A (Kz a X.env) (fun v s₁=>Ko (Ky X.prog X.w) X.A (Kz b X.env) (fun u s₂=>Ko (Ky X.prog X.w) X.A (Km op v u) (EP X KJ σ Q) X.xe s₂) X.xe s₁) X.xe s
theorem nobehind (b:Kv) {op:CmpOp} (h:op≠.In) (h2:op≠.NotIn):behindInMarks op b=false:=by
 have e1:(op == CmpOp.In)=false:=by cases op <;> first | rfl | exact absurd rfl h
 have e2:(op == CmpOp.NotIn)=false:=by cases op <;> first | rfl | exact absurd rfl h2
 cases b <;> simp [behindInMarks,e1,e2]
def tB (t:TE):TT:=fun σ H Q=>t σ H fun x H1=>∃ c,x=.bl c/\Q c H1
theorem pt_cmp {op:CmpOp} {t:TE} (h:PC X op a b t) (h1:behindInMarks op b=false:=by first | exact nobehind _ (by decide) (by decide) | rfl):PT X (.Compare a [op] [b] pos) (tB t):=by
 intro KJ s σ H Q I hw
 refine wpAny_isTrue_Compare1 (thn (h KJ s σ H _ I hw) fun v s1 h1=>thn h1 fun u s2 h2=>thn h2 fun c s3 ⟨x,H1,I1,r1,q1⟩=>?_) h1
 obtain ⟨d,rfl,q⟩:=q1
 cases r1
 exact Pn ⟨H1,I1,q⟩
theorem pt_val {e:Kv} {t:TE} (h:PE X e t) (he:∀ whole,isTrue e X.env whole=(do let v <- whole;standAt e.pos;holding [v] (truthy v)):=by intro _;rfl):PT X e (tB t):=by
 intro KJ s σ H Q I hw
 refine isTrue_plain (thn (h KJ s σ H _ I hw) fun v s1 ⟨x,H1,I1,r1,q1⟩=>?_) (he _)
 obtain ⟨d,rfl,q⟩:=q1
 cases r1
 exact Pn ⟨H1,I1,q⟩
variable {tA tB':TT} {Zc:List Kv}
def tAnd (t u:TT):TT:=fun σ H Q=>t σ H fun c H1=>if c=true then u σ H1 Q else Q false H1
def tOr (t u:TT):TT:=fun σ H Q=>t σ H fun c H1=>if c=true then Q true H1 else u σ H1 Q
def tNot (t:TT):TT:=fun σ H Q=>t σ H fun c H1=>Q (!c) H1
theorem pw_and1 (ha:PT X a tA):PW X (.BoolOp .And [a] pos) tA:=by
 intro wh KJ s σ H Q I h
 refine isTrue_and (thn (ha KJ s σ H Q I h) fun c s1 e=>?_)
 cases c with
 | true=>exact isTrue_and_nil e
 | false=>exact e
theorem pw_or1 (ha:PT X a tA):PW X (.BoolOp .Or [a] pos) tA:=by
 intro wh KJ s σ H Q I h
 refine isTrue_or (thn (ha KJ s σ H Q I h) fun c s1 e=>?_)
 cases c with
 | false=>exact isTrue_or_nil e
 | true=>exact e
theorem pw_and (ha:PT X a tA) (hb:PW X (.BoolOp .And (b::Zc) pos) tB'):PW X (.BoolOp .And (a::b::Zc) pos) (tAnd tA tB'):=by
 intro wh KJ s σ H Q I h
 refine isTrue_and (thn (ha KJ s σ H _ I h) fun c s1 ⟨H1,I1,q1⟩=>?_)
 cases c with
 | true=>exact hb wh KJ s1 σ H1 Q I1 q1
 | false=>exact ⟨H1,I1,q1⟩
theorem pw_or (ha:PT X a tA) (hb:PW X (.BoolOp .Or (b::Zc) pos) tB'):PW X (.BoolOp .Or (a::b::Zc) pos) (tOr tA tB'):=by
 intro wh KJ s σ H Q I h
 refine isTrue_or (thn (ha KJ s σ H _ I h) fun c s1 ⟨H1,I1,q1⟩=>?_)
 cases c with
 | true=>exact ⟨H1,I1,q1⟩
 | false=>exact hb wh KJ s1 σ H1 Q I1 q1
theorem pt_not (ha:PT X a tA):PT X (.UnaryOp .Not a pos) (tNot tA):=by
 intro KJ s σ H Q I h
 exact isTrue_not (ha KJ s σ H (fun c H1=>Q (!c) H1) I h)
def tAndV (ta tb:TE):TE:=fun σ H Q=>ta σ H fun x H1=>∃ c,x=.bl c/\if c=true then tb σ H1 Q else Q (.bl false) H1
theorem pe_one {op} {t:TE} (h:PE X a t):PE X (.BoolOp op [a] pos) t:=fun KJ s σ H Q I hw=>BoolOp_one (h KJ s σ H Q I hw)
theorem pe_and (ha:PE X a ta) (hb:PE X (.BoolOp .And (b::Zc) pos) tb):PE X (.BoolOp .And (a::b::Zc) pos) (tAndV ta tb):=by
 intro KJ s σ H Q I h
 refine BoolOp_and (thn (ha KJ s σ H _ I h) fun v s1 ⟨x,H1,I1,r1,q1⟩=>?_)
 obtain ⟨c,rfl,q1⟩:=q1
 cases r1
 refine Pn ?_
 cases c with
 | true=>exact hb KJ s1 σ H1 Q I1 q1
 | false=>exact ⟨.bl false,H1,I1,rfl,q1⟩
def tIf (t:TT) (ta tb:TE):TE:=fun σ H Q=>t σ H fun c H1=>if c=true then ta σ H1 Q else tb σ H1 Q
theorem pe_ifExp {c:Kv} (hc:PT X c tA) (ha:PE X a ta) (hb:PE X b tb):PE X (.IfExp c a b pos) (tIf tA ta tb):=by
 intro KJ s σ H Q I h
 refine wpAny_IfExp (thn (hc KJ s σ H _ I h) fun d s1 ⟨H1,I1,q1⟩=>?_)
 cases d with
 | true=>exact ha KJ s1 σ H1 Q I1 q1
 | false=>exact hb KJ s1 σ H1 Q I1 q1
end
end L2
namespace L2
open PySem PySem.Spec PyProof.Rows
def SqL (K:KC) (H:Hp) (a:Kc) (xs:List V):Prop :=
 Rd H a (.lst xs) \/
  ∃ (o:KA) (KP:Array Ka) (n:Nat),K.lookup a=some o/\o.cls=.type "list"/\o.dict=none/\o.data=.seq KP n/\KP.size<=Kg/\zY xs KP.toList
def SqT (K:KC) (H:Hp) (a:Kc) (xs:List V):Prop :=
 Rd H a (.tup xs) \/
  ∃ (o:KA) (KP:Array Ka) (n:Nat),K.lookup a=some o/\o.cls=.type "tuple"/\o.data=.seq KP n/\KP.size<=Kg/\zY xs KP.toList
def absV:Ka->Option V
 | .none=>some .non
 | .bool b=>some (.bl b)
 | .int i _=>some (.int i)
 | .str x _=>some (.str x)
 | .bytes b _=>some (.byt b)
 | .float b _=>some (.flt b)
 | .ref a=>some (.ref a)
 | .type n=>some (.ty n)
 | _=>none
theorem Zu.abs {x:V} {u:Ka} (r:Zu x u):absV u=some x:=by
 cases x with
 | non=>cases r;rfl
 | bl _=>cases r;rfl
 | int _=>obtain ⟨t,rfl⟩:=r;rfl
 | str _=>obtain ⟨t,rfl⟩:=r;rfl
 | byt _=>obtain ⟨t,rfl⟩:=r;rfl
 | flt _=>obtain ⟨t,rfl⟩:=r;rfl
 | ref _=>cases r;rfl
 | ty _=>cases r;rfl
theorem Zu.inj {x y:V} {u:Ka} (r:Zu x u) (q:Zu y u):x=y:=Option.some.inj (r.abs.symm.trans q.abs)
theorem zY.inj:∀ {xs ys:List V} {us:List Ka},zY xs us->zY ys us->xs=ys
 | _,_,_,.nil,.nil=>rfl
 | _,_,_,.cons r t,.cons r' t'=>by rw [r.inj r',zY.inj t t']
section
variable {X:Cx} {KJ:List (Kc×KA)} {σ:St} {H:Hp} {s:Kb} {a:Kc} {xs ys:List V}
theorem Inv.list (I:Inv X KJ σ H s) (h:SqL X.K H a xs):∃ KP:List Ka,zY xs KP/\PlainL s.heap a KP.toArray/\xs.length<=Kg:=by
 rcases h with h | ⟨o,KP,n,hk,hc,hd,hs,hz,r⟩
 ·obtain ⟨z,KP,n,r,e⟩:=h.ok I.hok
  exact ⟨KP,r,⟨_,n,e,rfl,rfl,rfl⟩,z⟩
 ·refine ⟨KP.toList,r,⟨o,n,I.kIn a o hk,hc,hd,by simpa using hs⟩,?_⟩
  have e:=r.length
  simp only [Array.length_toList] at e
  omega
theorem Inv.tuple (I:Inv X KJ σ H s) (h:SqT X.K H a xs):∃ KP:List Ka,zY xs KP/\IsTup s.heap a KP.toArray/\xs.length<=Kg:=by
 rcases h with h | ⟨o,KP,n,hk,hc,hs,hz,r⟩
 ·obtain ⟨z,KP,r,p⟩:=h.ok I.hok
  exact ⟨KP,r,p,z⟩
 ·refine ⟨KP.toList,r,⟨o,I.kIn a o hk,hc,n,by simpa using hs⟩,?_⟩
  have e:=r.length
  simp only [Array.length_toList] at e
  omega
theorem Inv.list_inj (I:Inv X KJ σ H s) (h:SqL X.K H a xs) (h':SqL X.K H a ys):xs=ys:=by
 obtain ⟨KP,r,⟨o,n,e,_,_,d⟩,_⟩:=I.list h
 obtain ⟨its',r',⟨o',n',e',_,_,d'⟩,_⟩:=I.list h'
 rw [e] at e';cases e'
 rw [d] at d'
 injection d' with d1 _
 have:KP=its':=by simpa using congrArg Array.toList d1
 subst this
 exact r.inj r'
theorem Inv.tuple_inj (I:Inv X KJ σ H s) (h:SqT X.K H a xs) (h':SqT X.K H a ys):xs=ys:=by
 obtain ⟨KP,r,⟨o,e,_,n,d⟩,_⟩:=I.tuple h
 obtain ⟨its',r',⟨o',e',_,n',d'⟩,_⟩:=I.tuple h'
 rw [e] at e';cases e'
 rw [d] at d'
 injection d' with d1 _
 have:KP=its':=by simpa using congrArg Array.toList d1
 subst this
 exact r.inj r'
end
abbrev Cx.wish (X:Cx) (E:Ka->Kb->Prop):Cx:={ X with xe:=E }
abbrev Cx.nox (X:Cx):Cx:=X.wish fun _ _=>False
theorem Cx.Ok.wish {X:Cx} (ok:X.Ok) (E:Ka->Kb->Prop):(X.wish E).Ok :=
 ⟨ok.mod,ok.kind,ok.glob,ok.blt,ok.above,ok.inj,ok.has,ok.cab,ok.hd,ok.frames,ok.stk,ok.exf,ok.bs,ok.bsz,ok.noex,ok.exfs,ok.funs,ok.frf,ok.top,ok.tree⟩
theorem Cx.Ok.unwish {X:Cx} {E:Ka->Kb->Prop} (ok:(X.wish E).Ok):X.Ok :=
 ⟨ok.mod,ok.kind,ok.glob,ok.blt,ok.above,ok.inj,ok.has,ok.cab,ok.hd,ok.frames,ok.stk,ok.exf,ok.bs,ok.bsz,ok.noex,ok.exfs,ok.funs,ok.frf,ok.top,ok.tree⟩
section
variable {X:Cx} {KJ:List (Kc×KA)} {σ:St} {H:Hp} {s:Kb} {E:Ka->Kb->Prop}
theorem Inv.wish (I:Inv X KJ σ H s) (E:Ka->Kb->Prop):Inv (X.wish E) KJ σ H s:=⟨I.ok.wish E,I.os,I.bare,I.base,I.loc,I.cell,I.free,I.freeC,I.pin,I.hok,I.len⟩
theorem Inv.unwish (I:Inv (X.wish E) KJ σ H s):Inv X KJ σ H s:=⟨I.ok.unwish,I.os,I.bare,I.base,I.loc,I.cell,I.free,I.freeC,I.pin,I.hok,I.len⟩
theorem SP.unwish {D:Ends} {f:Flow} {s':Kb} (h:SP (X.wish E) KJ D f s'):SP X KJ D f s':=by
 cases f with
 | next=>obtain ⟨σ',H',I,q⟩:=h;exact ⟨σ',H',I.unwish,q⟩
 | brk=>obtain ⟨σ',H',I,q⟩:=h;exact ⟨σ',H',I.unwish,q⟩
 | cont=>obtain ⟨σ',H',I,q⟩:=h;exact ⟨σ',H',I.unwish,q⟩
 | ret u=>obtain ⟨v,σ',H',I,r,q⟩:=h;exact ⟨v,σ',H',I.unwish,r,q⟩
theorem PSs.nox {st:List Kx} {t:TS} (h:PSs X.nox st t):PSs X st t:=fun KJ s σ H D I hw =>
 Pa (h KJ s σ H D (I.wish _) hw) (fun _ _ q=>q.unwish) fun _ _ z=>False.elim z
end
section
variable {X:Cx} {st:Kx} {Zc:List Kx} {t u:TS} {e:Kv} {te:TE} {pos:KB}
def wN:TS:=fun D σ H=>D.nx σ H
def y9 (t u:TS):TS:=fun D σ H=>t { D with nx:=u D } σ H
theorem JU:PSs X [] wN:=fun _ _ σ H _ I h=>wpAny_execs_nil ⟨σ,H,I,h⟩
theorem Zw (h1:PS X st t) (h2:PSs X Zc u):PSs X (st::Zc) (y9 t u):=by
 intro KJ s σ H D I h
 refine wpAny_execs_cons (thn (h1 KJ s σ H { D with nx:=u D } I h) fun f s1 q=>?_)
 cases f with
 | next =>
  obtain ⟨σ',H',I',q⟩:=q
  exact h2 KJ s1 σ' H' D I' q
 | ret v=>exact q
 | brk=>exact q
 | cont=>exact q
theorem Yb (h1:PS X st t):PSs X [st] t:=by
 intro KJ s σ H D I h
 refine wpAny_execs_cons (thn (h1 KJ s σ H D I h) fun f s1 q=>?_)
 cases f with
 | next=>exact wpAny_execs_nil q
 | ret v=>exact q
 | brk=>exact q
 | cont=>exact q
theorem Inv.quiet {KJ:List (Kc×KA)} {σ:St} {H:Hp} {s:Kb} (I:Inv X KJ σ H s):interactive X.env=false:=by simp [interactive,I.ok.kind]
def YJ (te:TE):TS:=fun D σ H=>te σ H fun _ H1=>D.nx σ H1
theorem YN (he:PE X e te) (hs:Kt e none pos.line X.env=pure false:=by rfl):PS X (.Expr e pos) (YJ te):=by
 intro KJ s σ H D I h
 exact wpAny_Expr_any (thn (he KJ s σ H _ I h) fun v s1 ⟨x,H1,I1,r1,q1⟩=>⟨σ,H1,I1,q1⟩) I.quiet hs
def WH (te:TE):TS:=fun D σ H=>te σ H D.rt
theorem Jp (he:PE X e te):PS X (.Return (some e) pos) (WH te):=by
 intro KJ s σ H D I h
 exact wpAny_Return_some (thn (he KJ s σ H _ I h) fun v s1 ⟨x,H1,I1,r1,q1⟩=>⟨x,σ,H1,I1,r1,q1⟩)
def tIfS (c:TT) (t u:TS):TS:=fun D σ H=>c σ H fun b H1=>if b=true then t D σ H1 else u D σ H1
theorem ps_if {c:Kv} {a b:List Kx} {tc:TT} (hc:PT X c tc) (ha:PSs X a t) (hb:PSs X b u):PS X (.If c a b pos) (tIfS tc t u):=by
 intro KJ s σ H D I h
 refine wpAny_If (thn (hc KJ s σ H _ I h) fun d s1 ⟨H1,I1,q1⟩=>?_)
 cases d with
 | true=>exact ha KJ s1 σ H1 D I1 q1
 | false=>exact hb KJ s1 σ H1 D I1 q1
end
abbrev TG:=V->St->Hp->(St->Hp->Prop)->Prop
abbrev TGs:=List V->St->Hp->(St->Hp->Prop)->Prop
def PG (X:Cx) (target:Kv) (t:TG):Prop :=
 ∀ (KJ:List (Kc×KA)) (s:Kb) (σ:St) (H:Hp) (v:V) (u:Ka) (Q:St->Hp->Prop),Inv X KJ σ H s->Zu v u->t v σ H Q ->
  Ko (Ky X.prog X.w) X.A (assign target X.env u) (fun _ s'=>∃ σ' H',Inv X KJ σ' H' s'/\Q σ' H') X.xe s
def PGs (X:Cx) (ts:List Kv) (t:TGs):Prop :=
 ∀ (KJ:List (Kc×KA)) (s:Kb) (σ:St) (H:Hp) (vs:List V) (us:List Ka) (Q:St->Hp->Prop),Inv X KJ σ H s->zY vs us->t vs σ H Q ->
  Ko (Ky X.prog X.w) X.A (assignInOrder ((assignEach ts X.env).map (·.2)) us) (fun _ s'=>∃ σ' H',Inv X KJ σ' H' s'/\Q σ' H') X.xe s
abbrev TSet:=V->V->V->Hp->(Hp->Prop)->Prop
def PSet (X:Cx) (t:TSet):Prop :=
 ∀ (KJ:List (Kc×KA)) (s:Kb) (σ:St) (H:Hp) (o i v:V) (ov iv u:Ka) (Q:Hp->Prop),Inv X KJ σ H s->Zu o ov->Zu i iv->Zu v u->t o i v H Q ->
  Ko (Ky X.prog X.w) X.A (setItem ov iv u) (fun _ s'=>∃ H',Inv X KJ σ H' s'/\Q H') X.xe s
section
variable {X:Cx} {pos:KB}
def ZM (i:Nat):TG:=fun v σ H Q=>Q (σ.set i (some v)) H
theorem pg_name {i:Nat} {x:Kw} (hN:X.N.Nodup) (hi:X.N[i]?=some x) (hx:Loc X.env.scope x) (hf:X.fn x=true\/X.env.scope.names.lookup x=some .local:=by first | exact .inl rfl | exact .inr rfl | assumption):PG X (.Name x pos) (ZM i):=by
 intro KJ s σ H v u Q I r h
 exact wpAny_assign_Name (store_ok I hN hi hx r (fun s' I'=>⟨_,H,I',h⟩) hf)
def gNil:TGs:=fun vs σ H Q=>vs=[]/\Q σ H
def gCons (t:TG) (u:TGs):TGs:=fun vs σ H Q=>∃ v r,vs=v::r/\t v σ H fun σ' H'=>u r σ' H' Q
theorem pgs_nil:PGs X [] gNil:=by
 intro KJ s σ H vs us Q I r h
 obtain ⟨e,h⟩:=h
 subst e
 cases r
 exact assignInOrder_nil ⟨σ,H,I,h⟩
theorem pgs_cons {e:Kv} {es:List Kv} {t:TG} {u:TGs} (h1:PG X e t) (h2:PGs X es u)
  (hs:(assignEach (e::es) X.env).map (·.2)=assign e X.env::(assignEach es X.env).map (·.2):=by rfl):PGs X (e::es) (gCons t u):=by
 intro KJ s σ H vs us Q I r h
 obtain ⟨v,vr,e1,h⟩:=h
 subst e1
 cases r with
 | cons r rr =>
  rw [hs]
  refine assignInOrder_cons (thn (h1 KJ s σ H _ _ _ I r h) fun _ s1 ⟨σ1,H1,I1,q1⟩=>?_)
  exact h2 KJ s1 σ1 H1 _ _ Q I1 rr q1
def gTup (K:KC) (n:Nat) (t:TGs):TG:=fun v σ H Q=>∃ a xs,v=.ref a/\SqT K H a xs/\xs.length=n/\t xs σ H Q
theorem pg_tup {es:List Kv} {k:Nat} {t:TGs} {n:Nat} (hc:X.calm=true) (h:PGs X es t)
  (hn:(assignEach es X.env).length=n:=by rfl) (hst:(assignEach es X.env).findIdx? (·.1)=none:=by rfl):PG X (.Tuple es k pos) (gTup X.K n t):=by
 intro KJ s σ H v u Q I r hw
 obtain ⟨a,xs,e1,hq,hl,hw⟩:=hw
 subst e1
 cases r
 obtain ⟨KP,rv,ht,hz⟩:=I.tuple hq
 refine assign_Tuple_tuple (I.ok.hd hc) ht (by simp [hn,<- hl,rv.length]) hst fun h' hx=>?_
 have I1:Inv X KJ σ H { s with heap:=h' }:=I.kept (t':=s.toks) fun b o e=>hx b o (Qu (Qk e)) e
 exact h KJ _ σ H xs _ Q I1 (by simpa using rv) hw
def gSub (to ti:TE) (t:TSet):TG:=fun v σ H Q=>to σ H fun o H1=>ti σ H1 fun i H2=>t o i v H2 fun H3=>Q σ H3
theorem pg_sub {o i:Kv} {to ti:TE} {t:TSet} (ho:PE X o to) (hi:PE X i ti) (hs:PSet X t)
  (ha:∀ v,assign (.Subscript o i pos) X.env v=(do
   let ov <- holding [v] (Kz o X.env)
   let iv <- holding [v,ov] (Kz i X.env)
   standAt pos
   holding [v,ov,iv] (setItem ov iv v)
   release [v,ov,iv] []):=by intro _;rfl):PG X (.Subscript o i pos) (gSub to ti t):=by
 intro KJ s σ H v u Q I r h
 rw [ha]
 refine Qa (Pb (thn (ho KJ s σ H _ I h) fun ov s1 ⟨x,H1,I1,r1,q1⟩=>?_))
 refine Qa (Pb (thn (hi KJ s1 σ H1 _ I1 q1) fun iv s2 ⟨y,H2,I2,r2,q2⟩=>?_))
 refine Qa (wpAny_standAt (Qa (Pb (thn (hs KJ s2 σ H2 x y v ov iv u _ I2 r1 r2 r q2) fun _ s3 ⟨H3,I3,q3⟩=>?_))))
 exact wpAny_release ⟨σ,H3,I3,q3⟩
def yJ (te:TE) (g:TG):TS:=fun D σ H=>te σ H fun x H1=>g x σ H1 D.nx
theorem ps_asg {tg e:Kv} {te:TE} {g:TG} (he:PE X e te) (hg:PG X tg g) (hs:swapsWithSole [tg] e pos.line X.env=pure false:=by rfl) (hw:swappedStores [tg] e X.env=pure none:=by rfl)
  (h1:(assignEach [tg] X.env).map (·.2)=[assign tg X.env]:=by rfl):PS X (.Assign [tg] e pos) (yJ te g):=by
 intro KJ s σ H D I h
 refine wpAny_Assign_stores (thn (he KJ s σ H _ I h) fun v s1 ⟨x,H1,I1,r1,q1⟩=>?_) hs hw
 rw [h1]
 exact thn (hg KJ s1 σ H1 x v _ I1 r1 q1) fun _ s2 q=>q
theorem Yi {i:Nat} {x:Kw} {e:Kv} {te:TE} {pos':KB} (hN:X.N.Nodup) (hi:X.N[i]?=some x) (hx:Loc X.env.scope x) (he:PE X e te) (hs:Kt e (some (.Name x pos')) pos.line X.env=pure false:=by rfl) (hf:X.fn x=true\/X.env.scope.names.lookup x=some .local:=by first | exact .inl rfl | exact .inr rfl | assumption) :
  PS X (.Assign [.Name x pos'] e pos) (yJ te (ZM i)):=by
 intro KJ s σ H D I h
 refine wpAny_Assign_Name (thn (he KJ s σ H _ I h) fun v s1 ⟨y,H1,I1,r1,q1⟩=>?_) hs
 exact store_ok I1 hN hi hx r1 (fun s2 I2=>⟨_,H1,I2,q1⟩) hf
end
section
variable {X:Cx} {pos:KB}
end
structure It where
 go:Nat->Hp->Prop
 yld:Nat->Hp->V->Hp->Prop
 stop:Nat->Hp->Prop
def JE (X:Cx) (KJ:List (Kc×KA)) (H:Hp) (b:Kc):Prop :=
 H b=none/\b≠X.env.locals/\b∉X.fs/\(b∈X.ex\/X.s₀.heap.objs.size<=b)/\(∀ x c,X.env.cells.lookup x=some c->c≠b)/\∀ p∈X.pn++KJ,p.1≠b
theorem Inv.fpOk {X:Cx} {KJ:List (Kc×KA)} {σ:St} {H H':Hp} {s:Kb} {b:Kc} (I:Inv X KJ σ H s) (hb:s.heap.objs.size<=b) (hn:H' b=none):JE X KJ H' b:=by
 refine ⟨hn,QC (Qr I.lt hb),I.nofs hb,.inr (Qv I.sz hb),fun x c e z=>?_,fun p hp z=>?_⟩
 ·obtain ⟨v,q⟩:=I.cell x c e
  exact absurd (Qr q.lt (by rw [z];exact hb)) (Pd _)
 ·exact absurd (Qr (Qk (I.pin p hp).1) (by rw [z];exact hb)) (Pd _)
structure Wj (P:Ki) (w:Kk) (K:KC) (tg:Kv) (J:It) (fp:List Kc) (it:Kc) (tn:Nat->Kl->Prop):Prop where
 mem:it∈fp
 obj:∀ i h,tn i h->∀ b∈fp,∃ o,h.get? b=some o/\∀ v,o.data≠.cell v
 keep:∀ i h h',tn i h->(∀ b∈fp,∀ o,h.get? b=some o->h'.get? b=some o)->tn i h'
 item:∀ (X:Cx),X.prog=P->X.w=w->X.K=K->X.calm=true->∀ (i:Nat) (KJ:List (Kc×KA)) (s:Kb) (σ:St) (H:Hp) (E:Ka->Kb->Prop),Inv X KJ σ H s->(∀ b∈fp,JE X KJ H b)->tn i s.heap->J.go i H ->
  Ko (Ky P w) X.A (pyNext (.ref it)) (fun r s1=>∃ u,r=some u /\
   Ko (Ky P w) X.A (letOwnedTupleGo tg (.ref it) u) (fun _ s2=>∃ x H',Inv X KJ σ H' s2/\Zu x u/\J.yld i H x H'/\tn (i+1) s2.heap/\∀ b∈fp,H' b=none) E s1) E s
 done:∀ (X:Cx),X.prog=P->X.w=w->X.K=K->X.calm=true->∀ (i:Nat) (KJ:List (Kc×KA)) (s:Kb) (σ:St) (H:Hp) (E:Ka->Kb->Prop),Inv X KJ σ H s->(∀ b∈fp,JE X KJ H b)->tn i s.heap->J.stop i H ->
  Ko (Ky P w) X.A (pyNext (.ref it)) (fun r s1=>r=none/\Inv X KJ σ H s1) E s
 self:∀ (A:Kj) (i:Nat) (s:Kb) (Q:Ka->Kb->Prop) (E:Ka->Kb->Prop),tn i s.heap->Q (.ref it) s->Ko (Ky P w) A (pyIter (.ref it)) Q E s
abbrev TI:=St->Hp->(It->Hp->Prop)->Prop
def PIE (X:Cx) (KJ:List (Kc×KA)) (σ:St) (tg:Kv) (R:It->Hp->Prop) (itv:Ka) (s2:Kb):Prop :=
 ∃ (it:Kc) (fp:List Kc) (tn:Nat->Kl->Prop) (J:It) (H':Hp),itv=.ref it/\Inv X KJ σ H' s2/\Wj X.prog X.w X.K tg J fp it tn/\tn 0 s2.heap/\(∀ b∈fp,JE X KJ H' b)/\R J H'
def PI (X:Cx) (tg iter:Kv) (wi:TI):Prop :=
 ∀ (KJ:List (Kc×KA)) (s:Kb) (σ:St) (H:Hp) (R:It->Hp->Prop),Inv X KJ σ H s->wi σ H R ->
  Ko (Ky X.prog X.w) X.A (Kz iter X.env) (fun v s1=>Ko (Ky X.prog X.w) X.A (pyIter v) (PIE X KJ σ tg R) X.xe s1) X.xe s
theorem go_of {M : Model} {A : Kj} {E : Ka -> Kb -> Prop} {s : Kb} {tg : Kv} {it : Kc} {u : Ka} {o : KA} {n : String} {vs : Array Ka} {Q : Unit -> Kb -> Prop} (ho : s.heap.get? it = some o) (hc : o.cls = .type n) (hd : o.data = .fields vs)
    (hn:["enumerate","zip","dict_itemiterator","dict_reverseitemiterator","odict_iterator","itertools.zip_longest","itertools.pairwise"].contains n=false) (hQ:Q () s):Ko M A (letOwnedTupleGo tg (.ref it) u) Q E s:=by
  unfold letOwnedTupleGo
  cases tg <;> first
    | exact Qf hQ
    | (cases u <;> first
        | exact Qf hQ
        | (refine Qa (wpAny_load ho ?_)
           rw [hc,hd]
           show Ko M A (if (["enumerate","zip","dict_itemiterator","dict_reverseitemiterator","odict_iterator","itertools.zip_longest","itertools.pairwise"].contains n&&vs[0]? == some (rawInt _))=true then _ else _) Q E s
           rw [KR (by intro h;rw [hn,Bool.false_and] at h;cases h)]
           exact Qf hQ))
def Itl (K:KC) (a:Kc):It :=
 ⟨fun i H=>∃ xs x,SqL K H a xs/\xs[i]?=some x,fun i H x H'=>H'=H/\∀ xs,SqL K H a xs->xs[i]?=some x,fun i H=>∃ xs,SqL K H a xs/\xs.length<=i⟩
def Itt (K:KC) (a:Kc):It :=
 ⟨fun i H=>∃ xs x,SqT K H a xs/\xs[i]?=some x,fun i H x H'=>H'=H/\∀ xs,SqT K H a xs->xs[i]?=some x,fun i H=>∃ xs,SqT K H a xs/\xs.length<=i⟩
def Itr (lo:Int) (n:Nat):It:=⟨fun i _=>i<n,fun i H x H'=>H'=H/\x=.int (lo+i),fun i _=>n<=i⟩
theorem turn_list {P:Ki} {w:Kk} {K:KC} {tg:Kv} (a it:Kc):Wj P w K tg (Itl K a) [it] it (fun i h=>h.IsListIter it a i) where
 mem:=by simp
 obj:=fun i h st b hb=>by
  have e:b=it:=by simpa using hb
  subst e
  obtain ⟨o,e,c,d⟩:=st
  exact ⟨o,e,fun v z=>by rw [d] at z;cases z⟩
 keep:=fun i h h' st k=>st.at fun o e=>k it (by simp) o e
 item:=by
  intro X hP hw hK hc i KJ s σ H E I hf st hg
  subst hP hw hK
  obtain ⟨xs,x,hq,hx⟩:=hg
  obtain ⟨KP,rv,p,hz⟩:=I.list hq
  obtain ⟨u,hu,ru⟩:=rv.get hx
  obtain ⟨f0,f1,f2,f3,f4,f5⟩:=hf it (by simp)
  refine wpAny_pyNext_list_item st p.isList (x:=u) (by simpa using hu) fun h' st' sb=>?_
  have I1:Inv X KJ σ H { s with heap:=h' }:=I.turned (t':=s.toks) (fun b o hb e=>(sb.2 b hb).trans e) f0 f1 f3 f4 f5
  obtain ⟨o,e,c,d⟩:=id st'
  exact ⟨u,rfl,go_of (s:={ s with heap:=h' }) e c d (by decide) ⟨x,H,I1,ru,⟨rfl,fun ys hy=>by rw [I.list_inj hy hq];exact hx⟩,st',fun b hb=>(hf b hb).1⟩⟩
 done:=by
  intro X hP hw hK hc i KJ s σ H E I hf st hg
  subst hP hw hK
  obtain ⟨xs,hq,hx⟩:=hg
  obtain ⟨KP,rv,p,hz⟩:=I.list hq
  obtain ⟨f0,f1,f2,f3,f4,f5⟩:=hf it (by simp)
  have hl:=rv.length
  exact wpAny_pyNext_list_end (I.ok.hd hc) st p.isList (by simp;omega) fun h' eb=>⟨rfl,I.turned (t':=s.toks) (fun b o hb e=>eb b o hb e) f0 f1 f3 f4 f5⟩
 self:=fun _ _ _ _ _ st h=>wpAny_pyIter_listiter st h
theorem turn_tuple {P:Ki} {w:Kk} {K:KC} {tg:Kv} (a it:Kc):Wj P w K tg (Itt K a) [it] it (fun i h=>h.IsTupleIter it a i) where
 mem:=by simp
 obj:=fun i h st b hb=>by
  have e:b=it:=by simpa using hb
  subst e
  obtain ⟨o,e,c,d⟩:=st
  exact ⟨o,e,fun v z=>by rw [d] at z;cases z⟩
 keep:=fun i h h' st k=>st.at fun o e=>k it (by simp) o e
 item:=by
  intro X hP hw hK hc i KJ s σ H E I hf st hg
  subst hP hw hK
  obtain ⟨xs,x,hq,hx⟩:=hg
  obtain ⟨KP,rv,p,hz⟩:=I.tuple hq
  obtain ⟨u,hu,ru⟩:=rv.get hx
  obtain ⟨f0,f1,f2,f3,f4,f5⟩:=hf it (by simp)
  refine wpAny_pyNext_tuple_item st (show s.heap.IsTuple a KP.toArray from p) (x:=u) (by simpa using hu) fun h' st' sb=>?_
  have I1:Inv X KJ σ H { s with heap:=h' }:=I.turned (t':=s.toks) (fun b o hb e=>(sb.2 b hb).trans e) f0 f1 f3 f4 f5
  obtain ⟨o,e,c,d⟩:=id st'
  exact ⟨u,rfl,go_of (s:={ s with heap:=h' }) e c d (by decide) ⟨x,H,I1,ru,⟨rfl,fun ys hy=>by rw [I.tuple_inj hy hq];exact hx⟩,st',fun b hb=>(hf b hb).1⟩⟩
 done:=by
  intro X hP hw hK hc i KJ s σ H E I hf st hg
  subst hP hw hK
  obtain ⟨xs,hq,hx⟩:=hg
  obtain ⟨KP,rv,p,hz⟩:=I.tuple hq
  obtain ⟨f0,f1,f2,f3,f4,f5⟩:=hf it (by simp)
  have hl:=rv.length
  exact wpAny_pyNext_tuple_end (I.ok.hd hc) st (show s.heap.IsTuple a KP.toArray from p) (by simp;omega) fun h' eb=>⟨rfl,I.turned (t':=s.toks) (fun b o hb e=>eb b o hb e) f0 f1 f3 f4 f5⟩
 self:=fun _ _ _ _ _ st h=>wpAny_pyIter_tupleiter st h
theorem turn_range {P:Ki} {w:Kk} {K:KC} {tg:Kv} (it:Kc) (lo:Int) (n:Nat):Wj P w K tg (Itr lo n) [it] it (fun i h=>IsRangeIter h it (lo+(i:Nat)*1) ((n:Int) - (i:Nat)) 1) where
 mem:=by simp
 obj:=fun i h st b hb=>by
  have e:b=it:=by simpa using hb
  subst e
  exact ⟨_,st,fun v z=>by
   have z':Data.fields _=Data.cell v:=z
   cases z'⟩
 keep:=fun i h h' st k=>k it (by simp) _ st
 item:=by
  intro X hP hw hK hc i KJ s σ H E I hf st hg
  subst hP hw hK
  obtain ⟨f0,f1,f2,f3,f4,f5⟩:=hf it (by simp)
  have W:=Walks.range (prog:=X.prog) (w:=X.w) (I.ok.hd hc) it lo 1 n
  refine W.item i s _ _ hg st fun v h' tk hv st' kk=>?_
  obtain ⟨t,rfl⟩:=hv
  have I1:Inv X KJ σ H { s with heap:=h',toks:=tk }:=I.turned (fun b o hb e=>kk b o (by simpa using hb) e) f0 f1 f3 f4 f5
  refine ⟨_,rfl,go_of (s:={ s with heap:=h',toks:=tk }) (n:="range_iterator") st' rfl rfl (by decide) ⟨.int (lo+i),H,I1,⟨t,?_⟩,⟨rfl,rfl⟩,st',fun b hb=>(hf b hb).1⟩⟩
  rw [Int.mul_one]
 done:=by
  intro X hP hw hK hc i KJ s σ H E I hf st hg
  subst hP hw hK
  obtain ⟨f0,f1,f2,f3,f4,f5⟩:=hf it (by simp)
  exact wpAny_pyNext_range_end (I.ok.hd hc) st (by have:n<=i:=hg;omega) fun h' eb=>⟨rfl,I.turned (t':=s.toks) (fun b o hb e=>eb b o hb e) f0 f1 f3 f4 f5⟩
 self:=fun _ _ _ _ _ st h=>wpAny_pyIter_rangeiter st h
end L2
namespace L2
open PySem PySem.Spec PyProof.Rows
section
variable {X:Cx} {tg:Kv}
def iList (K:KC) (tl:TE):TI:=fun σ H R=>tl σ H fun x H1=>∃ a,x=.ref a/\(∃ xs,SqL K H1 a xs)/\R (Itl K a) H1
def iTup (K:KC) (tl:TE):TI:=fun σ H R=>tl σ H fun x H1=>∃ a,x=.ref a/\(∃ xs,SqT K H1 a xs)/\R (Itt K a) H1
theorem pi_list {l:Kv} {tl:TE} (hl:PE X l tl):PI X tg l (iList X.K tl):=by
 intro KJ s σ H R I h
 refine thn (hl KJ s σ H _ I h) fun v s1 ⟨x,H1,I1,r1,q1⟩=>?_
 obtain ⟨a,e,⟨xs,hq⟩,q⟩:=q1
 subst e
 cases r1
 obtain ⟨KP,rv,p,hz⟩:=I1.list hq
 refine wpAny_pyIter_list p.isList ?_
 refine ⟨s1.heap.objs.size,[s1.heap.objs.size],_,_,H1,rfl,I1.kept (t':=s1.toks) fun b o e=>Qb _ e,turn_list a _,⟨_,Qp _ rfl,rfl,rfl⟩,fun b hb=>?_,q⟩
 have e:b=s1.heap.objs.size:=by simpa using hb
 subst e
 exact I1.fpOk (Qh _) (I1.hok.fresh (Qh _))
theorem pi_tup {l:Kv} {tl:TE} (hl:PE X l tl):PI X tg l (iTup X.K tl):=by
 intro KJ s σ H R I h
 refine thn (hl KJ s σ H _ I h) fun v s1 ⟨x,H1,I1,r1,q1⟩=>?_
 obtain ⟨a,e,⟨xs,hq⟩,q⟩:=q1
 subst e
 cases r1
 obtain ⟨KP,rv,p,hz⟩:=I1.tuple hq
 refine P4 (show s1.heap.IsTuple a KP.toArray from p) ?_
 refine ⟨s1.heap.objs.size,[s1.heap.objs.size],_,_,H1,rfl,I1.kept (t':=s1.toks) fun b o e=>Qb _ e,turn_tuple a _,⟨_,Qp _ rfl,rfl,rfl⟩,fun b hb=>?_,q⟩
 have e:b=s1.heap.objs.size:=by simpa using hb
 subst e
 exact I1.fpOk (Qh _) (I1.hok.fresh (Qh _))
theorem range_it {KJ:List (Kc×KA)} {σ:St} {H:Hp} {s:Kb} {R:It->Hp->Prop} {E:Ka->Kb->Prop} {lo hi:Int} {t u v:Tok} {tk:Nat} (I:Inv X KJ σ H s) (h1:-(2 ^ 62)<=lo) (h2:lo<2 ^ 62) (h3:-(2 ^ 62)<=hi) (h4:hi<2 ^ 62)
  (q:R (Itr lo (hi - lo).toNat) H):Ko (Ky X.prog X.w) X.A (pyIter (.ref s.heap.objs.size)) (PIE X KJ σ tg R) E { s with heap:=s.heap.push { cls:=.type "range",data:=.fields #[.int lo t,.int hi u,.int 1 v] },toks:=tk }:=by
 refine wpAny_pyIter_range (IsRange.new ..) (small_one h1 h2 h3 h4) ?_
 have I1:Inv X KJ σ H { s with heap:=s.heap.push { cls:=.type "range",data:=.fields #[.int lo t,.int hi u,.int 1 v] },toks:=tk }:=I.kept fun b o e=>Qb _ e
 refine ⟨(s.heap.push { cls:=.type "range",data:=.fields #[.int lo t,.int hi u,.int 1 v] }).objs.size,[(s.heap.push { cls:=.type "range",data:=.fields #[.int lo t,.int hi u,.int 1 v] }).objs.size],_,_,H,rfl,
  I1.kept (t':=tk) fun b o e=>Qb _ e,turn_range _ lo (hi - lo).toNat,?_,fun b hb=>?_,q⟩
 ·have e1:lo+((0:Nat):Int)*1=lo:=by simp
  have e2:(((hi - lo).toNat:Nat):Int) - ((0:Nat):Int)=Builtin.Range.rangeSize lo hi 1:=by rw [rangeSize_one];split <;> omega
  show IsRangeIter _ _ (lo+((0:Nat):Int)*1) ((((hi - lo).toNat:Nat):Int) - ((0:Nat):Int)) 1
  rw [e1,e2]
  exact Qp _ rfl
 ·have e:b=(s.heap.push { cls:=.type "range",data:=.fields #[.int lo t,.int hi u,.int 1 v] }).objs.size:=by simpa using hb
  subst e
  exact I1.fpOk (Qh _) (I1.hok.fresh (Qh _))
def iRng1 (ta:TA):TI:=fun σ H R=>ta σ H fun vs H1=>∃ j:Int,vs=[.int j]/\-(2 ^ 62)<=j/\j<2 ^ 62/\R (Itr 0 j.toNat) H1
theorem pi_range1 {a:Kv} {ta:TA} {p pos:KB} (hg:Gl X "range") (hm:X.mg "range"=none) (ha:PA X [a] ta) (hs:Ke [a] X.env=[(false,Kz a X.env)]:=by rfl):PI X tg (.Call (.Name "range" p) [a] [] pos) (iRng1 ta):=by
 intro KJ s σ H R I h
 refine Call_ (jL I hg hm boot_range (KH (thn (ha pos KJ s σ H _ I h) fun us s1 ⟨vs,H1,I1,r1,q1⟩=>?_) hs rfl))
 obtain ⟨j,e,q1,q2,q⟩:=q1
 subst e
 cases r1 with
 | cons r rr =>
  cases rr
  obtain ⟨t,rfl⟩:=r
  exact call_range_1 (range_it I1 (by omega) (by omega) q1 q2 (by simpa using q))
def tFor (wi:TI) (g:TG) (tb:TS):TS:=fun D σ H=>wi σ H fun J H1=>∃ W:Nat->Nat->St->Hp->Prop,(∃ m,W 0 m σ H1)/\∀ i m σ H,W i m σ H ->
 (J.stop i H/\D.nx σ H)\/(J.go i H/\∃ N:St->Hp->Prop,(∀ σ' H',N σ' H'->∃ m',m'<m/\W (i+1) m' σ' H')/\∀ x H',J.yld i H x H'->g x σ H' fun σ2 H2=>tb { D with nx:=N,ct:=N,bk:=D.nx } σ2 H2)
def WZ (fp:List Kc) (h:Kl):List (Kc×KA):=fp.filterMap fun b=>(h.get? b).map fun o=>(b,o)
theorem jh {fp:List Kc} {h:Kl} {b:Kc} {o:KA} (hb:b∈fp) (e:h.get? b=some o):(b,o)∈WZ fp h:=List.mem_filterMap.mpr ⟨b,hb,by rw [e];rfl⟩
theorem of_pinsAt {fp:List Kc} {h:Kl} {p:Kc×KA} (hp:p∈WZ fp h):p.1∈fp/\h.get? p.1=some p.2:=by
 obtain ⟨b,hb,e⟩:=List.mem_filterMap.mp hp
 cases q:h.get? b with
 | none=>rw [q] at e;cases e
 | some o =>
  rw [q] at e
  have e':(b,o)=p:=Option.some.inj e
  subst e'
  exact ⟨hb,q⟩
theorem Inv.pinned {KJ:List (Kc×KA)} {σ:St} {H:Hp} {s:Kb} {fp:List Kc} (I:Inv X KJ σ H s) (hf:∀ b∈fp,JE X KJ H b) (ho:∀ b∈fp,∃ o,s.heap.get? b=some o/\∀ v,o.data≠.cell v):Inv X (KJ++WZ fp s.heap) σ H s :=
 I.pins_of fun p hp=>(QL.mp hp).elim (fun z=>I.pin p (QF _ z)) fun z=>by
  obtain ⟨hb,e⟩:=of_pinsAt z
  obtain ⟨f0,f1,f2,_⟩:=hf p.1 hb
  obtain ⟨o,e',d⟩:=ho p.1 hb
  rw [e] at e';cases e'
  exact ⟨e,f0,f1,f2,d⟩
theorem Inv.unpinned {KJ pl:List (Kc×KA)} {σ:St} {H:Hp} {s:Kb} (I:Inv X (KJ++pl) σ H s):Inv X KJ σ H s:=I.pins_of fun p hp=>I.pin p (QF _ (List.mem_append_left _ hp))
theorem ps_for {iter:Kv} {body:List Kx} {wi:TI} {g:TG} {tb:TS} {pos:KB} (hp:PassesOwn (Ky X.prog X.w) X.A X.env X.xe) (hc:X.calm=true) (hi:PI X tg iter wi) (hg:PG X tg g) (hb:PSs X body tb)
  (hs:∀ x,foldedSetIterable iter X.env x=pure x:=by intro _;rfl):PS X (.For tg iter body [] pos) (tFor wi g tb):=by
 intro KJ s σ H D I h
 refine wpAny_For (thn (hi KJ s σ H _ I h) fun v s1 h1=>thn h1 fun itv s2 h2=>?_) hs
 obtain ⟨it,fp,tn,J,H2,e,I2,T,st2,f2,W,⟨m0,w0⟩,turn⟩:=h2
 subst e
 have stat:∀ {H':Hp},(∀ b∈fp,H' b=none)->∀ b∈fp,JE X KJ H' b:=fun hn b hb=>⟨hn b hb,(f2 b hb).2⟩
 refine codeAny_forLoop_any (fun n s'=>∃ i σ' H',Inv X KJ σ' H' s'/\tn i s'.heap/\(∀ b∈fp,H' b=none)/\W i n σ' H') ?_ m0 ⟨0,σ,H2,I2,st2,fun b hb=>(f2 b hb).1,w0⟩
 rintro n s3 ⟨i,σ3,H3,I3,st3,fr3,w3⟩
 rcases turn i n σ3 H3 w3 with ⟨stop,qn⟩ | ⟨go,N,hN,step⟩
 ·refine PD hp (thn (T.done X rfl rfl rfl hc i KJ s3 σ3 H3 X.xe I3 (stat fr3) st3 stop) fun r s4 ⟨hr,I4⟩=>?_)
  subst hr
  exact wpAny_execs_nil ⟨σ3,H3,I4,qn⟩
 ·refine PD hp (thn (T.item X rfl rfl rfl hc i KJ s3 σ3 H3 X.xe I3 (stat fr3) st3 go) fun r s4 ⟨u,hr,h4⟩=>?_)
  subst hr
  refine PD hp (thn h4 fun _ s5 ⟨x,H5,I5,r5,y5,st5,fr5⟩=>?_)
  have I5':=I5.pinned (stat fr5) (T.obj _ _ st5)
  refine PD hp (thn (hg _ s5 σ3 H5 x u _ I5' r5 (step x H5 y5)) fun _ s6 ⟨σ6,H6,I6,q6⟩=>?_)
  refine PD hp (thn (hb _ s6 σ6 H6 _ I6 q6) fun f s7 q7=>?_)
  have again:∀ {σ7:St} {H7:Hp},Inv X (KJ++WZ fp s5.heap) σ7 H7 s7->N σ7 H7->∃ m,m<n/\∃ i σ' H',Inv X KJ σ' H' s7/\tn i s7.heap/\(∀ b∈fp,H' b=none)/\W i m σ' H':=fun {σ7 H7} I7 n7=>by
   obtain ⟨m',hm,w7⟩:=hN σ7 H7 n7
   refine ⟨m',hm,i+1,σ7,H7,I7.unpinned,T.keep _ _ _ st5 fun b hb o e=>(I7.pin (b,o) (QF _ (QF _ (jh hb e)))).1,fun b hb=>?_,w7⟩
   obtain ⟨o,e,d⟩:=T.obj _ _ st5 b hb
   exact (I7.pin (b,o) (QF _ (QF _ (jh hb e)))).2.1
  cases f with
  | next=>obtain ⟨σ7,H7,I7,n7⟩:=q7;exact again I7 n7
  | cont=>obtain ⟨σ7,H7,I7,n7⟩:=q7;exact again I7 n7
  | brk=>obtain ⟨σ7,H7,I7,q7⟩:=q7;exact ⟨σ7,H7,I7.unpinned,q7⟩
  | ret v=>obtain ⟨x7,σ7,H7,I7,r7,q7⟩:=q7;exact ⟨x7,σ7,H7,I7.unpinned,r7,q7⟩
end
end L2
namespace L2
open PySem PySem.Spec PyProof.Rows
abbrev R2:=V->V->Hp->VK->Prop
def OpR (X:Cx) (f:Ka->Ka->Sem Ka) (r:R2):Prop :=
 ∀ (KJ:List (Kc×KA)) (s:Kb) (σ:St) (H:Hp) (x y:V) (v u:Ka) (Q:VK),Inv X KJ σ H s->Zu x v->Zu y u->r x y H Q ->
  Ko (Ky X.prog X.w) X.A (f v u) (EP X KJ σ Q) X.xe s
def UnR (X:Cx) (f:Ka->Sem Ka) (r:V->Hp->VK->Prop):Prop :=
 ∀ (KJ:List (Kc×KA)) (s:Kb) (σ:St) (H:Hp) (x:V) (v:Ka) (Q:VK),Inv X KJ σ H s->Zu x v->r x H Q ->
  Ko (Ky X.prog X.w) X.A (f v) (EP X KJ σ Q) X.xe s
def J9 (X:Cx) (f:Ka) (r:List V->Hp->VK->Prop):Prop :=
 ∀ (KJ:List (Kc×KA)) (s:Kb) (σ:St) (H:Hp) (xs:List V) (us:List Ka) (Q:VK),Inv X KJ σ H s->zY xs us->r xs H Q ->
  Ko (Ky X.prog X.w) X.A (call f us) (EP X KJ σ Q) X.xe s
def tOp (r:R2) (ta tb:TE):TE:=fun σ H Q=>ta σ H fun x H1=>tb σ H1 fun y H2=>r x y H2 Q
def tUn (r:V->Hp->VK->Prop) (ta:TE):TE:=fun σ H Q=>ta σ H fun x H1=>r x H1 Q
def rI (C:Int->Int->Prop) (g:Int->Int->V):R2:=fun x y H Q=>∃ i j,x=.int i/\y=.int j/\C i j/\Q (g i j) H
def rI0 (g:Int->Int->V):R2:=fun x y H Q=>∃ i j,x=.int i/\y=.int j/\Q (g i j) H
def rU (g:Int->V):V->Hp->VK->Prop:=fun x H Q=>∃ i,x=.int i/\Q (g i) H
section
variable {X:Cx} {a b c:Kv} {ta tb tc:TE} {pos:KB}
theorem binT (ha:PE X a ta) (hb:PE X b tb) {KJ:List (Kc×KA)} {s:Kb} {σ:St} {H:Hp} {R:V->V->Hp->Prop} (I:Inv X KJ σ H s)
  (h:ta σ H fun x H1=>tb σ H1 fun y H2=>R x y H2) {Q:Ka->Kb->Prop} {f:Ka->Ka->Sem Ka}
  (hf:∀ v u s2 x y H2,Inv X KJ σ H2 s2->Zu x v->Zu y u->R x y H2->Ko (Ky X.prog X.w) X.A (f v u) Q X.xe s2) :
  Ko (Ky X.prog X.w) X.A (Kz a X.env) (fun v s₁=>Ko (Ky X.prog X.w) X.A (Kz b X.env) (fun u s₂=>Ko (Ky X.prog X.w) X.A (f v u) Q X.xe s₂) X.xe s₁) X.xe s:=by
 refine thn (ha KJ s σ H _ I h) fun v s1 ⟨x,H1,I1,r1,q1⟩=>?_
 refine thn (hb KJ s1 σ H1 _ I1 q1) fun u s2 ⟨y,H2,I2,r2,q2⟩=>?_
 exact hf v u s2 x y H2 I2 r1 r2 q2
theorem wV {op:Operator} {r:R2} (ho:OpR X (binaryOp op) r) (ha:PE X a ta) (hb:PE X b tb):PE X (.BinOp a op b pos) (tOp r ta tb):=by
 intro KJ s σ H Q I h
 exact wpAny_BinOp (binT ha hb I h fun v u s2 x y H2 I2 rx ry q=>ho KJ s2 σ H2 x y v u Q I2 rx ry q)
theorem pe_un {op:UnaryOp} {r:V->Hp->VK->Prop} (ho:UnR X (unaryOp op) r) (ha:PE X a ta):PE X (.UnaryOp op a pos) (tUn r ta):=by
 intro KJ s σ H Q I h
 exact UnaryOp_ (thn (ha KJ s σ H _ I h) fun v s1 ⟨x,H1,I1,r1,q1⟩=>ho KJ s1 σ H1 x v Q I1 r1 q1)
theorem opI {f:Ka->Ka->Sem Ka} {C:Int->Int->Prop} {g:Int->Int->Int}
  (rule:∀ (i j:Int) (t u:Tok) (s:Kb) (Q:Ka->Kb->Prop) (E:Ka->Kb->Prop),C i j->Q (.int (g i j) s.toks) { s with toks:=s.toks+1 }->Ko (Ky X.prog X.w) X.A (f (.int i t) (.int j u)) Q E s) :
  OpR X f (rI C fun i j=>.int (g i j)):=by
 intro KJ s σ H x y v u Q I rx ry h
 obtain ⟨i,j,rfl,rfl,hc,q⟩:=h
 obtain ⟨t,rfl⟩:=rx
 obtain ⟨t',rfl⟩:=ry
 exact rule i j t t' s _ _ hc ⟨.int (g i j),H,I.tok _,⟨_,rfl⟩,q⟩
theorem opI0 {f:Ka->Ka->Sem Ka} {g:Int->Int->Int}
  (rule:∀ (i j:Int) (t u:Tok) (s:Kb) (Q:Ka->Kb->Prop) (E:Ka->Kb->Prop),Q (.int (g i j) s.toks) { s with toks:=s.toks+1 }->Ko (Ky X.prog X.w) X.A (f (.int i t) (.int j u)) Q E s) :
  OpR X f (rI0 fun i j=>.int (g i j)):=by
 intro KJ s σ H x y v u Q I rx ry h
 obtain ⟨i,j,rfl,rfl,q⟩:=h
 obtain ⟨t,rfl⟩:=rx
 obtain ⟨t',rfl⟩:=ry
 exact rule i j t t' s _ _ ⟨.int (g i j),H,I.tok _,⟨_,rfl⟩,q⟩
theorem opB0 {f:Ka->Ka->Sem Ka} {g:Int->Int->Bool}
  (rule:∀ (i j:Int) (t u:Tok) (s:Kb) (Q:Ka->Kb->Prop) (E:Ka->Kb->Prop),Q (.bool (g i j)) s->Ko (Ky X.prog X.w) X.A (f (.int i t) (.int j u)) Q E s) :
  OpR X f (rI0 fun i j=>.bl (g i j)):=by
 intro KJ s σ H x y v u Q I rx ry h
 obtain ⟨i,j,rfl,rfl,q⟩:=h
 obtain ⟨t,rfl⟩:=rx
 obtain ⟨t',rfl⟩:=ry
 exact rule i j t t' s _ _ ⟨.bl (g i j),H,I,rfl,q⟩
def CDiv (i j:Int):Prop:=0<j/\j<1073741824
def CMul (i j:Int):Prop:=(-(2 ^ 64)<i/\i<2 ^ 64)\/(-(2 ^ 64)<j/\j<2 ^ 64)
theorem CMul.ok {i j:Int} (h:CMul i j):IntMulOk i j:=by
 rcases h with ⟨h1,h2⟩ | ⟨h1,h2⟩
 ·exact .of_left (intBits_le_64 h1 h2)
 ·exact .of_right (intBits_le_64 h1 h2)
theorem zZ:OpR X (binaryOp .Add) (rI0 fun i j=>.int (i+j)):=opI0 fun _ _ _ _ _ _ _ q=>add_int q
theorem Jq:OpR X (binaryOp .Sub) (rI0 fun i j=>.int (i - j)):=opI0 fun _ _ _ _ _ _ _ q=>sub_int q
theorem yE:OpR X (binaryOp .FloorDiv) (rI CDiv fun i j=>.int (i / j)):=opI fun i j _ _ _ _ _ hc q=>by
 have h1:(0:Int)<j:=hc.1
 have h2:j<1073741824:=hc.2
 exact floordiv_int (by omega) (by rw [Int.fdiv_eq_ediv_of_nonneg i (by omega)];exact q) (.inl (PyProof.noPylong_small (by omega)))
theorem ZY:OpR X (binaryOp .Mod) (rI (fun _ j=>0<j) fun i j=>.int (i % j)):=opI fun i j _ _ _ _ _ hc q=>by
 have h1:(0:Int)<j:=hc
 exact mod_int' (by omega) (by rw [Int.fmod_eq_emod_of_nonneg i (by omega)];exact q)
theorem unI {f:Ka->Sem Ka} {g:Int->Int}
  (rule:∀ (i:Int) (t:Tok) (s:Kb) (Q:Ka->Kb->Prop) (E:Ka->Kb->Prop),Q (.int (g i) s.toks) { s with toks:=s.toks+1 }->Ko (Ky X.prog X.w) X.A (f (.int i t)) Q E s) :
  UnR X f (rU fun i=>.int (g i)):=by
 intro KJ s σ H x v Q I rx h
 obtain ⟨i,rfl,q⟩:=h
 obtain ⟨t,rfl⟩:=rx
 exact rule i t s _ _ ⟨.int (g i),H,I.tok _,⟨_,rfl⟩,q⟩
theorem YU:UnR X (unaryOp .USub) (rU fun i=>.int (-i)):=unI fun _ _ _ _ _ q=>neg_int q
end
def scal:V->V->Bool
 | .non,.non=>true | .non,.int _=>true | .int _,.non=>true | .non,.bl _=>true | .bl _,.non=>true | .non,.str _=>true | .str _,.non=>true
 | .int _,.int _=>true | .bl _,.bl _=>true | .str _,.str _=>true | .byt _,.byt _=>true
 | .int _,.str _=>true | .str _,.int _=>true | .bl _,.str _=>true | .str _,.bl _=>true
 | _,_=>false
def rEq:R2:=fun x y H Q=>scal x y=true/\Q (.bl (decide (x=y))) H
def rNe:R2:=fun x y H Q=>scal x y=true/\Q (.bl (!decide (x=y))) H
theorem dec_int {i j:Int}:decide (V.int i=V.int j)=(i == j):=by
 rw [PU]
 simp
theorem dec_bl {i j:Bool}:decide (V.bl i=V.bl j)=(i == j):=by
 rw [PU]
 simp
theorem dec_str {i j:Kw}:decide (V.str i=V.str j)=(i == j):=by
 rw [PU]
 simp
theorem dec_byt {i j:Array UInt8}:decide (V.byt i=V.byt j)=(i.toList == j.toList):=by
 rw [PU]
 cases i
 cases j
 simp
section
variable {X:Cx} {a b c:Kv} {ta tb tc:TE} {pos:KB}
theorem Zr {KJ:List (Kc×KA)} {σ:St} {H:Hp} {s:Kb} {Q:VK} {k k':Bool} (I:Inv X KJ σ H s) (q:Q (.bl k) H) (e:k=k'):EP X KJ σ Q (.bool k') s:=by
 subst e
 exact ⟨.bl k,H,I,rfl,q⟩
theorem Z8:OpR X (Km .Eq) rEq:=by
 intro KJ s σ H x y v u Q I rx ry h
 obtain ⟨hs,q⟩:=h
 cases x with
 | non =>
  cases rx
  cases y with
  | non=>cases ry;exact PySem.EqNone.eq_none_none (Zr I q (by simp))
  | bl j=>cases ry;exact PySem.EqNone.eq_none_bool (Zr I q (by simp))
  | int j=>obtain ⟨t',rfl⟩:=ry;exact PySem.EqNone.eq_none_int (Zr I q (by simp))
  | str j=>obtain ⟨t',rfl⟩:=ry;exact PySem.EqNone.eq_none_str (Zr I q (by simp))
  | _=>exact absurd (show false=true from hs) Qi
 | bl i =>
  cases rx
  cases y with
  | non=>cases ry;exact PySem.EqNone.eq_bool_none (Zr I q (by simp))
  | bl j=>cases ry;exact eq_bool (Zr I q dec_bl)
  | str j=>obtain ⟨t',rfl⟩:=ry;exact PySem.EqMixed.eq_bool_str (Zr I q (by simp))
  | _=>exact absurd (show false=true from hs) Qi
 | int i =>
  obtain ⟨t,rfl⟩:=rx
  cases y with
  | non=>cases ry;exact PySem.EqNone.eq_int_none (Zr I q (by simp))
  | int j=>obtain ⟨t',rfl⟩:=ry;exact eq_int (Zr I q dec_int)
  | str j=>obtain ⟨t',rfl⟩:=ry;exact PySem.EqMixed.eq_int_str (Zr I q (by simp))
  | _=>exact absurd (show false=true from hs) Qi
 | str i =>
  obtain ⟨t,rfl⟩:=rx
  cases y with
  | non=>cases ry;exact PySem.EqNone.eq_str_none (Zr I q (by simp))
  | bl j=>cases ry;exact PySem.EqMixed.eq_str_bool (Zr I q (by simp))
  | int j=>obtain ⟨t',rfl⟩:=ry;exact PySem.EqMixed.eq_str_int (Zr I q (by simp))
  | str j=>obtain ⟨t',rfl⟩:=ry;exact eq_str (Zr I q dec_str)
  | _=>exact absurd (show false=true from hs) Qi
 | byt i =>
  obtain ⟨t,rfl⟩:=rx
  cases y with
  | byt j=>obtain ⟨t',rfl⟩:=ry;exact PySem.W.eq_bytes (Zr I q dec_byt)
  | _=>exact absurd (show false=true from hs) Qi
 | _=>cases y <;> exact absurd (show false=true from hs) Qi
theorem op_ne:OpR X (Km .NotEq) rNe:=by
 intro KJ s σ H x y v u Q I rx ry h
 obtain ⟨hs,q⟩:=h
 cases x with
 | non =>
  cases rx
  cases y with
  | non=>cases ry;exact PySem.EqNone.ne_none_none (Zr I q (by simp))
  | bl j=>cases ry;exact PySem.EqNone.ne_none_bool (Zr I q (by simp))
  | int j=>obtain ⟨t',rfl⟩:=ry;exact PySem.EqNone.ne_none_int (Zr I q (by simp))
  | str j=>obtain ⟨t',rfl⟩:=ry;exact PySem.EqNone.ne_none_str (Zr I q (by simp))
  | _=>exact absurd (show false=true from hs) Qi
 | bl i =>
  cases rx
  cases y with
  | non=>cases ry;exact PySem.EqNone.ne_bool_none (Zr I q (by simp))
  | bl j=>cases ry;exact ne_bool (Zr I q (congrArg not dec_bl))
  | str j=>obtain ⟨t',rfl⟩:=ry;exact PySem.EqMixed.ne_bool_str (Zr I q (by simp))
  | _=>exact absurd (show false=true from hs) Qi
 | int i =>
  obtain ⟨t,rfl⟩:=rx
  cases y with
  | non=>cases ry;exact PySem.EqNone.ne_int_none (Zr I q (by simp))
  | int j=>obtain ⟨t',rfl⟩:=ry;exact ne_int (Zr I q (congrArg not dec_int))
  | str j=>obtain ⟨t',rfl⟩:=ry;exact PySem.EqMixed.ne_int_str (Zr I q (by simp))
  | _=>exact absurd (show false=true from hs) Qi
 | str i =>
  obtain ⟨t,rfl⟩:=rx
  cases y with
  | non=>cases ry;exact PySem.EqNone.ne_str_none (Zr I q (by simp))
  | bl j=>cases ry;exact PySem.EqMixed.ne_str_bool (Zr I q (by simp))
  | int j=>obtain ⟨t',rfl⟩:=ry;exact PySem.EqMixed.ne_str_int (Zr I q (by simp))
  | str j=>obtain ⟨t',rfl⟩:=ry;exact ne_str (Zr I q (congrArg not dec_str))
  | _=>exact absurd (show false=true from hs) Qi
 | byt i =>
  obtain ⟨t,rfl⟩:=rx
  cases y with
  | byt j=>obtain ⟨t',rfl⟩:=ry;exact PySem.W.ne_bytes (Zr I q (congrArg not dec_byt))
  | _=>exact absurd (show false=true from hs) Qi
 | _=>cases y <;> exact absurd (show false=true from hs) Qi
theorem op_lt:OpR X (Km .Lt) (rI0 fun i j=>.bl (decide (i<j))):=opB0 fun _ _ _ _ _ _ _ q=>lt_int q
theorem op_le:OpR X (Km .LtE) (rI0 fun i j=>.bl (decide (i<=j))):=opB0 fun _ _ _ _ _ _ _ q=>le_int q
theorem op_gt:OpR X (Km .Gt) (rI0 fun i j=>.bl (decide (j<i))):=opB0 fun _ _ _ _ _ _ _ q=>gt_int q
theorem op_isN:OpR X (Km .Is) (fun x y H Q=>y=.non/\Q (.bl (decide (x=.non))) H):=by
 intro KJ s σ H x y v u Q I rx ry h
 obtain ⟨rfl,q⟩:=h
 cases ry
 refine is_none_gen (Zr I q ?_)
 cases x <;> first
  | (cases rx;rfl)
  | (obtain ⟨t,rfl⟩:=rx;rfl)
theorem op_notN:OpR X (Km .IsNot) (fun x y H Q=>y=.non/\Q (.bl (!decide (x=.non))) H):=by
 intro KJ s σ H x y v u Q I rx ry h
 obtain ⟨rfl,q⟩:=h
 cases ry
 refine isnot_none_gen (Zr I q ?_)
 cases x <;> first
  | (cases rx;rfl)
  | (obtain ⟨t,rfl⟩:=rx;rfl)
theorem zN (b:Kv) {op:CmpOp} (h:op≠.In:=by decide) (h2:op≠.NotIn:=by decide):behindInMarks op b=false:=by
 have e1:(op == CmpOp.In)=false:=by cases op <;> first | rfl | exact absurd rfl h
 have e2:(op == CmpOp.NotIn)=false:=by cases op <;> first | rfl | exact absurd rfl h2
 cases b <;> simp [behindInMarks,e1,e2]
theorem pe_cmpR {op:CmpOp} {r:R2} (ho:OpR X (Km op) r) (ha:PE X a ta) (hb:PE X b tb) (hm:behindInMarks op b=false):PE X (.Compare a [op] [b] pos) (tOp r ta tb):=by
 intro KJ s σ H Q I h
 exact wpAny_Compare1 (binT ha hb I h fun v u s2 x y H2 I2 rx ry q=>ho KJ s2 σ H2 x y v u Q I2 rx ry q) hm
def YI (t:TE):TT:=fun σ H Q=>t σ H fun x H'=>∃ k,x=.bl k/\Q k H'
theorem YM {op:CmpOp} {r:R2} (ho:OpR X (Km op) r) (ha:PE X a ta) (hb:PE X b tb) (hm:behindInMarks op b=false):PT X (.Compare a [op] [b] pos) (YI (tOp r ta tb)):=by
 intro KJ s σ H Q I h
 refine wpAny_isTrue_Compare1 (thn (ha KJ s σ H _ I h) fun v s1 ⟨x,H1,I1,r1,q1⟩=>thn (hb KJ s1 σ H1 _ I1 q1) fun u s2 ⟨y,H2,I2,r2,q2⟩ =>
  thn (ho KJ s2 σ H2 x y v u _ I2 r1 r2 q2) fun c s3 ⟨z,H3,I3,r3,k,e,q3⟩=>?_) hm
 subst e
 cases r3
 exact Pn ⟨H3,I3,q3⟩
def tChain (r r':R2) (ta tb tc:TE):TE:=fun σ H Q=>ta σ H fun x H1=>tb σ H1 fun y H2=>r x y H2 fun z H3=>∃ k,z=.bl k /\
 (if k=true then tc σ H3 fun w' H4=>r' y w' H4 Q else Q (.bl false) H3)
theorem pt_chain {op op':CmpOp} {r r':R2} (ho:OpR X (Km op) r) (ho':OpR X (Km op') r') (ha:PE X a ta) (hb:PE X b tb) (hc:PE X c tc)
  (hm:lastMarks [op,op'] [b,c]=false:=by with_unfolding_all rfl):PT X (.Compare a [op,op'] [b,c] pos) (YI (tChain r r' ta tb tc)):=by
 intro KJ s σ H Q I h
 refine isTrue_chain (thn (ha KJ s σ H _ I h) fun v s1 ⟨x,H1,I1,r1,q1⟩=>test_link (thn (hb KJ s1 σ H1 _ I1 q1) fun u s2 ⟨y,H2,I2,r2,q2⟩ =>
  thn (ho KJ s2 σ H2 x y v u _ I2 r1 r2 q2) fun d s3 ⟨z,H3,I3,r3,k,e,q3⟩=>?_)) hm
 subst e
 cases r3
 refine Pn ?_
 cases k with
 | false =>
  obtain ⟨k',e',q'⟩:=q3
  cases e'
  exact ite_ff ⟨H3,I3,q'⟩
 | true =>
  refine ite_tt (test_last (thn (hc KJ s3 σ H3 _ I3 q3) fun w' s4 ⟨z',H4,I4,r4,q4⟩=>thn (ho' KJ s4 σ H4 y z' u w' _ I4 r2 r4 q4) fun d' s5 ⟨z2,H5,I5,r5,k2,e2,q5⟩=>?_))
  subst e2
  cases r5
  exact Pn ⟨H5,I5,q5⟩
theorem line63:(Kg:Nat)<2 ^ 63:=by rw [sizeLine_eq];decide
theorem vals1 {x:V} {us:List Ka} (r:zY [x] us):∃ u,us=[u]/\Zu x u:=by
 cases r with
 | cons r1 r2=>cases r2;exact ⟨_,rfl,r1⟩
theorem vals2 {x y:V} {us:List Ka} (r:zY [x,y] us):∃ u w',us=[u,w']/\Zu x u/\Zu y w':=by
 cases r with
 | cons r1 r2 =>
  cases r2 with
  | cons r3 r4=>cases r4;exact ⟨_,_,rfl,r1,r3⟩
theorem wJ:J9 X (.type "int") (fun xs H Q=>(∃ i,xs=[.int i]/\Q (.int i) H)\/∃ k,xs=[.bl k]/\Q (.int (if k then 1 else 0)) H):=by
 intro KJ s σ H xs us Q I r h
 rcases h with ⟨i,rfl,q⟩ | ⟨k,rfl,q⟩
 ·obtain ⟨u,rfl,t,rfl⟩:=vals1 r
  exact call_int_int ⟨.int i,H,I,⟨_,rfl⟩,q⟩
 ·obtain ⟨u,rfl,r1⟩:=vals1 r
  cases r1
  exact call_int_bool ⟨.int (if k then 1 else 0),H,I.tok _,⟨_,rfl⟩,q⟩
end
end L2
namespace L2
open PySem PySem.Spec PyProof.Rows
structure ObjM (h:Kl) (x dx C:Kc) (mA:Kw->Option Ka):Prop where
 obj:h.get? x=some (KG C dx)
 ns:h.Ns1 dx mA
 ne:dx≠x
theorem lookIn_ns {h:Kl} {dx:Kc} {mA:Kw->Option Ka} (n:h.Ns1 dx mA):∃ od,h.get? dx=some od/\∀ name,PySem.W.lookIn name od=some (mA name):=by
 obtain ⟨o,es,ep,ho,hd,hk,_,hm⟩:=n
 refine ⟨o,ho,fun name=>?_⟩
 have e:=hm name
 unfold nsFind findBy at e
 rw [<- Array.find?_toList] at e
 unfold PySem.W.lookIn
 rw [hd]
 dsimp only
 split
 ·rename_i y q
  rw [q] at e
  exact congrArg some e
 ·rename_i q
  rw [q] at e
  have a:es.toList.any (·.refKey)=false:=by
   rw [List.any_eq_false]
   intro y hy
   obtain ⟨z,t,hkey⟩:=hk y (Array.mem_toList_iff.mp hy)
   simp [DictEntry.refKey,hkey]
  have a':¬ es.toList.any (·.refKey)=true:=by rw [a];exact Qi
  rw [KR a']
  exact congrArg some e
theorem ObjM.look {h:Kl} {x dx C:Kc} {mA:Kw->Option Ka} (I:ObjM h x dx C mA):∃ od,PySem.W.InstAt h x (KG C dx) C (some od)/\∀ name,PySem.W.lookIn name od=some (mA name) :=
 let ⟨od,ho,hl⟩:=lookIn_ns I.ns
 ⟨od,⟨I.obj,rfl,rfl,ho⟩,hl⟩
section
variable {prog:Ki} {w:Kk} {A:Kj} {E:Ka->Kb->Prop} {s:Kb} {K:KC} {x dx C f:Kc} {mA:Kw->Option Ka} {name:Kw} {v:Ka}
theorem get_map {expr:Bool} {Q:Ka->Kb->Prop} (X:K.In s.heap) (I:ObjM s.heap x dx C mA) (hg:PySem.W.plainGet K C name=true) (hh:PySem.W.hasDictIn K C=true)
  (ha:KD K (.ref C) name=some none) (hv:mA name=some v) (hv':PySem.W.handedIn v=true) (h:Q v { s with toks:=s.toks+1 }) :
  Ko (Ky prog w) A (getAttr (.ref x) name expr) Q E s:=by
 obtain ⟨od,J,hl⟩:=I.look
 exact PySem.W.get_value X J (PySem.W.plainGet_of hg).1 (PySem.W.findObj_own hh ha rfl (by rw [hl,hv])) hv' h
theorem get_meth {pl:Sem Bool} {Q:Ka×List Ka->Kb->Prop} (X:K.In s.heap) (I:ObjM s.heap x dx C mA) (hg:PySem.W.plainGet K C name=true)
  (hf:KD K (.ref C) name=some (some (.ref f))) (ht:PySem.W.isFn K (.ref f)=true) (hv:mA name=none) (h:Q (.ref f,[.ref x]) s) :
  Ko (Ky prog w) A (getMethod (.ref x) name pl) Q E s:=by
 obtain ⟨od,J,hl⟩:=I.look
 exact PySem.W.method_fn X J (PySem.W.plainGet_of hg).1 (PySem.W.plainGet_of hg).2 hf (beq_iff_eq.mp ht) (by show (PySem.W.lookIn name od).map (·.isSome)=some false;rw [hl,hv];rfl) h
theorem set_map {ns:List Kw} {Q:Unit->Kb->Prop} (X:K.In s.heap) (I:ObjM s.heap x dx C mA)
  (hs:KD K (.ref C) "__setattr__"=some (some (.builtin "object.__setattr__"))) (hp:PySem.W.plainOver K C=true) (ht:PySem.W.takerIn K C name=some none) (hh:PySem.W.hasDictIn K C=true)
  (hw:PySem.Within mA ns) (hsz:ns.length<=Kg)
  (h:∀ h',ObjM h' x dx C (fun y=>if y=name then some v else mA y)->Heap.SameBut dx s.heap h'->Q () { s with heap:=h',toks:=s.toks+2 }) :
  Ko (Ky prog w) A (setAttr (.ref x) name v) Q E s:=by
 obtain ⟨od,J,hl⟩:=I.look
 refine PySem.W.set_plain X J hs (PySem.W.osa_open (s:={ s with toks:=s.toks+1 }) (r:=none) X J hp ht fun b=>?_)
 obtain ⟨cd,hc,hd'⟩:=PySem.W.any_some hh
 have hx:s.heap.get? x=some ⟨.ref C,some dx,.plain,#[]⟩:=I.obj
 refine Qa (Qf (Qa (Qa (wpAny_loadPart hx (Qa (PySem.W.Looks.here (s:={ s with toks:=s.toks+1 }) (PySem.W.looks_clsIn X hc) ?_))))))
 rw [hd']
 refine Qf (a:=some dx) (Qa (Qf (Qa ?_)))
 refine wpAny_nsSet1 (s:={ s with toks:=s.toks+1 }) I.ns fun h' hn2 hs2=>?_
 obtain ⟨oD,esD,epD,hoD,hdD,hcD⟩:=hn2.count (PySem.Within.cons name v hw)
 refine Qa (wpAny_lookBehind hoD (by rw [hdD];exact pastItsLine_dict (Qv hcD (by rw [Qg];omega))) ?_)
 exact Qf (h _ ⟨(hs2.2 _ (Ne.symm I.ne)).trans I.obj,hn2,I.ne⟩ hs2)
theorem make_map {R:Result->Kb->Prop} {vs:List Ka} {kw:List (Kw×Ka)} (X:K.In s.heap) (hm:PySem.W.makesIn K C=true)
  (hi:KD K (.ref C) "__init__"=some (some (.ref f))) (hf:PySem.W.typeIn K (.ref f)=some (.type "function"))
  (h:codeAny (Ky prog w) (A.under (.builtin "type.__call__" ⟨.ref C::vs,kw⟩)) (.call (.ref f) ⟨.ref (s.heap.objs.size+1)::vs,kw⟩) (PySem.W.InitBack (s.heap.objs.size+1) R)
   { s with heap:=(s.heap.push KF).push (KG C s.heap.objs.size) }) :
  codeAny (Ky prog w) A (.call (.ref C) ⟨vs,kw⟩) R s:=by
 obtain ⟨hh,g,d,t,os⟩:=s
 exact PySem.W.make_core (PySem.W.makes_of X hm) (PySem.W.looks_findIn X hi) (fun self=>PySem.W.bind_fn X self hf) (.inl rfl) h
end
def jr (f:Kw) (v:V):List (Kw×V)->List (Kw×V)
 | []=>[(f,v)]
 | (g,x)::r=>if g=f then (g,v)::r else (g,x)::jr f v r
theorem wY (f g:Kw) (v:V):∀ fs:List (Kw×V),(jr f v fs).lookup g=if g=f then some v else fs.lookup g
 | []=>by
  show List.lookup g [(f,v)]=_
  by_cases h:g=f
  ·have hb:(g == f)=true:=beq_iff_eq.mpr h
   simp only [List.lookup,hb,KQ h]
  ·have hb:(g == f)=false:=beq_eq_false_iff_ne.mpr h
   simp only [List.lookup,hb,KR h]
 | (k,x)::r=>by
  have ih:=wY f g v r
  rw [show jr f v ((k,x)::r)=(if k=f then (k,v)::r else (k,x)::jr f v r) from rfl]
  by_cases hk:k=f
  ·rw [KQ hk]
   by_cases h:g=k
   ·have hb:(g == k)=true:=beq_iff_eq.mpr h
    simp only [List.lookup,hb,KQ (h.trans hk)]
   ·have hb:(g == k)=false:=beq_eq_false_iff_ne.mpr h
    simp only [List.lookup,hb,KR (fun e:g=f=>h (e.trans hk.symm))]
  ·rw [KR hk]
   by_cases h:g=k
   ·have hb:(g == k)=true:=beq_iff_eq.mpr h
    simp only [List.lookup,hb,KR (fun e:g=f=>hk (h.symm.trans e))]
   ·have hb:(g == k)=false:=beq_eq_false_iff_ne.mpr h
    simp only [List.lookup,hb]
    exact ih
theorem wB (f:Kw) (v:V):∀ fs:List (Kw×V),f∈(jr f v fs).map (·.1)/\∀ g,g∈fs.map (·.1)->g∈(jr f v fs).map (·.1)
 | []=>⟨by simp [jr],fun g h=>by simp at h⟩
 | (k,x)::r=>by
  obtain ⟨i1,i2⟩:=wB f v r
  rw [show jr f v ((k,x)::r)=(if k=f then (k,v)::r else (k,x)::jr f v r) from rfl]
  by_cases hk:k=f
  ·rw [KQ hk]
   subst hk
   exact ⟨by simp,fun g h=>by simpa using h⟩
  ·rw [KR hk]
   refine ⟨?_,fun g h=>?_⟩
   ·rw [Qq]
    exact Qe _ i1
   ·rw [Qq] at h ⊢
    rcases Qc.mp h with e | e
    ·exact Qc.mpr (.inl e)
    ·exact Qe _ (i2 g e)
theorem w6 (f:Kw) (v:V):∀ fs:List (Kw×V),(jr f v fs).length<=fs.length+1
 | []=>by simp [jr]
 | (k,x)::r=>by
  have ih:=w6 f v r
  rw [show jr f v ((k,x)::r)=(if k=f then (k,v)::r else (k,x)::jr f v r) from rfl]
  by_cases hk:k=f
  ·rw [KQ hk,Qg,Qg];omega
  ·rw [KR hk,Qg,Qg];omega
theorem jn.some_of {v:V} {o:Option Ka} (r:jn (some v) o):∃ u,o=some u/\Zu v u:=by
 cases o with
 | none=>exact (show False from r).elim
 | some u=>exact ⟨u,rfl,r⟩
theorem jn.none_of {o:Option Ka} (r:jn none o):o=none:=by
 cases o with
 | none=>rfl
 | some u=>exact (show False from r).elim
theorem handed_of {v:V} {u:Ka} (r:Zu v u):PySem.W.handedIn u=true:=by
 cases v with
 | non=>cases (show u=Value.none from r);rfl
 | bl b=>cases (show u=Value.bool b from r);rfl
 | int i=>obtain ⟨t,e⟩:=(show ∃ t,u=Value.int i t from r);cases e;rfl
 | str x=>obtain ⟨t,e⟩:=(show ∃ t,u=Value.str x t from r);cases e;rfl
 | byt b=>obtain ⟨t,e⟩:=(show ∃ t,u=Value.bytes b t from r);cases e;rfl
 | flt b=>obtain ⟨t,e⟩:=(show ∃ t,u=Value.float b t from r);cases e;rfl
 | ref a=>cases (show u=Value.ref a from r);rfl
 | ty n=>cases (show u=Value.type n from r);rfl
section
variable {P:Ki} {w:Kk} {H H':Hp} {h h':Kl} {a C dx:Kc} {fs fs':List (Kw×V)}
theorem ins_get (hok:HOk P w H h) (e:H a=some (.ins C dx fs)):∃ mA,ObjM h a dx C mA/\(∀ f,jn (fs.lookup f) (mA f))/\PySem.Within mA (fs.map (·.1))/\fs.length<=1000/\H dx=some (.own a):=by
 obtain ⟨d,z,ne,ob,mA,n,r,q⟩:=(show yH P w H h a (.ins C dx fs) from hok a _ e)
 exact ⟨mA,⟨ob,n,ne⟩,r,q,z,d⟩
end
structure Cls (K:KC) (C:Kc):Prop where
 pg:PySem.W.plainGet K C Str.empty=true
 hd:PySem.W.hasDictIn K C=true
 po:PySem.W.plainOver K C=true
 sa:KD K (.ref C) "__setattr__"=some (some (.builtin "object.__setattr__"))
theorem Cls.get {K:KC} {C:Kc} (c:Cls K C) (f:Kw):PySem.W.plainGet K C f=true:=c.pg
def Yt (K:KC) (C:Kc) (f:Kw):Prop:=KD K (.ref C) f=some none
theorem Yt.taker {K:KC} {C:Kc} {f:Kw} (n:Yt K C f):PySem.W.takerIn K C f=some none:=by
 unfold PySem.W.takerIn
 rw [show KD K (.ref C) f=some none from n]
 rfl
structure Meth (K:KC) (C:Kc) (m:Kw) (f:Kc):Prop where
 at_:KD K (.ref C) m=some (some (.ref f))
 fn:PySem.W.isFn K (.ref f)=true
 kp:keepIn K (.ref f)=true
section
variable {X:Cx} {KJ:List (Kc×KA)} {σ:St} {H:Hp} {s:Kb} {a C dx:Kc} {fs:List (Kw×V)} {f:Kw} {v:V} {A:Kj} {E:Ka->Kb->Prop}
theorem gf {b:Bool} {Q:Ka->Kb->Prop} (I:Inv X KJ σ H s) (e:H a=some (.ins C dx fs)) (c:Cls X.K C) (n:Yt X.K C f) (l:fs.lookup f=some v)
  (h:∀ u s',Inv X KJ σ H s'->Zu v u->Q u s'):Ko (Ky X.prog X.w) A (getAttr (.ref a) f b) Q E s:=by
 obtain ⟨mA,O,r,_,_,_⟩:=ins_get I.hok e
 obtain ⟨u,hu,ru⟩:=jn.some_of (v:=v) (o:=mA f) (by rw [<- l];exact r f)
 exact get_map I.kIn O (c.get f) c.hd n hu (handed_of ru) (h u _ (I.tok _) ru)
theorem Ju {m:Kw} {g:Kc} {pl:Sem Bool} {Q:Ka×List Ka->Kb->Prop} (I:Inv X KJ σ H s) (e:H a=some (.ins C dx fs)) (c:Cls X.K C) (k:Meth X.K C m g) (l:fs.lookup m=none)
  (h:Q (.ref g,[.ref a]) s):Ko (Ky X.prog X.w) A (getMethod (.ref a) m pl) Q E s:=by
 obtain ⟨mA,O,r,_,_,_⟩:=ins_get I.hok e
 have hn:mA m=none:=jn.none_of (by rw [<- l];exact r m)
 exact get_meth I.kIn O (c.get m) k.at_ k.fn hn h
theorem WQ {y:V} {u:Ka} {Q:Unit->Kb->Prop} (I:Inv X KJ σ H s) (e:H a=some (.ins C dx fs)) (c:Cls X.K C) (n:Yt X.K C f) (hl:fs.length<1000) (ry:Zu y u)
  (h:∀ s',Inv X KJ σ (upd H a (.ins C dx (jr f y fs))) s'->Q () s'):Ko (Ky X.prog X.w) A (setAttr (.ref a) f u) Q E s:=by
 obtain ⟨mA,O,r,wi,_,ho⟩:=ins_get I.hok e
 have hz:(fs.map (·.1)).length<=Kg:=by rw [Ql,sizeLine_eq];omega
 refine set_map I.kIn O c.sa c.po n.taker c.hd wi hz fun h' O' sb=>h _ ?_
 have hd:∃ o,h'.get? dx=some o:=let ⟨o,_,_,e',_⟩:=O'.ns;⟨o,e'⟩
 refine I.write (x:=a) (e:=dx) (by rw [e];exact True.intro) (.inr ho) (fun b q hb z=>(sb.2 b hb).trans z) hd ?_
 refine ⟨by rw [zv O.ne];exact ho,?_,O.ne,O'.obj,_,O'.ns,fun g=>?_,fun g hg=>?_⟩
 ·have:=w6 f y fs;omega
 ·show jn ((jr f y fs).lookup g) (if g=f then some u else mA g)
  rw [wY]
  by_cases q:g=f
  ·rw [KQ q,KQ q];exact ry
  ·rw [KR q,KR q];exact r g
 ·by_cases q:g=f
  ·rw [q];exact (wB f y fs).1
  ·refine (wB f y fs).2 g (wi g fun z=>hg ?_)
   show (if g=f then some u else mA g)=none
   rw [KR q];exact z
theorem Inv.made (I:Inv X KJ σ H s):Inv X KJ σ (upd (upd H s.heap.objs.size (.own (s.heap.objs.size+1))) (s.heap.objs.size+1) (.ins C s.heap.objs.size []))
  { s with heap:=(s.heap.push KF).push (KG C s.heap.objs.size) }:=by
 have e1:(s.heap.push KF).get? s.heap.objs.size=some KF:=Qp s.heap rfl
 have e2:((s.heap.push KF).push (KG C s.heap.objs.size)).get? (s.heap.objs.size+1)=some (KG C s.heap.objs.size):=by
  have:=Qp (s.heap.push KF) (o:=KG C s.heap.objs.size) rfl
  rwa [QH] at this
 have e3:(s.heap.push KF).Ns s.heap.objs.size (fun _=>none):=⟨KF,#[],_,e1,rfl,(fun e he=>absurd he (by simp)),fun _=>rfl⟩
 have I1:=I.laid (a:=s.heap.objs.size) (o:=.own (s.heap.objs.size+1)) (h':=s.heap.push KF) (t':=s.toks) (fun b u q=>Qb _ q) (Qh _) ⟨_,e1⟩
 refine I1.laid (a:=s.heap.objs.size+1) (o:=.ins C s.heap.objs.size []) (t':=s.toks) (fun b u q=>Qb _ q) (Nat.le_of_eq (QH _ _)) ?_
 have ne:s.heap.objs.size≠s.heap.objs.size+1:=Qu (Q0 _)
 refine ⟨by rw [zv ne,zw],Q4 _,ne,e2,fun _=>none,(Heap.Ns1.of_empty e3).at fun o q=>Qb _ q,fun _=>True.intro,fun y hy=>absurd rfl hy⟩
theorem attr_of {prog:Ki} {w:Kk} {env:Env} {e:Kv} {f:Kw} {pos:KB} {s:Kb} {Q:Ka->Kb->Prop} (hb:Kp e f env (Kz e env)=Kz e env)
  (h:Ko (Ky prog w) A (Kz e env) (fun o s₁=>Ko (Ky prog w) A (getAttr o f true) Q E s₁) E s):Ko (Ky prog w) A (Kz (.Attribute e f pos) env) Q E s :=
 Attribute_any_ h (by rw [arm_eval_Attribute,hb])
end
def Wc (K:KC) (ta:TE) (f:Kw):TE:=fun σ H Q=>ta σ H fun x H1=>∃ a C dx fs v,x=.ref a/\H1 a=some (.ins C dx fs)/\Cls K C/\Yt K C f/\fs.lookup f=some v/\Q v H1
def sFld (K:KC) (ta tv:TE) (f:Kw):TS:=fun D σ H=>tv σ H fun y H1=>ta σ H1 fun x H2=>∃ a C dx fs,x=.ref a/\H2 a=some (.ins C dx fs)/\Cls K C/\Yt K C f/\fs.length<1000 /\
 D.nx σ (upd H2 a (.ins C dx (jr f y fs)))
def InOp (X:Cx) (op:Operator) (rd:V->V->Hp->VK->Prop):Prop :=
 ∀ (KJ:List (Kc×KA)) (s:Kb) (σ:St) (H:Hp) (x y:V) (u v:Ka) (Q:VK),Inv X KJ σ H s->Zu x u->Zu y v->rd x y H Q->Ko (Ky X.prog X.w) X.A (inplaceOp op u v) (EP X KJ σ Q) X.xe s
def sFldAug (K:KC) (ta tv:TE) (rd:V->V->Hp->VK->Prop) (f:Kw):TS:=fun D σ H=>ta σ H fun x H1=>∃ a C dx fs v,x=.ref a/\H1 a=some (.ins C dx fs)/\Cls K C/\Yt K C f/\fs.lookup f=some v /\
 tv σ H1 fun y H2=>rd v y H2 fun z H3=>∃ dx' fs',H3 a=some (.ins C dx' fs')/\fs'.length<1000/\D.nx σ (upd H3 a (.ins C dx' (jr f z fs')))
section
variable {X:Cx} {o e value:Kv} {f:Kw} {pos pos' tpos:KB} {ta tv:TE}
theorem pe_fld (he:PE X e ta) (hb:Kp e f X.env (Kz e X.env)=Kz e X.env):PE X (.Attribute e f pos) (Wc X.K ta f):=by
 intro KJ s σ H Q I h
 refine attr_of hb (thn (he KJ s σ H _ I h) fun u s1 ⟨x,H1,I1,rx,a,C,dx,fs,v,ex,ea,c,n,l,q⟩=>?_)
 subst ex
 obtain rfl:u=Value.ref a:=rx
 exact gf I1 ea c n l fun u' s2 I2 ru=>⟨v,H1,I2,ru,q⟩
theorem ps_fld (ha:PE X o ta) (hv:PE X value tv) (hs:Kt value (some (.Attribute o f pos')) pos.line X.env=pure false):PS X (.Assign [.Attribute o f pos'] value pos) (sFld X.K ta tv f):=by
 intro KJ s σ H D I h
 refine plainObj_wpAny_Assign_Attribute (thn (hv KJ s σ H _ I h) fun u s1 ⟨y,H1,I1,ry,q⟩=>thn (ha KJ s1 σ H1 _ I1 q) fun ov s2 ⟨x,H2,I2,rx,a,C,dx,fs,ex,ea,c,n,l,q2⟩=>?_) hs
 subst ex
 obtain rfl:ov=Value.ref a:=rx
 exact WQ I2 ea c n l ry fun s3 I3=>⟨σ,_,I3,q2⟩
theorem ps_fldaug {op:Operator} {rd:V->V->Hp->VK->Prop} (ha:PE X o ta) (hv:PE X value tv) (hop:InOp X op rd):PS X (.AugAssign (.Attribute o f tpos) op value pos) (sFldAug X.K ta tv rd f):=by
 intro KJ s σ H D I h
 refine wpAny_AugAssign_AttributeAny (thn (ha KJ s σ H _ I h) fun ov s1 ⟨x,H1,I1,rx,a,C,dx,fs,v,ex,ea,c,n,l,q⟩=>?_)
 subst ex
 obtain rfl:ov=Value.ref a:=rx
 refine gf I1 ea c n l fun u s2 I2 ru=>thn (hv KJ s2 σ H1 _ I2 q) fun w3 s3 ⟨y,H2,I3,ry,q3⟩=>thn (hop KJ s3 σ H2 v y u w3 _ I3 ru ry q3) fun w4 s4 ⟨z,H3,I4,rz,dx',fs',ea',l',q4⟩=>?_
 exact WQ I4 ea' c n l' rz fun s5 I5=>⟨σ,_,I5,q4⟩
def rAdd:V->V->Hp->VK->Prop:=fun x y H Q=>∃ i j,x=.int i/\y=.int j/\Q (.int (i+j)) H
theorem in_add:InOp X .Add rAdd:=by
 rintro KJ s σ H x y u v Q I rx ry ⟨i,j,rfl,rfl,q⟩
 obtain ⟨t,rfl⟩:=(show ∃ t,u=Value.int i t from rx)
 obtain ⟨t',rfl⟩:=(show ∃ t',v=Value.int j t' from ry)
 exact PyProof.Rows.iadd_int ⟨.int (i+j),H,I.tok _,⟨_,rfl⟩,q⟩
theorem methcall_of {pl:Sem Bool} {m:Kw} {apos:KB} {args:List Kv} {KJ:List (Kc×KA)} {s:Kb} {σ:St} {H:Hp} {Q:Ka->Kb->Prop} {te:TE} (he:PE X e te) (I:Inv X KJ σ H s)
  (h:te σ H fun x H1=>∃ a C dx fs g,x=.ref a/\H1 a=some (.ins C dx fs)/\Cls X.K C/\Meth X.K C m g/\fs.lookup m=none /\
   ∀ s1,Inv X KJ σ H1 s1->Ko (Ky X.prog X.w) X.A (callWith pos (.ref g) [.ref a] (Kq pos (Ke args X.env)) (Kr pos (Ks [] X.env))) Q X.xe s1)
  (ht:Kz (.Call (.Attribute e m apos) args [] pos) X.env=(do
   let ov <- Kz e X.env
   standAt apos.atName
   let (f,first) <- holding [ov] (getMethod ov m pl)
   callWith pos f first (Kq pos (Ke args X.env)) (Kr pos (Ks [] X.env)))) :
  Ko (Ky X.prog X.w) X.A (Kz (.Call (.Attribute e m apos) args [] pos) X.env) Q X.xe s:=by
 refine PySem.W.methodCall_KW (pl:=pl) (thn (he KJ s σ H _ I h) fun u s1 ⟨x,H1,I1,rx,a,C,dx,fs,g,ex,ea,c,k,l,q⟩=>?_) ht
 subst ex
 obtain rfl:u=Value.ref a:=rx
 exact Ju I1 ea c k l (q s1 I1)
end
section
variable {X:Cx} {KJ:List (Kc×KA)} {σ:St} {H:Hp} {s:Kb} {A:Kj} {E:Ka->Kb->Prop} {Q:Ka->Kb->Prop} {c:Ka} {b:Bool}
end
end L2
namespace L2
open PySem PySem.Spec PyProof.Rows
structure Room (k:Nat) (A:Kj):Prop where
 hd:A.handled=none
 dp:A.depth+3*k+5<recursionLimit
 un:A.units+16*k+200<cLine
 gd:A.guards=some []
theorem Room.mono {j k:Nat} {A:Kj} (r:Room k A) (h:j<=k):Room j A:=⟨r.hd,by have:=r.dp;omega,by have:=r.un;omega,r.gd⟩
theorem Room.deeper {k:Nat} {A:Kj} (r:Room (k+1) A) (env:Env):Room k (A.deeper env) :=
 ⟨r.hd,by have:=r.dp;show A.depth+1+3*k+5<_;omega,by have:=r.un;show A.units+3+16*k+200<_;omega,r.gd⟩
theorem make_depth {A:Kj} {C:Kc} {us:List Ka} {kw:List (Kw×Ka)}:(A.under (.builtin "type.__call__" ⟨.ref C::us,kw⟩)).depth=A.depth+1:=by
 first | rfl | simp [Around.under,Code.weight,Code.isCreation,Code.isGuard,Code.isCaller,Code.frames,Code.isFrame,guardIds]
theorem make_units {A:Kj} {C:Kc} {us:List Ka} {kw:List (Kw×Ka)}:(A.under (.builtin "type.__call__" ⟨.ref C::us,kw⟩)).units=A.units+1:=by
 first | rfl | simp [Around.under,Code.cUnits,Code.frames,Code.isFrame]
theorem Room.make {k:Nat} {A:Kj} (r:Room (k+1) A) (C:Kc) (us:List Ka) (kw:List (Kw×Ka)):Room k (A.under (.builtin "type.__call__" ⟨.ref C::us,kw⟩)) :=
 ⟨r.hd,by have:=r.dp;rw [make_depth];omega,by have:=r.un;rw [make_units];omega,(by rw [<- r.gd];first | rfl | kernel_rfl)⟩
theorem Room.depth {k:Nat} {A:Kj} (r:Room k A):A.depth<recursionLimit:=by have:=r.dp;omega
theorem Room.units {k:Nat} {A:Kj} (r:Room k A):A.units+64<cLine:=by have:=r.un;omega
def ZS:TA:=fun _ H Q=>Q [] H
def zW (ta:TE) (tr:TA):TA:=fun σ H Q=>ta σ H fun x H1=>tr σ H1 fun xs H2=>Q (x::xs) H2
section
variable {X:Cx} {e:Kv} {es:List Kv} {te:TE} {t:TA} {pos:KB}
theorem Zj:PA X [] ZS:=fun _ _ _ _ H Q I h=>Calls.spliced_nil ⟨[],H,I,.nil,h⟩
theorem zM (ha:PE X e te) (hr:PA X es t) (hs:Ke (e::es) X.env=(false,Kz e X.env)::Ke es X.env:=by rfl):PA X (e::es) (zW te t):=by
 intro pos KJ s σ H Q I h
 rw [hs]
 show Ko _ _ (spliced ((false,Kz e X.env)::Kq pos (Ke es X.env))) _ _ s
 refine Calls.spliced_cons (thn (ha KJ s σ H _ I h) fun u s1 ⟨x,H1,I1,r1,q1⟩=>?_)
 exact thn (hr pos KJ s1 σ H1 _ I1 q1) fun us s2 ⟨xs,H2,I2,r2,q2⟩=>⟨x::xs,H2,I2,.cons r1 r2,q2⟩
def tTup (t:TA):TE:=fun σ H Q=>t σ H fun xs H1=>xs.length<=Kg/\∀ p,H1 p=none->Q (.ref p) (upd H1 p (.tup xs))
def tLst (t:TA):TE:=fun σ H Q=>t σ H fun xs H1=>xs.length<=Kg/\∀ p,H1 p=none->Q (.ref p) (upd H1 p (.lst xs))
theorem wv {x1} (h:PA X es t):PE X (.Tuple es x1 pos) (tTup t):=by
 intro KJ s σ H Q I hq
 refine wpAny_Tuple_spliced (thn (h pos KJ s σ H _ I hq) fun us s1 ⟨xs,H1,I1,r,z,q⟩=>⟨by rw [<- r.length];exact z,?_⟩)
 have hf:H1 s1.heap.objs.size=none:=I1.hok.fresh (Qh _)
 refine ⟨.ref s1.heap.objs.size,upd H1 s1.heap.objs.size (.tup xs),I1.laid (t':=s1.toks) (fun b u e=>Qb _ e) (Qh _) ?_,rfl,q _ hf⟩
 exact ⟨z,us,r,⟨_,Qp _ rfl,rfl,_,rfl⟩⟩
theorem jd (h:PA X es t):PE X (.List es pos) (tLst t):=by
 intro KJ s σ H Q I hq
 refine wpAny_List_spliced (thn (h pos KJ s σ H _ I hq) fun us s1 ⟨xs,H1,I1,r,z,q⟩=>⟨by rw [<- r.length];exact z,?_⟩)
 have hf:H1 s1.heap.objs.size=none:=I1.hok.fresh (Qh _)
 refine ⟨.ref s1.heap.objs.size,upd H1 s1.heap.objs.size (.lst xs),I1.laid (t':=s1.toks) (fun b u e=>Qb _ e) (Qh _) ?_,rfl,q _ hf⟩
 exact ⟨z,us,0,r,Qp _ rfl⟩
end
abbrev Sp:=List V->Hp->VK->XK->Prop
abbrev CXT:=List Env->Hp->Kb->XK->Ka->Kb->Prop
structure Env0 (P:Ki) (w:Kk) (K:KC) (mg:Kw->Option Ka) (base:Kl) (A:Kj) (outer:List Env) (s:Kb) (H:Hp):Prop where
 frames:A.frames=some outer
 mod:Mod K mg base
 bs:∀ b o,base.get? b=some o->s.heap.get? b=some o/\H b=none
 bsz:base.objs.size<=s.heap.objs.size
 funs:s.heap.FunFrames base outer
 frf:∀ b∈frs outer,H b=none
 hok:HOk P w H s.heap
 bare:AllBare s.gens
 tree:P.given.tree=none
def CE (outer:List Env) (P:Ki) (w:Kk) (H:Hp) (s:Kb) (Q:VK) (u:Ka) (s':Kb):Prop :=
 ∃ v H',s'.os=s.os/\AllBare s'.gens/\Un (frs outer) [] H H' s.heap s'.heap/\HOk P w H' s'.heap/\Zu v u/\Q v H'
def CR (CX:CXT) (outer:List Env) (P:Ki) (w:Kk) (H:Hp) (s:Kb) (Q:VK) (E:XK) (r:Result) (s':Kb):Prop :=
 match r with
 | .ok (.ret u)=>CE outer P w H s Q u s'
 | .ok _=>False
 | .error e=>CX outer H s E e s'
structure FnOk (P:Ki) (w:Kk) (K:KC) (mg:Kw->Option Ka) (base:Kl) (CX:CXT) (k:Nat) (f:Kc) (fd:Kh) (ps:List Kw) (sp:Sp):Prop where
 len:∀ vs H Q E,sp vs H Q E->vs.length=ps.length
 run:∀ (A:Kj) (outer:List Env) (s:Kb) (H:Hp) (args:Args) (us:List Ka) (vs:List V) (Q:VK) (E:XK),Room k A->Env0 P w K mg base A outer s H->BindsTo s fd args (ps.zip us)->zY vs us->sp vs H Q E ->
  codeAny (Ky P w) A (.call (.ref f) args) (CR CX outer P w H s Q E) s
theorem Env0.make {P:Ki} {w:Kk} {K:KC} {mg:Kw->Option Ka} {base:Kl} {A:Kj} {outer:List Env} {s:Kb} {H:Hp} (e:Env0 P w K mg base A outer s H) (C:Kc) (us:List Ka) (kw:List (Kw×Ka)) :
  Env0 P w K mg base (A.under (.builtin "type.__call__" ⟨.ref C::us,kw⟩)) outer s H:=⟨by first | exact e.frames | (simpa [Around.under,Code.envs,Code.isFrame,pushEnvs] using e.frames),e.mod,e.bs,e.bsz,e.funs,e.frf,e.hok,e.bare,e.tree⟩
section
variable {X:Cx} {KJ:List (Kc×KA)} {σ:St} {H:Hp} {s s':Kb}
theorem Inv.env0 (I:Inv X KJ σ H s):Env0 X.prog X.w X.K X.mg X.base X.A X.stack s H :=
 ⟨I.ok.frames,I.ok.mod,I.bs,Qv I.ok.bsz I.sz,I.stack,I.stkFree,I.hok,I.bare,I.ok.tree⟩
theorem Inv.after {Q:VK} {u:Ka} (I:Inv X KJ σ H s) (h:CE X.stack X.prog X.w H s Q u s'):EP X KJ σ Q u s':=by
 obtain ⟨v,H',os,bare,un,hok,r,q⟩:=h
 obtain ⟨hh,g,d,t,os'⟩:=s'
 obtain rfl:os'=s.os:=os
 exact ⟨v,H',I.call (h':=hh) (g':=g) (d':=d) (t':=t) (ch:=[]) un hok bare (fun b z=>absurd z (by simp)),r,q⟩
end
def jx (sp:Sp) (dvs:List V) (E:XK) (t:TA):TE:=fun σ H Q=>t σ H fun vs H1=>sp (vs++dvs) H1 Q E
def WJ (C:Kc) (m:Kw) (sp:Sp) (dvs:List V) (E:XK) (ta:TE) (t:TA):TE:=fun σ H Q=>ta σ H fun x H1=>∃ a dx fs,x=.ref a/\H1 a=some (.ins C dx fs)/\fs.lookup m=none /\
 t σ H1 fun vs H2=>sp (x::(vs++dvs)) H2 Q E
def tMake (C:Kc) (sp:Sp) (dvs:List V) (E:XK) (t:TA):TE:=fun σ H Q=>t σ H fun vs H1=>∀ x dx,H1 x=none->H1 dx=none->dx≠x ->
 sp (.ref x::(vs++dvs)) (upd (upd H1 dx (.own x)) x (.ins C dx [])) (fun v H2=>v=.non/\Q (.ref x) H2) E
def Yq (K:KC) (fd:Kh) (ps:List Kw) (ds:List Ka):Prop :=
 ∀ (s:Kb) (us:List Ka),K.In s.heap->(us++ds).length=ps.length->BindsTo s fd ⟨us,[]⟩ (ps.zip (us++ds))
theorem Yq.all {K:KC} {fd:Kh} {ps:List Kw} (h:∀ us:List Ka,us.length=ps.length->bindArgs fd ⟨us,[]⟩=pure (ps.zip us)):Yq K fd ps []:=fun s us _ hl=>by
 rw [Pl] at hl ⊢
 exact .of_eq (h us hl)
def JC (CX:CXT) (X:Cx) (E:XK):Prop:=∀ (KJ:List (Kc×KA)) (σ:St) (H:Hp) (s:Kb) (e:Ka) (s':Kb),Inv X KJ σ H s->CX X.stack H s E e s'->X.xe e s'
section
variable {X:Cx} {CX:CXT} {k:Nat} {f C:Kc} {fd:Kh} {ps:List Kw} {sp:Sp} {dvs:List V} {ds:List Ka} {E:XK} {x m:Kw} {p pos apos:KB} {e o:Kv} {es:List Kv} {ta:TE} {t:TA}
theorem run_fn {KJ:List (Kc×KA)} {σ:St} {H:Hp} {s:Kb} {Q:VK} {us:List Ka} {vs:List V} (F:FnOk X.prog X.w X.K X.mg X.base CX k f fd ps sp) (hr:Room k X.A) (hb:Yq X.K fd ps ds) (hd:zY dvs ds) (hx:JC CX X E)
  (I:Inv X KJ σ H s) (r:zY vs us) (h:sp (vs++dvs) H Q E):Ko (Ky X.prog X.w) X.A (call (.ref f) us) (EP X KJ σ Q) X.xe s:=by
 have r2:zY (vs++dvs) (us++ds):=r.append hd
 have hl:(us++ds).length=ps.length:=by rw [<- r2.length];exact F.len _ _ _ _ h
 refine wpAny_call (codeAny_mono (F.run X.A X.stack s H ⟨us,[]⟩ (us++ds) (vs++dvs) Q E hr I.env0 (hb s us I.kIn hl) r2 h) fun r s' hq=>?_)
 cases r with
 | error e=>exact hx KJ σ H s e s' I hq
 | ok fl =>
  cases fl with
  | ret u=>exact I.after hq
  | next=>exact False.elim hq
  | brk=>exact False.elim hq
  | cont=>exact False.elim hq
theorem Wr (F:FnOk X.prog X.w X.K X.mg X.base CX k f fd ps sp) (hr:Room k X.A) (hg:Gl X x) (hm:X.mg x=some (.ref f)) (hk:keepIn X.K (.ref f)=true) (hb:Yq X.K fd ps ds) (hd:zY dvs ds) (hx:JC CX X E)
  (ha:PA X (e::es) t) (hdb:(x == ("__debug__":Kw))=false:=by decide) (he:Ke (e::es) X.env=(false,Kz e X.env)::Ke es X.env:=by rfl) (hpl:(Kq pos (Ke es X.env)).any (·.1)=false:=by rfl) :
  PE X (.Call (.Name x p) (e::es) [] pos) (jx sp dvs E t):=by
 intro KJ s σ H Q I h
 refine Pg (ld_glob I hg hm ?_ hdb)
 refine PySem.W.callWith_K (h₀:=X.base) I.ok.mod.kin hk (thn (ha pos KJ s σ H _ I h) fun us s1 ⟨vs,H1,I1,r,q⟩=>⟨I1.kIn,?_⟩) he hpl
 exact run_fn F hr hb hd hx I1 r q
theorem pe_meth {pl:Sem Bool} (he:PE X o ta) (c:Cls X.K C) (hm:Meth X.K C m f) (F:FnOk X.prog X.w X.K X.mg X.base CX k f fd ps sp) (hr:Room k X.A) (hb:Yq X.K fd ps ds) (hd:zY dvs ds) (hx:JC CX X E) (ha:PA X (e::es) t)
  (hst:Ke (e::es) X.env=(false,Kz e X.env)::Ke es X.env:=by rfl) (hpl:(Kq pos (Ke es X.env)).any (·.1)=false:=by rfl)
  (ht:Kz (.Call (.Attribute o m apos) (e::es) [] pos) X.env=(do
   let ov <- Kz o X.env
   standAt apos.atName
   let (f,first) <- holding [ov] (getMethod ov m pl)
   callWith pos f first (Kq pos (Ke (e::es) X.env)) (Kr pos (Ks [] X.env))):=by rfl) :
  PE X (.Call (.Attribute o m apos) (e::es) [] pos) (WJ C m sp dvs E ta t):=by
 intro KJ s σ H Q I h
 refine PySem.W.methodCall_KW (pl:=pl) (thn (he KJ s σ H _ I h) fun u s1 ⟨x,H1,I1,rx,a,dx,fs,ex,ea,l,q⟩=>?_) ht
 subst ex
 obtain rfl:u=Value.ref a:=rx
 refine Ju I1 ea c hm l ?_
 refine PySem.W.callWith_K (first:=[.ref a]) (h₀:=X.base) I.ok.mod.kin hm.kp (thn (ha pos KJ s1 σ H1 _ I1 q) fun us s2 ⟨vs,H2,I2,r,q2⟩=>⟨I2.kIn,?_⟩) hst hpl
 exact run_fn (us:=.ref a::us) (vs:=.ref a::vs) F hr hb hd hx I2 (.cons rfl r) q2
theorem pe_meth0 {pl:Sem Bool} (he:PE X o ta) (c:Cls X.K C) (hm:Meth X.K C m f) (F:FnOk X.prog X.w X.K X.mg X.base CX k f fd ps sp) (hr:Room k X.A) (hb:Yq X.K fd ps ds) (hd:zY dvs ds) (hx:JC CX X E)
  (ht:Kz (.Call (.Attribute o m apos) [] [] pos) X.env=(do
   let ov <- Kz o X.env
   standAt apos.atName
   let (f,first) <- holding [ov] (getMethod ov m pl)
   callWith pos f first (Kq pos (Ke [] X.env)) (Kr pos (Ks [] X.env))):=by rfl) :
  PE X (.Call (.Attribute o m apos) [] [] pos) (WJ C m sp dvs E ta ZS):=by
 intro KJ s σ H Q I h
 refine PySem.W.methodCall_KW (pl:=pl) (thn (he KJ s σ H _ I h) fun u s1 ⟨x,H1,I1,rx,a,dx,fs,ex,ea,l,q⟩=>?_) ht
 subst ex
 obtain rfl:u=Value.ref a:=rx
 refine Ju I1 ea c hm l ?_
 exact PySem.W.callWith_K0 (first:=[.ref a]) I1.kIn hm.kp (run_fn (us:=[.ref a]) (vs:=[.ref a]) F hr hb hd hx I1 (.cons rfl .nil) q)
structure Mk (K:KC) (C f:Kc):Prop where
 makes:PySem.W.makesIn K C=true
 init:KD K (.ref C) "__init__"=some (some (.ref f))
 fn:PySem.W.isFn K (.ref f)=true
 kp:keepIn K (.ref C)=true
theorem run_make {KJ:List (Kc×KA)} {σ:St} {H:Hp} {s:Kb} {Q:VK} {us:List Ka} {vs:List V} (M:Mk X.K C f) (F:FnOk X.prog X.w X.K X.mg X.base CX k f fd ps sp) (hr:Room (k+1) X.A) (hb:Yq X.K fd ps ds) (hd:zY dvs ds)
  (hx:JC CX X E) (I:Inv X KJ σ H s) (r:zY vs us)
  (h:∀ x dx,H x=none->H dx=none->dx≠x->sp (.ref x::(vs++dvs)) (upd (upd H dx (.own x)) x (.ins C dx [])) (fun v H2=>v=.non/\Q (.ref x) H2) E) :
  Ko (Ky X.prog X.w) X.A (call (.ref C) us) (EP X KJ σ Q) X.xe s:=by
 have hq:=h (s.heap.objs.size+1) s.heap.objs.size (I.hok.fresh (Nat.le_succ _)) (I.hok.fresh (Qh _)) (Qu (Q0 _))
 have I2:=Inv.made (C:=C) I
 have r2:zY (V.ref (s.heap.objs.size+1)::(vs++dvs)) (Value.ref (s.heap.objs.size+1)::(us++ds)):=.cons rfl (r.append hd)
 have hl:(Value.ref (s.heap.objs.size+1)::us++ds).length=ps.length:=by
  have e:=r2.length
  rw [F.len _ _ _ _ hq] at e
  exact e.symm
 refine wpAny_call (make_map (f:=f) I.kIn M.makes M.init (beq_iff_eq.mp M.fn) (codeAny_mono (F.run _ X.stack _ _ ⟨Value.ref (s.heap.objs.size+1)::us,[]⟩ (Value.ref (s.heap.objs.size+1)::(us++ds)) _ _ E (hr.make C us [])
  (I2.env0.make C us []) (hb _ (Value.ref (s.heap.objs.size+1)::us) I2.kIn hl) r2 hq) fun r s' hq'=>?_))
 cases r with
 | error e=>exact hx KJ σ _ _ e s' I2 hq'
 | ok fl =>
  cases fl with
  | ret u =>
   obtain ⟨v,H',I3,rv,ev,q3⟩:=I2.after hq'
   subst ev
   exact ⟨rv,⟨V.ref (s.heap.objs.size+1),H',I3,rfl,q3⟩⟩
  | next=>exact False.elim hq'
  | brk=>exact False.elim hq'
  | cont=>exact False.elim hq'
theorem pe_make (M:Mk X.K C f) (F:FnOk X.prog X.w X.K X.mg X.base CX k f fd ps sp) (hr:Room (k+1) X.A) (hg:Gl X x) (hm:X.mg x=some (.ref C)) (hb:Yq X.K fd ps ds) (hd:zY dvs ds) (hx:JC CX X E)
  (ha:PA X (e::es) t) (hdb:(x == ("__debug__":Kw))=false:=by decide) (he:Ke (e::es) X.env=(false,Kz e X.env)::Ke es X.env:=by rfl) (hpl:(Kq pos (Ke es X.env)).any (·.1)=false:=by rfl) :
  PE X (.Call (.Name x p) (e::es) [] pos) (tMake C sp dvs E t):=by
 intro KJ s σ H Q I h
 refine Pg (ld_glob I hg hm ?_ hdb)
 refine PySem.W.callWith_K (h₀:=X.base) I.ok.mod.kin M.kp (thn (ha pos KJ s σ H _ I h) fun us s1 ⟨vs,H1,I1,r,q⟩=>⟨I1.kIn,?_⟩) he hpl
 exact run_make M F hr hb hd hx I1 r q
end
section
variable {X:Cx} {CX:CXT} {k:Nat} {f C:Kc} {fd:Kh} {ps ks:List Kw} {sp:Sp} {E:XK} {x m:Kw} {p pos apos kpos:KB} {e o:Kv} {es:List Kv} {kws:List Keyword} {te ta:TE} {t tk:TA} {nm:Option Kw}
variable {g:List Ka->List Ka->List Ka} {gV:List V->List V->List V}
end
structure FnScope (N P:List Kw) (sc:Scope):Prop where
 kind:sc.kind=.function
 co:sc.isCoroutine=false
 gen:sc.isGenerator=false
 nd:N.Nodup
 pre:N.take P.length=P
 par:∀ x∈P,sc.names.lookup x=some .local\/sc.names.lookup x=some .cell
 nofree:∀ y∈sc.names,y.2≠.free
theorem bindL_out {kindOf:Kw->Option Ku} {x:Kw}:∀ {binds:List (Kw×Ka)} {m:Kw->Option Ka},(∀ v,(x,v)∉binds)->bindL kindOf binds m x=m x
 | [],_,_=>rfl
 | (n,v)::r,m,h=>by
  unfold bindL
  rw [bindL_out fun w hw=>h w (Qe _ hw)]
  split
  ·have:x≠n:=by rintro rfl;exact h v Qt
   simp [this]
  ·rfl
theorem bindC_out {kindOf:Kw->Option Ku} {x:Kw}:∀ {binds:List (Kw×Ka)} {m:Kw->Option Ka},(∀ v,(x,v)∉binds)->bindC kindOf binds m x=m x
 | [],_,_=>rfl
 | (n,v)::r,m,h=>by
  unfold bindC
  rw [bindC_out fun w hw=>h w (Qe _ hw)]
  split
  ·rfl
  ·have:x≠n:=by rintro rfl;exact h v Qt
   simp [this]
theorem bindL_get {kindOf:Kw->Option Ku} {x:Kw} {v:Ka}:∀ {P:List Kw} {vs:List Ka} {i:Nat} {m:Kw->Option Ka},P.Nodup->P[i]?=some x->vs[i]?=some v->kindOf x=some .local ->
  bindL kindOf (P.zip vs) m x=some v
 | [],_,_,_,_,h,_,_=>by simp at h
 | _::_,[],_,_,_,_,h,_=>by simp at h
 | p::P,w::vs,0,m,nd,h1,h2,hk=>by
  simp at h1 h2;subst h1;subst h2
  show bindL kindOf ((p,w)::P.zip vs) m p=_
  unfold bindL
  rw [bindL_out fun v hv=>(Qx.mp nd).1 (List.of_mem_zip hv).1,KQ hk]
  simp
 | p::P,w::vs,i+1,m,nd,h1,h2,hk=>by
  show bindL kindOf ((p,w)::P.zip vs) m x=_
  unfold bindL
  exact bindL_get (i:=i) (Qx.mp nd).2 (by simpa using h1) (by simpa using h2) hk
theorem bindC_get {kindOf:Kw->Option Ku} {x:Kw} {v:Ka}:∀ {P:List Kw} {vs:List Ka} {i:Nat} {m:Kw->Option Ka},P.Nodup->P[i]?=some x->vs[i]?=some v->kindOf x≠some .local ->
  bindC kindOf (P.zip vs) m x=some v
 | [],_,_,_,_,h,_,_=>by simp at h
 | _::_,[],_,_,_,_,h,_=>by simp at h
 | p::P,w::vs,0,m,nd,h1,h2,hk=>by
  simp at h1 h2;subst h1;subst h2
  show bindC kindOf ((p,w)::P.zip vs) m p=_
  unfold bindC
  rw [bindC_out fun v hv=>(Qx.mp nd).1 (List.of_mem_zip hv).1,KR hk]
  simp
 | p::P,w::vs,i+1,m,nd,h1,h2,hk=>by
  show bindC kindOf ((p,w)::P.zip vs) m x=_
  unfold bindC
  exact bindC_get (i:=i) (Qx.mp nd).2 (by simpa using h1) (by simpa using h2) hk
def yM (N:List Kw) (vs:List V):St:=vs.map some++List.replicate (N.length - vs.length) none
def gw (CX:CXT) (P:Ki) (w:Kk) (K:KC) (mg:Kw->Option Ka) (base:Kl) (N:List Kw) (qual:Kw) (scope:Scope) (f:Kc) (cd:Ka) (A:Kj) (outer:List Env) (s:Kb) (H:Hp) (E:XK):Cx where
 prog:=P
 w:=w
 K:=K
 mg:=mg
 base:=base
 A:=A.deeper (envOfC qual scope s.heap.objs.size f cd)
 N:=N
 s₀:=s
 P6:=H
 env:=envOfC qual scope s.heap.objs.size f cd
 outer:=outer
 stack:=envOfC qual scope s.heap.objs.size f cd::outer
 ex:=[]
 calm:=true
 fn:=fun _=>true
 pn:=[]
 xe:=fun e s'=>Ko (Ky P w) (A.deeper (envOfC qual scope s.heap.objs.size f cd)) (leaving (envOfC qual scope s.heap.objs.size f cd) e) (fun _ s''=>CX outer H s E e s'') (fun e' s''=>CX outer H s E e' s'') s'
theorem cell_has {sc:Scope} {n:Nat} {x:Kw} (h:sc.names.lookup x=some .cell):∃ c,(cellsFrom n sc.names []).lookup x=some c:=by
 have q:=PySem.W.cellsFrom_some sc.names n [] (.inl h)
 exact Pc.mp q
theorem inv_start {CX:CXT} {P:Ki} {w:Kk} {K:KC} {mg:Kw->Option Ka} {base:Kl} {N ps:List Kw} {qual:Kw} {scope:Scope} {f:Kc} {cd:Ka} {A:Kj} {outer:List Env} {s s1:Kb} {H:Hp} {E:XK} {us:List Ka} {vs:List V}
  (S:FnScope N ps scope) (hd:A.handled=none) (e0:Env0 P w K mg base A outer s H) (hl:vs.length=ps.length) (r:zY vs us)
  (x:InCallC s s.heap.objs.size (bindL (envOfC qual scope s.heap.objs.size f cd).kindOf (ps.zip us) fun _=>none) (cellsFrom (s.heap.objs.size+1) scope.names []) (bindC (envOfC qual scope s.heap.objs.size f cd).kindOf (ps.zip us) fun _=>none) s1) :
  Inv (gw CX P w K mg base N qual scope f cd A outer s H E) [] (yM N vs) H s1:=by
 have hpl:ps.length<=N.length:=by have:=congrArg List.length S.pre;rw [Pp] at this;omega
 obtain ⟨h1,tk,rfl,hk⟩:=x.done
 have noA:∀ b:Kc,b∉(gw CX P w K mg base N qual scope f cd A outer s H E).ex:=fun b z=>absurd (show b∈([]:List Kc) from z) (by simp)
 refine ⟨⟨e0.mod,S.kind,rfl,rfl,Qh _,fun y z c h1 h2=>?_,fun y hy=>?_,fun y c _ h=>?_,fun _=>hd,Around.frames_deeper e0.frames,.inr ⟨rfl,rfl⟩,fun b z=>absurd z (noA b),e0.bs,e0.bsz,fun b _ _=>noA b,fun b z=>absurd z (noA b),e0.funs,e0.frf,⟨_,_,rfl,S.gen,S.co,rfl,rfl⟩,e0.tree⟩,
  rfl,e0.bare,Un.kept hk,⟨_,x.toInCall.ns,fun i y v h1 h2 h3=>?_⟩,fun y c h=>⟨_,x.cell y c h⟩,e0.hok.fresh (Qh _),fun y c h=>?_,fun p hp=>absurd (show p∈([]:List (Kc×KA)) from hp) (by simp),e0.hok.kept hk,?_⟩
 ·exact name_of_addr x.apart (PySem.mem_of_lookup h1) (PySem.mem_of_lookup h2)
 ·have hy:scope.names.lookup y=some .cell\/scope.names.lookup y=some .free:=hy
  rcases hy with hy | hy
  ·exact cell_has hy
  ·exact absurd rfl (S.nofree _ (PySem.mem_of_lookup hy))
 ·exact Q2 (x.above y c (PySem.mem_of_lookup h))
 ·have hi:i<vs.length:=by
   unfold yM at h2
   by_cases hi:i<vs.length
   ·exact hi
   ·rw [QW (by simpa using hi)] at h2
    rw [Pv] at h2
    split at h2 <;> cases h2
  have ha:vs[i]?=some v:=by
   unfold yM at h2
   rw [QO (by simpa using hi),QE] at h2
   cases e:vs[i]? with
   | none=>rw [e] at h2;cases h2
   | some a=>rw [e] at h2;cases h2;rfl
  obtain ⟨u,hu,rv⟩:=r.get ha
  have hp:ps[i]?=some y:=by
   rw [<- S.pre,List.getElem?_take_of_lt (by omega)];exact h1
  have ndP:ps.Nodup:=by rw [<- S.pre];exact S.nd.sublist (List.take_sublist _ _)
  refine ⟨u,rv,?_⟩
  rcases S.par y (QS hp) with k | k
  ·exact .inl ⟨k,bindL_get ndP hp hu k⟩
  ·obtain ⟨c,e⟩:=cell_has (n:=s.heap.objs.size+1) k
   refine .inr ⟨.inl k,c,e,?_⟩
   have q:=x.cell y c e
   rw [bindC_get ndP hp hu (by show scope.names.lookup y≠_;rw [k];decide)] at q
   exact q
 ·exact e0.hok.fresh (Q2 (x.above y c (PySem.mem_of_lookup h)))
 ·unfold yM
  show _=N.length
  rw [Qd,Ql,List.length_replicate]
  omega
theorem fn_of {CX:CXT} {P:Ki} {w:Kk} {K:KC} {mg:Kw->Option Ka} {base:Kl} {k:Nat} {f:Kc} {name qual:Kw} {params:Arguments} {body:List Kx} {scope:Scope} {dV kV doc pm cdv ct oc:Ka} {an od:Option Kc}
  {osl:Array (Option Ka)} {N ps:List Kw} {sp:Sp} (lk:K.lookup f=some ⟨oc,od,.func (fnOf name qual params body scope dV kV doc pm an cdv ct),osl⟩) (hcd:codeIn K cdv qual=true) (S:FnScope N ps scope)
  (len:∀ vs H Q E,sp vs H Q E->vs.length=ps.length)
  (hbody:∀ (A:Kj) (outer:List Env) (s:Kb) (H:Hp) (vs:List V) (Q:VK) (E:XK),Room k (A.deeper (envOfC qual scope s.heap.objs.size f cdv))->sp vs H Q E ->
   ∃ t,PSs (gw CX P w K mg base N qual scope f cdv A outer s H E) body t/\t { nx:=fun _ H'=>Q .non H',rt:=Q } (yM N vs) H) :
  FnOk P w K mg base CX (k+1) f (fnOf name qual params body scope dV kV doc pm an cdv ct) ps sp:=by
 refine ⟨len,fun A outer s H args us vs Q E hr e0 hb r hsp=>?_⟩
 have hl:=len _ _ _ _ hsp
 have KX:K.In s.heap:=e0.mod.kin.keeps fun b o e=>(e0.bs b o e).1
 have lim:s.heap.NoLimit:=e0.mod.nolimit.keeps fun b o e=>(e0.bs b o e).1
 have hkind:∀ y∈ps.zip us,scope.names.lookup y.1=some .local\/(scope.names.lookup y.1=some .cell/\((cellsFrom (s.heap.objs.size+1) scope.names []).lookup y.1).isSome=true):=fun ⟨n,v⟩ hy=>by
  rcases S.par n (List.of_mem_zip hy).1 with q | q
  ·exact .inl q
  ·exact .inr ⟨q,PySem.W.cellsFrom_some _ _ _ (.inl q)⟩
 refine codeAny_call_function hr.depth (KX _ _ lk) rfl S.co S.gen rfl (PySem.W.codeRec_of KX hcd) (hb _ _ _ _ ?_)
 refine wpAny_newFunctionEnv_cells S.kind hkind fun env he s1 x=>?_
 subst he
 refine ⟨lim.keeps x.toInCall.keep,codeAny_func ?_⟩
 obtain ⟨t,ht,hq⟩:=hbody A outer s H vs Q E (hr.deeper _) hsp
 have I:Inv (gw CX P w K mg base N qual scope f cdv A outer s H E) [] (yM N vs) H s1:=inv_start S hr.hd e0 hl r x
 refine Pa (ht [] s1 (yM N vs) H _ I hq) (fun fl s' hs=>?_) fun e s' hs=>hs
 have fin:∀ {σ':St} {H':Hp} {v:V} {u:Ka},Inv (gw CX P w K mg base N qual scope f cdv A outer s H E) [] σ' H' s'->Zu v u->Q v H'->CE outer P w H s Q u s' :=
  fun {σ' H' v u} J rv q=>⟨v,H',J.os,J.bare,J.base,J.hok,rv,q⟩
 cases fl with
 | ret u =>
  obtain ⟨v,σ',H',J,rv,q⟩:=hs
  exact fin J rv q
 | next =>
  obtain ⟨σ',H',J,q⟩:=hs
  exact fin (v:=V.non) (u:=Value.none) J rfl q
 | brk =>
  obtain ⟨_,_,_,q⟩:=hs
  exact False.elim q
 | cont =>
  obtain ⟨_,_,_,q⟩:=hs
  exact False.elim q
end L2
namespace L2
open PySem PySem.Spec PyProof.Rows
section
variable {X:Cx} {x:Kw} {p pos:KB} {e:Kv} {es:List Kv} {t:TA} {id T:String} {r:List V->Hp->VK->Prop}
def tCB (r:List V->Hp->VK->Prop) (t:TA):TE:=fun σ H Q=>t σ H fun vs H1=>r vs H1 Q
theorem jF (hc:J9 X (.builtin id) r) (hg:Gl X x) (hm:X.mg x=none) (hv:bootBuiltins x=some (.builtin id)) (ha:PA X (e::es) t) (hn:x≠"__name__":=by decide) (hdb:(x == ("__debug__":Kw))=false:=by decide)
  (he:Ke (e::es) X.env=(false,Kz e X.env)::Ke es X.env:=by rfl) (hpl:(Kq pos (Ke es X.env)).any (·.1)=false:=by rfl):PE X (.Call (.Name x p) (e::es) [] pos) (tCB r t):=by
 intro KJ s σ H Q I h
 refine Pg (jL I hg hm hv ?_ hn hdb)
 exact PyProof.Rows.callWith_builtin1 (thn (ha pos KJ s σ H _ I h) fun us s1 ⟨vs,H1,I1,r1,q1⟩=>hc KJ s1 σ H1 vs us Q I1 r1 q1) he hpl
theorem ww (hc:J9 X (.type T) r) (hg:Gl X x) (hm:X.mg x=none) (hv:bootBuiltins x=some (.type T)) (ha:PA X (e::es) t) (hn:x≠"__name__":=by decide) (hdb:(x == ("__debug__":Kw))=false:=by decide)
  (he:Ke (e::es) X.env=(false,Kz e X.env)::Ke es X.env:=by rfl) (hpl:(Kq pos (Ke es X.env)).any (·.1)=false:=by rfl):PE X (.Call (.Name x p) (e::es) [] pos) (tCB r t):=by
 intro KJ s σ H Q I h
 refine Pg (jL I hg hm hv ?_ hn hdb)
 exact KH (thn (ha pos KJ s σ H _ I h) fun us s1 ⟨vs,H1,I1,r1,q1⟩=>hc KJ s1 σ H1 vs us Q I1 r1 q1) he hpl
end
end L2
namespace HT
open PySem PyProof.Rows
section
open PySem.SeqAt
open PySem.AutoSeq1 (wpAny_loadPart')
open PySem.MeetsSeq PySem.MeetsSeq2 PySem.MeetsSeq3
end
section
variable {prog:Ki} {w:Kk} {A:Kj} {E:Ka->Kb->Prop} {s:Kb}
theorem cat_tup {t b:Kc} {vs ws:List Ka} {Q:Ka->Kb->Prop} (ht:IsTup s.heap t vs.toArray) (hb:IsTup s.heap b ws.toArray) (hv:vs≠[])
  (h1:ws=[]->Q (.ref t) s) (h2:ws≠[]->Q (.ref s.heap.objs.size) { s with heap:=s.heap.push { cls:=.type "tuple",data:=.seq (vs++ws).toArray } })
  (hsz:vs.length+ws.length<=Kg):Ko (Ky prog w) A (binaryOp .Add (.ref t) (.ref b)) Q E s:=by
 obtain ⟨⟨cls,dd,data,sl⟩,ho,hc,n,hd⟩:=id ht
 obtain ⟨⟨cls2,dd2,data2,sl2⟩,ho2,hc2,n2,hd2⟩:=id hb
 simp only at hc hd hc2 hd2
 subst hc hd hc2 hd2
 have e:vs.toArray++ws.toArray=(vs++ws).toArray:=by simp
 by_cases hw:ws=[]
 ·exact concat_meets ⟨_,ho,rfl⟩ ⟨_,ho2,rfl⟩ noFill_tuple_add seq_tuple_add PySem.F.slot_tuple_add PySem.F.entry_tuple_add (PySem.F.args_tuple_add_2 _ _)
   (tuple_addW1 t b vs.toArray ws.toArray n n2 dd dd2 sl sl2 (by simpa using hv) (by simp [hw])) ⟨ho,ho2,h1 hw⟩
 ·refine concat_meets ⟨_,ho,rfl⟩ ⟨_,ho2,rfl⟩ noFill_tuple_add seq_tuple_add PySem.F.slot_tuple_add PySem.F.entry_tuple_add (PySem.F.args_tuple_add_2 _ _)
   (tuple_addW2 t b vs.toArray ws.toArray n n2 dd dd2 sl sl2 (by simpa using hv) (by simpa using hw) (by rw [Qj,Qj];exact hsz)) ⟨ho,ho2,?_⟩
  rw [e]
  exact h2 hw
def sIx (n d:Nat):Option Int->Nat
 | none=>d
 | some v=>if v<0 then (v+(n:Int)).toNat else min v.toNat n
theorem sIx_none (n d:Nat):sIx n d none=d:=rfl
theorem sIx_nat (n d k:Nat):sIx n d (some (k:Int))=min k n:=by
 show (if (k:Int)<0 then ((k:Int)+(n:Int)).toNat else min (k:Int).toNat n)=min k n
 rw [KR (by omega),Q9]
theorem sIx_le (n d:Nat) (hd:d<=n) (o:Option Int):sIx n d o<=n:=by
 cases o with
 | none=>exact hd
 | some v =>
  show (if v<0 then (v+(n:Int)).toNat else min v.toNat n)<=n
  by_cases hv:v<0
  ·rw [KQ hv];omega
  ·rw [KR hv];exact Nat.min_le_right _ _
theorem clip_eq (v:Int) (n d:Nat):(if v<0 then max (v+(n:Int)) 0 else min v (n:Int))=((sIx n d (some v):Nat):Int):=by
 show (if v<0 then max (v+(n:Int)) 0 else min v (n:Int))=(((if v<0 then (v+(n:Int)).toNat else min v.toNat n):Nat):Int)
 by_cases hv:v<0
 ·simp only [KQ hv];omega
 ·simp only [KR hv];omega
theorem adjust_gen (lo hi:Option Int) (n:Nat):Builtin.Slice.sliceAdjust lo hi 1 (n:Int)=(((sIx n 0 lo:Nat):Int),((sIx n n hi:Nat):Int)):=by
 have h1:¬ ((1:Int)<0):=by omega
 unfold Builtin.Slice.sliceAdjust
 simp only [h1,if_false]
 refine Prod.ext ?_ ?_
 ·cases lo with
  | none=>rfl
  | some v=>exact clip_eq v n 0
 ·cases hi with
  | none=>rfl
  | some v=>exact clip_eq v n n
theorem places_gen (i j:Nat):Builtin.Slice.slicePlaces (i:Int) (j:Int) 1=j - i:=by
 unfold Builtin.Slice.slicePlaces
 have h1:(1:Int) > 0:=by omega
 simp only [h1,if_true,Int.ediv_one]
 split <;> omega
theorem WP {v:Ka} {o:Option Int} {Q:Option Int->Kb->Prop} (p:IsPart v o) (h:Q o s):Ko (Ky prog w) A (Builtin.Slice.slicePartIndex v) Q E s:=by
 cases p with
 | none=>exact slicePart_none h
 | int i t=>exact slicePart_int h
theorem wk {sl:Kc} {vl vu:Ka} {lo hi:Option Int} {n:Nat} {Q:Int×Int×Nat->Kb->Prop} (hs:s.heap.IsSliceOf sl vl vu .none) (pl:IsPart vl lo) (pu:IsPart vu hi)
  (h:Q (((sIx n 0 lo:Nat):Int),1,sIx n n hi - sIx n 0 lo) s):Ko (Ky prog w) A (Builtin.Slice.sliceApplied (.ref sl) (pure (n:Int))) Q E s:=by
 obtain ⟨os,hos,hcs,hds⟩:=id hs
 unfold Builtin.Slice.sliceApplied Builtin.Slice.sliceFields
 refine Qa (Qa (QD hos hds (x:=vl) rfl (Qa (QD hos hds (x:=vu) rfl (Qa (QD hos hds (x:=.none) rfl (Qf ?_)))))))
 refine Qa (slicePart_none ?_)
 show Ko _ _ (if ((1:Int) == 0)=true then _ else _) _ _ s
 rw [KR (by decide)]
 refine Qa (WP pl (Qa (WP pu (Qa (Qf ?_)))))
 show Ko _ _ (match Builtin.Slice.sliceAdjust lo hi 1 (n:Int) with | (lo,hi)=>pure (lo,(1:Int),Builtin.Slice.slicePlaces lo hi 1)) _ _ s
 rw [adjust_gen lo hi n]
 show Ko _ _ (pure (((sIx n 0 lo:Nat):Int),(1:Int),Builtin.Slice.slicePlaces ((sIx n 0 lo:Nat):Int) ((sIx n n hi:Nat):Int) 1)) _ _ s
 rw [places_gen]
 exact Qf h
theorem pick_gen (xs:Array Ka) (i k:Nat):((List.range k).filterMap fun (m:Nat)=>xs[((i:Int)+(m:Int)*1).toNat]?).toArray=((xs.toList.drop i).take k).toArray:=by
 have e:(fun (m:Nat)=>xs[((i:Int)+(m:Int)*1).toNat]?)=fun m=>xs[i+m]?:=by
  funext m
  have:((i:Int)+(m:Int)*1).toNat=i+m:=by omega
  rw [this]
 rw [e]
 have:=pick_run xs i k
 rw [List.filterMap_map] at this
 have e2:((fun x=>xs[x]?)∘fun x=>i+x)=fun m=>xs[i+m]?:=rfl
 rw [e2] at this
 rw [this]
theorem getItem_tuple_cut {t sl:Kc} {items:Array Ka} {vl vu:Ka} {lo hi:Option Int} {Q:Ka->Kb->Prop} (ht:IsTup s.heap t items) (hs:s.heap.IsSliceOf sl vl vu .none) (pl:IsPart vl lo) (pu:IsPart vu hi)
  (hw:¬ (sIx items.size 0 lo=0/\sIx items.size items.size hi=items.size))
  (h:Q (.ref s.heap.objs.size) { s with heap:=s.heap.push { cls:=.type "tuple",data:=.seq ((items.toList.drop (sIx items.size 0 lo)).take (sIx items.size items.size hi - sIx items.size 0 lo)).toArray } })
  (hsz:items.size<=Kg):Ko (Ky prog w) A (getItem (.ref t) (.ref sl)) Q E s:=by
 have htake:sizeOk (.seq ((items.toList.drop (sIx items.size 0 lo)).take (sIx items.size items.size hi - sIx items.size 0 lo)).toArray):=by
  show ((items.toList.drop (sIx items.size 0 lo)).take (sIx items.size items.size hi - sIx items.size 0 lo)).toArray.size<=Kg
  rw [Qj,Pp,List.length_drop,Array.length_toList]
  omega
 have hj:sIx items.size items.size hi<=items.size:=sIx_le _ _ (Qh _) hi
 obtain ⟨os,hos,hcs,hds⟩:=id hs
 have hTs:s.TypeIs (.ref sl) "slice":=⟨os,hos,hcs⟩
 unfold getItem
 try with_reducible refine Pb ?_
 first | refine Qa (Qf ?_) | skip
 refine Qa (wpAny_sequenceKey ht.typeIs (by decide) ?_)
 refine Qa (QR (name:=Str.ofString "__getitem__") ht.typeIs PyProof.Rows.slot_tuple_getitem
  (QQ PyProof.Rows.slot_tuple_getitem ht.typeIs entry_tuple_getitem ?_ (args_tuple_getitem _ _)))
 show Ko _ _ (Builtin.Tuple.tupleItemsOf (.ref t) >>= _) _ _ s
 refine Qa (tupleItemsOf_ ht ?_)
 refine Qa (wpAny_typeOf hTs ?_)
 rw [KQ (by decide)]
 refine Qa (wk hs pl pu ?_)
 have hno:¬ ((((sIx items.size 0 lo:Nat):Int) == 0&&(1:Int) == 1&&(sIx items.size items.size hi - sIx items.size 0 lo) == items.size)=true):=by
  intro q
  rw [QI,QI] at q
  have q1:((sIx items.size 0 lo:Nat):Int)=0:=eq_of_beq q.1.1
  have q2:sIx items.size items.size hi - sIx items.size 0 lo=items.size:=eq_of_beq q.2
  exact hw ⟨by omega,by omega⟩
 show Ko _ _ (if (((sIx items.size 0 lo:Nat):Int) == 0&&(1:Int) == 1&&(sIx items.size items.size hi - sIx items.size 0 lo) == items.size)=true then _ else _) _ _ s
 rw [KR hno,pick_gen]
 first
  | exact Qa (m:=Builtin.Tuple.tupleExact _) (QU (Qf ⟨_,rfl,Qf h⟩) htake)
  | exact Qa (m:=Builtin.Tuple.tupleExact _) (QU (Qa (Qf (Qf ⟨_,rfl,Qf h⟩))) htake)
  | exact Qa (Qa (m:=Builtin.Tuple.tupleExact _) (QU (Qf (Qf ⟨_,rfl,Qf h⟩)) htake))
  | exact Qa (Qa (m:=Builtin.Tuple.tupleExact _) (QU (Qf ⟨_,rfl,Qf h⟩) htake))
end
end HT
namespace L2
open PySem PySem.Spec PyProof.Rows
abbrev TO:=St->Hp->(Option Int->Hp->Prop)->Prop
def PO (X:Cx) (e:Option Kv) (t:TO):Prop :=
 ∀ (KJ:List (Kc×KA)) (s:Kb) (σ:St) (H:Hp) (Q:Option Int->Hp->Prop),Inv X KJ σ H s->t σ H Q ->
  Ko (Ky X.prog X.w) X.A (evalPart e X.env) (fun u s'=>∃ o H',Inv X KJ σ H' s'/\IsPart u o/\Q o H') X.xe s
def tNoPart:TO:=fun _ H Q=>Q none H
def tPart (t:TE):TO:=fun σ H Q=>t σ H fun x H1=>∃ i,x=.int i/\Q (some i) H1
section
variable {X:Cx} {e:Kv} {te:TE} {lo hi:Option Kv} {tl th:TO} {pos p2:KB}
theorem po_none:PO X none tNoPart:=by
 intro KJ s σ H Q I h
 rw [evalPart_none]
 exact Qf ⟨none,H,I,.none,h⟩
theorem po_some (h:PE X e te):PO X (some e) (tPart te):=by
 intro KJ s σ H Q I hw
 rw [evalPart_some]
 refine thn (h KJ s σ H _ I hw) fun u s1 ⟨x,H1,I1,r1,q1⟩=>?_
 obtain ⟨i,rfl,q⟩:=q1
 obtain ⟨t,rfl⟩:=r1
 exact ⟨some i,H1,I1,.int i t,q⟩
def SlR (X:Cx) (r:V->Option Int->Option Int->Hp->VK->Prop):Prop :=
 ∀ (KJ:List (Kc×KA)) (s:Kb) (σ:St) (H:Hp) (x:V) (v vl vu:Ka) (lo hi:Option Int) (sl:Kc) (Q:VK),Inv X KJ σ H s->Zu x v->s.heap.IsSliceOf sl vl vu .none->IsPart vl lo->IsPart vu hi->r x lo hi H Q ->
  ∃ T id,typeLookup (.type T) "__getitem__"=pure (some (.builtin id))/\s.TypeIs v T/\Ko (Ky X.prog X.w) X.A (getItem v (.ref sl)) (EP X KJ σ Q) X.xe s
def tSl (r:V->Option Int->Option Int->Hp->VK->Prop) (te:TE) (tl th:TO):TE:=fun σ H Q=>te σ H fun x H1=>tl σ H1 fun l H2=>th σ H2 fun u H3=>r x l u H3 Q
theorem pe_slice {r:V->Option Int->Option Int->Hp->VK->Prop} (hr:SlR X r) (he:PE X e te) (hl:PO X lo tl) (hu:PO X hi th):PE X (.Subscript e (.Slice lo hi none p2) pos) (tSl r te tl th):=by
 intro KJ s σ H Q I h
 refine Subscript_ (thn (he KJ s σ H _ I h) fun v s1 ⟨x,H1,I1,r1,q1⟩=>?_)
 refine wpAny_Slice (thn (hl KJ s1 σ H1 _ I1 q1) fun vl s2 ⟨l,H2,I2,pl,q2⟩=>thn (hu KJ s2 σ H2 _ I2 q2) fun vu s3 ⟨u,H3,I3,pu,q3⟩=>?_)
 rw [evalPart_none]
 refine Qf ?_
 have I4:Inv X KJ σ H3 { s3 with heap:=s3.heap.push { cls:=.type "slice",data:=.fields #[vl,vu,.none] } }:=I3.kept (t':=s3.toks) fun b ob q=>Qb _ q
 obtain ⟨T,id,hT,ht,hg⟩:=hr KJ { s3 with heap:=s3.heap.push { cls:=.type "slice",data:=.fields #[vl,vu,.none] } } σ H3 x v vl vu l u s3.heap.objs.size Q I4 r1 (Heap.IsSliceOf.new ..) pl pu q3
 show Ko (Ky X.prog X.w) X.A (subscriptTail e (.Slice lo hi none p2) v (.ref s3.heap.objs.size)) (EP X KJ σ Q) X.xe { s3 with heap:=s3.heap.push { cls:=.type "slice",data:=.fields #[vl,vu,.none] } }
 exact tail_any (ops:=[.ref s3.heap.objs.size,v]) ht hT hg (by with_unfolding_all rfl)
def gx (xs:List V) (lo hi:Option Int):List V:=(xs.drop (HT.sIx xs.length 0 lo)).take (HT.sIx xs.length xs.length hi - HT.sIx xs.length 0 lo)
theorem Wa (xs:List V) (lo hi:Option Int):(gx xs lo hi).length<=xs.length:=by
 unfold gx
 rw [Pp,List.length_drop]
 omega
def rSlT (K:KC):V->Option Int->Option Int->Hp->VK->Prop:=fun x lo hi H Q=>∃ a xs,x=.ref a/\SqT K H a xs /\
 ¬ (HT.sIx xs.length 0 lo=0/\HT.sIx xs.length xs.length hi=xs.length)/\∀ p,H p=none->Q (.ref p) (upd H p (.tup (gx xs lo hi)))
theorem sl_tup:SlR X (rSlT X.K):=by
 intro KJ s σ H x v vl vu lo hi sl Q I rx hs pl pu h
 obtain ⟨a,xs,rfl,hx,hw,q⟩:=h
 cases rx
 obtain ⟨KP,r,ht,hz⟩:=I.tuple hx
 have hlen:KP.toArray.size=xs.length:=by rw [Qj];exact r.length.symm
 refine ⟨"tuple",_,PyProof.Rows.slot_tuple_getitem.lookup,ht.typeIs,?_⟩
 refine HT.getItem_tuple_cut ht hs pl pu (by rw [hlen];exact hw) ?_ (by rw [hlen];exact hz)
 rw [hlen]
 refine ⟨.ref s.heap.objs.size,_,I.laid (t':=s.toks) (o:=.tup (gx xs lo hi)) (fun b ob q=>Qb _ q) (Qh _) ?_,rfl,q _ (I.hok.fresh (Qh _))⟩
 exact ⟨Qv (Wa xs lo hi) hz,_,(r.drop (HT.sIx xs.length 0 lo)).take (HT.sIx xs.length xs.length hi - HT.sIx xs.length 0 lo),IsTup.new _ _⟩
def rCatT (K:KC):R2:=fun x y H Q=>∃ a b xs ys,x=.ref a/\y=.ref b/\SqT K H a xs/\SqT K H b ys/\xs≠[]/\xs.length+ys.length<=Kg /\
 (ys=[]->Q (.ref a) H)/\(ys≠[]->∀ p,H p=none->Q (.ref p) (upd H p (.tup (xs++ys))))
theorem zY.nil_iff {xs:List V} {us:List Ka} (r:zY xs us):us=[]↔xs=[]:=by
 cases r with
 | nil=>simp
 | cons _ _=>simp
theorem op_catT:OpR X (binaryOp .Add) (rCatT X.K):=by
 intro KJ s σ H x y v u Q I rx ry h
 obtain ⟨a,b,xs,ys,rfl,rfl,ha,hb,hx,hz,q1,q2⟩:=h
 cases rx
 cases ry
 obtain ⟨KP,r1,p1,_⟩:=I.tuple ha
 obtain ⟨its2,r2,p2,_⟩:=I.tuple hb
 refine HT.cat_tup p1 p2 (fun z=>hx (r1.nil_iff.mp z)) (fun z=>⟨.ref a,H,I,rfl,q1 (r2.nil_iff.mp z)⟩) (fun z=>?_) (by rw [<- r1.length,<- r2.length];exact hz)
 refine ⟨.ref s.heap.objs.size,_,I.laid (t':=s.toks) (o:=.tup (xs++ys)) (fun b ob q=>Qb _ q) (Qh _) ?_,rfl,q2 (fun w=>z (r2.nil_iff.mpr w)) _ (I.hok.fresh (Qh _))⟩
 exact ⟨by rw [Qd];exact hz,_,r1.append r2,IsTup.new _ _⟩
end
end L2
namespace L2
open PySem PySem.Spec PyProof.Rows
def ixN (n:Nat) (i:Int):Option Nat:=if 0<=i then (if i<n then some i.toNat else none) else if -(n:Int)<=i then some (i+n).toNat else none
def atI {α:Type} (xs:List α) (i:Int):Option α:=(ixN xs.length i).bind fun j=>xs[j]?
theorem ixN_seq {n:Nat} {i:Int} {j:Nat} (h:ixN n i=some j):seqIndex? i n=some j/\j<n/\-(n:Int)<=i/\i<n:=by
 unfold ixN at h
 by_cases h0:0<=i
 ·rw [KQ h0] at h
  by_cases h1:i<n
  ·rw [KQ h1] at h
   have e:i.toNat=j:=Option.some.inj h
   exact ⟨by rw [seqIndex_of h0 h1,e],by omega,by omega,h1⟩
  ·rw [KR h1] at h;cases h
 ·rw [KR h0] at h
  by_cases h1:-(n:Int)<=i
  ·rw [KQ h1] at h
   have e:(i+n).toNat=j:=Option.some.inj h
   exact ⟨by rw [seqIndex_neg (by omega) h1,e],by omega,h1,by omega⟩
  ·rw [KR h1] at h;cases h
theorem atI_get {α:Type} {xs:List α} {i:Int} {v:α} (h:atI xs i=some v):∃ j,seqIndex? i xs.length=some j/\xs[j]?=some v/\j<xs.length/\-(xs.length:Int)<=i/\i<xs.length:=by
 unfold atI at h
 cases e:ixN xs.length i with
 | none=>rw [e] at h;cases h
 | some j =>
  rw [e] at h
  obtain ⟨h1,h2,h3,h4⟩:=ixN_seq e
  exact ⟨j,h1,h,h2,h3,h4⟩
theorem zB {α:Type} {xs:List α} {j:Nat} {v:α} (h:xs[j]?=some v):atI xs (j:Int)=some v:=by
 have hj:j<xs.length:=(Qm.mp h).1
 have e:ixN xs.length (j:Int)=some j:=by
  unfold ixN
  rw [KQ (by omega),KQ (by omega)];simp
 unfold atI;rw [e];exact h
def Wy (b:Kv):Prop:=∀ o i,subscripted b false o i=operate [o,i] (getItem o i)
def IxR (X:Cx) (r:R2):Prop :=
 ∀ (value slice:Kv) (KJ:List (Kc×KA)) (s:Kb) (σ:St) (H:Hp) (x y:V) (v u:Ka) (Q:VK),Inv X KJ σ H s->Zu x v->Zu y u->r x y H Q ->
  subscripted slice false v u=operate [v,u] (getItem v u)->Ko (Ky X.prog X.w) X.A (subscriptTail value slice v u) (EP X KJ σ Q) X.xe s
def MtR (X:Cx) (id:String) (r:V->List V->Hp->VK->Prop):Prop :=
 ∀ (KJ:List (Kc×KA)) (s:Kb) (σ:St) (H:Hp) (x:V) (xs:List V) (v:Ka) (us:List Ka) (Q:VK),Inv X KJ σ H s->Zu x v->zY xs us->r x xs H Q ->
  Ko (Ky X.prog X.w) X.A (call (.builtin id) (v::us)) (EP X KJ σ Q) X.xe s
section
variable {X:Cx} {a b:Kv} {ta tb:TE} {pos:KB}
theorem wW {r:R2} (hr:IxR X r) (ha:PE X a ta) (hb:PE X b tb) (hs:Wy b):PE X (.Subscript a b pos) (tOp r ta tb):=by
 intro KJ s σ H Q I h
 exact Subscript_ (binT ha hb I h fun v u s2 x y H2 I2 rx ry q=>hr a b KJ s2 σ H2 x y v u Q I2 rx ry q (hs _ _))
def rIxL (K:KC):R2:=fun x y H Q=>∃ p xs i v,x=.ref p/\y=.int i/\SqL K H p xs/\atI xs i=some v/\Q v H
def rIxT (K:KC):R2:=fun x y H Q=>∃ p xs i v,x=.ref p/\y=.int i/\SqT K H p xs/\atI xs i=some v/\Q v H
theorem j3:IxR X (rIxL X.K):=by
 intro value slice KJ s σ H x y v u Q I rx ry h hs
 obtain ⟨p,xs,i,z,rfl,rfl,hq,he,q⟩:=h
 cases rx
 obtain ⟨t,rfl⟩:=ry
 obtain ⟨KP,r,pl,hz⟩:=I.list hq
 obtain ⟨j,h1,h2,h3,h4,h5⟩:=atI_get he
 obtain ⟨w,ew,rw'⟩:=r.get h2
 have hl:=r.length
 have hn:=line63
 have fin:EP X KJ σ Q w s:=⟨z,H,I,rw',q⟩
 by_cases h0:0<=i
 ·have hj:i.toNat=j:=by
   rw [seqIndex_of h0 h5] at h1
   exact Option.some.inj h1
  exact item_listR pl.isList h0 (by omega) (by rw [hj];simpa using ew) fin hs
 ·have hj:(i+(KP.toArray.size:Int)).toNat=j:=by
   rw [seqIndex_neg (by omega) h4] at h1
   rw [Qj,<- hl]
   exact Option.some.inj h1
  exact subscriptTail_builtinR (x:=w) pl.isList.typeIs slot_list_getitem.lookup
   (wpAny_getItem_list_neg (Q:=fun r s'=>r=w/\EP X KJ σ Q r s') pl.isList (by omega) (by rw [Qj] <;> omega) (by omega) (by rw [hj];simpa using ew) ⟨rfl,fin⟩) hs
theorem ix_tup:IxR X (rIxT X.K):=by
 intro value slice KJ s σ H x y v u Q I rx ry h hs
 obtain ⟨p,xs,i,z,rfl,rfl,hq,he,q⟩:=h
 cases rx
 obtain ⟨t,rfl⟩:=ry
 obtain ⟨KP,r,pl,hz⟩:=I.tuple hq
 obtain ⟨j,h1,h2,h3,h4,h5⟩:=atI_get he
 obtain ⟨w,ew,rw'⟩:=r.get h2
 have hl:=r.length
 have hn:=line63
 have fin:EP X KJ σ Q w s:=⟨z,H,I,rw',q⟩
 exact subscriptTail_builtinR (x:=w) pl.typeIs slot_tuple_getitem.lookup
  (getItem_tuple (j:=j) (Q:=fun r s'=>r=w/\EP X KJ σ Q r s') pl (by omega) (by omega) (by rw [Qj,<- hl];exact h1) (by simpa using ew) ⟨rfl,fin⟩) hs
theorem mapSeq_set (KP:List Ka) (n j:Nat) (u:Ka):Obj.mapSeq (·.setIfInBounds j u) { cls:=.type "list",data:=.seq KP.toArray n }={ cls:=.type "list",data:=.seq (KP.set j u).toArray n }:=by
 simp [Obj.mapSeq]
theorem Inv.lst {KJ:List (Kc×KA)} {σ:St} {H:Hp} {s:Kb} {p:Kc} {xs:List V} (I:Inv X KJ σ H s) (h:H p=some (.lst xs)) :
  ∃ (KP:List Ka) (n:Nat),zY xs KP/\s.heap.get? p=some { cls:=.type "list",data:=.seq KP.toArray n }/\xs.length<=Kg:=by
 obtain ⟨z,KP,n,r,e⟩:=I.hok p _ h
 exact ⟨KP,n,r,e,z⟩
theorem Inv.lstUpd {KJ:List (Kc×KA)} {σ:St} {H:Hp} {s:Kb} {p:Kc} {xs ys:List V} {KP its':List Ka} {n n':Nat} {f:KA->KA} (I:Inv X KJ σ H s) (h:H p=some (.lst xs))
  (ho:s.heap.get? p=some { cls:=.type "list",data:=.seq KP.toArray n }) (hf:f { cls:=.type "list",data:=.seq KP.toArray n }={ cls:=.type "list",data:=.seq its'.toArray n' }) (r:zY ys its') (hz:ys.length<=Kg) (t:Nat) :
  Inv X KJ σ (upd H p (.lst ys)) { s with heap:=s.heap.update p f,toks:=t }:=by
 have e:(s.heap.update p f).get? p=some { cls:=.type "list",data:=.seq its'.toArray n' }:=by
  rw [QZ f ho (by rw [hf] <;> rfl),hf]
 refine I.write (x:=p) (e:=p) (by rw [h];trivial) (.inl rfl) (fun b u hb q=>(Pi _ _ (Ne.symm hb)).trans q) ⟨_,e⟩ ?_
 exact ⟨hz,its',n',r,e⟩
def rSetL:V->V->V->Hp->(Hp->Prop)->Prop:=fun o i v H Q=>∃ p xs k j,o=.ref p/\i=.int k/\H p=some (.lst xs)/\ixN xs.length k=some j/\Q (upd H p (.lst (xs.set j v)))
theorem set_list:PSet X rSetL:=by
 intro KJ s σ H o i v ov iv u Q I ro ri rv h
 obtain ⟨p,xs,k,j,rfl,rfl,hp,hj,q⟩:=h
 cases ro
 obtain ⟨t,rfl⟩:=ri
 obtain ⟨KP,n,r,ho,hz⟩:=I.lst hp
 obtain ⟨h1,h2,h3,h4⟩:=ixN_seq hj
 have hl:=r.length
 have hn:=line63
 have I':Inv X KJ σ (upd H p (.lst (xs.set j v))) { s with heap:=s.heap.update p (Obj.mapSeq (·.setIfInBounds j u)) } :=
  I.lstUpd hp ho (mapSeq_set KP n j u) (r.set rv j) (by rw [Qo];exact hz) s.toks
 by_cases h0:0<=k
 ·have hk:k.toNat=j:=by
   rw [seqIndex_of h0 h4] at h1
   exact Option.some.inj h1
  exact PySem.W.ki_setAt ho h0 (by omega) (by rw [Qj,<- hl];exact h4) (by rw [hk];exact ⟨_,I',q⟩)
 ·have hk:(k+(KP.toArray.size:Int)).toNat=j:=by
   rw [seqIndex_neg (by omega) h3] at h1
   rw [Qj,<- hl]
   exact Option.some.inj h1
  exact PySem.W.ki_setBack ho (by omega) (by rw [Qj,<- hl];exact h3) (by omega) (by rw [hk];exact ⟨_,I',q⟩)
theorem slice_bounds (lo hi:Option Int) (n:Nat):(sliceBounds lo hi none n).1=((HT.sIx n 0 lo:Nat):Int)/\(sliceBounds lo hi none n).2.1=((HT.sIx n n hi:Nat):Int)/\(sliceBounds lo hi none n).2.2=1:=by
 refine ⟨?_,?_,rfl⟩
 ·cases lo with
  | none=>simp [sliceBounds,HT.sIx]
  | some i =>
   simp only [sliceBounds,HT.sIx,Option.getD_none,show (1:Int) > 0 by decide,if_true]
   by_cases h:i<0
   ·simp only [h,if_true] <;> omega
   ·simp only [h,if_false] <;> omega
 ·cases hi with
  | none=>simp [sliceBounds,HT.sIx]
  | some i =>
   simp only [sliceBounds,HT.sIx,Option.getD_none,show (1:Int) > 0 by decide,if_true]
   by_cases h:i<0
   ·simp only [h,if_true] <;> omega
   ·simp only [h,if_false] <;> omega
theorem slicePick_cut (KP:List Ka) (lo hi:Option Int):slicePick KP.toArray lo hi none=((KP.drop (HT.sIx KP.length 0 lo)).take (HT.sIx KP.length KP.length hi - HT.sIx KP.length 0 lo)).toArray:=by
 obtain ⟨h1,h2,h3⟩:=slice_bounds lo hi KP.toArray.size
 unfold slicePick
 rw [h1,h2,h3]
 simp only [sliceRange_one,pick_run,Qj] <;> rfl
def rSlL (K:KC):V->Option Int->Option Int->Hp->VK->Prop:=fun x lo hi H Q=>∃ a xs,x=.ref a/\SqL K H a xs/\∀ p,H p=none->Q (.ref p) (upd H p (.lst (gx xs lo hi)))
theorem sl_list:SlR X (rSlL X.K):=by
 intro KJ s σ H x v vl vu lo hi sl Q I rx hs pl pu h
 obtain ⟨a,xs,rfl,hx,q⟩:=h
 cases rx
 obtain ⟨KP,r,ht,hz⟩:=I.list hx
 have hlen:=r.length
 refine ⟨"list",_,slot_list_getitem.lookup,ht.isList.typeIs,?_⟩
 refine wpAny_getItem_list_slice ht.isList hs pl pu .none (by simp) ?_ (by rw [Qj] <;> omega)
 rw [slicePick_cut,<- hlen]
 refine ⟨.ref s.heap.objs.size,_,I.laid (t':=s.toks) (o:=.lst (gx xs lo hi)) (fun b ob q=>Qb _ q) (Qh _) ?_,rfl,q _ (I.hok.fresh (Qh _))⟩
 exact ⟨Qv (Wa xs lo hi) hz,_,0,(r.drop (HT.sIx xs.length 0 lo)).take (HT.sIx xs.length xs.length hi - HT.sIx xs.length 0 lo),Qp _ rfl⟩
def J3:V->Bool
 | .non=>true
 | .bl _=>true
 | .int _=>true
 | .str _=>true
 | _=>false
def eqV:V->V->Bool
 | .non,.non=>true
 | .bl a,.bl b=>a == b
 | .bl a,.int b=>(if a then 1 else 0) == b
 | .int a,.bl b=>a == (if b then 1 else 0)
 | .int a,.int b=>a == b
 | .str a,.str b=>a == b
 | _,_=>false
theorem eqAt_V {A:Kj} {s:Kb} {y x:V} {u v:Ka} (ry:Zu y u) (rx:Zu x v) (fy:J3 y=true) (fx:J3 x=true):SeqAt.EqAt A s u v (eqV y x):=by
 cases y with
 | non =>
  cases ry
  cases x with
  | non=>cases rx;exact SeqAt.EqAt.same _
  | bl b=>cases rx;exact SeqAt.EqAt.none_bool b
  | int b=>obtain ⟨t,rfl⟩:=rx;exact SeqAt.EqAt.none_int b t
  | str b=>obtain ⟨t,rfl⟩:=rx;exact SeqAt.EqAt.none_str b t
  | _=>exact absurd (show false=true from fx) Qi
 | bl a =>
  cases ry
  cases x with
  | non=>cases rx;exact SeqAt.EqAt.bool_none a
  | bl b=>cases rx;exact SeqAt.EqAt.bool_bool a b
  | int b=>obtain ⟨t,rfl⟩:=rx;exact SeqAt.EqAt.bool_int a b t
  | str b=>obtain ⟨t,rfl⟩:=rx;exact SeqAt.EqAt.bool_str a b t
  | _=>exact absurd (show false=true from fx) Qi
 | int a =>
  obtain ⟨t',rfl⟩:=ry
  cases x with
  | non=>cases rx;exact SeqAt.EqAt.int_none a t'
  | bl b=>cases rx;exact SeqAt.EqAt.int_bool a t' b
  | int b=>obtain ⟨t,rfl⟩:=rx;exact SeqAt.EqAt.int_int a t' b t
  | str b=>obtain ⟨t,rfl⟩:=rx;exact SeqAt.EqAt.int_str a t' b t
  | _=>exact absurd (show false=true from fx) Qi
 | str a =>
  obtain ⟨t',rfl⟩:=ry
  cases x with
  | non=>cases rx;exact SeqAt.EqAt.str_none a t'
  | bl b=>cases rx;exact SeqAt.EqAt.str_bool a t' b
  | int b=>obtain ⟨t,rfl⟩:=rx;exact SeqAt.EqAt.str_int a t' b t
  | str b=>obtain ⟨t,rfl⟩:=rx;exact SeqAt.EqAt.str_str a t' b t
  | _=>exact absurd (show false=true from fx) Qi
 | _=>exact absurd (show false=true from fy) Qi
def eqU (x:V) (u:Ka):Bool:=match u with
 | .none=>eqV .non x
 | .bool b=>eqV (.bl b) x
 | .int i _=>eqV (.int i) x
 | .str z _=>eqV (.str z) x
 | _=>false
theorem eqU_of {x y:V} {u:Ka} (r:Zu y u) (f:J3 y=true):eqU x u=eqV y x:=by
 cases y with
 | non=>cases r;rfl
 | bl b=>cases r;rfl
 | int i=>obtain ⟨t,rfl⟩:=r;rfl
 | str z=>obtain ⟨t,rfl⟩:=r;rfl
 | _=>exact absurd (show false=true from f) Qi
theorem any_eqU {x:V}:∀ {xs:List V} {us:List Ka},zY xs us->xs.all J3=true->us.any (eqU x)=xs.any fun y=>eqV y x
 | _,_,.nil,_=>rfl
 | y::xs,u::us,.cons r t,f=>by
  rw [List.all_cons,QI] at f
  rw [Pm,Pm,eqU_of r f.1,any_eqU t f.2]
theorem W6 {A:Kj} {s:Kb} {x:V} {v:Ka} (rx:Zu x v) (fx:J3 x=true):∀ {xs:List V} {us:List Ka},zY xs us->xs.all J3=true->∀ u∈us,SeqAt.EqAt A s u v (eqU x u)
 | _,_,.nil,_=>fun u hu=>by cases hu
 | y::xs,u::us,.cons r t,f=>fun u' hu=>by
  rw [List.all_cons,QI] at f
  rcases Qc.mp hu with rfl | hu
  ·rw [eqU_of r f.1];exact eqAt_V r rx f.1 fx
  ·exact W6 rx fx t f.2 u' hu
def inV (x:V) (xs:List V):Bool:=xs.any fun y=>eqV y x
def rIn (K:KC) (neg:Bool):R2:=fun x y H Q=>∃ p xs,y=.ref p/\(SqL K H p xs\/SqT K H p xs)/\J3 x=true/\xs.all J3=true/\Q (.bl (if neg then !inV x xs else inV x xs)) H
theorem op_in_seq:OpR X (Km .In) (rIn X.K false):=by
 intro KJ s σ H x y v u Q I rx ry h
 obtain ⟨p,xs,rfl,hq,fx,fs,q⟩:=h
 cases ry
 rcases hq with hq | hq
 ·obtain ⟨KP,r,pl,hz⟩:=I.list hq
  refine SeqAt.in_listAt (eqU x) pl.isList (fun w hw=>W6 rx fx r fs w (by simpa using hw)) ⟨.bl _,H,I,rfl,?_⟩
  rw [show KP.toArray.any (eqU x)=KP.any (eqU x) by simp,any_eqU r fs]
  exact q
 ·obtain ⟨KP,r,pl,hz⟩:=I.tuple hq
  refine SeqAt.in_tupleAt (eqU x) pl (fun w hw=>W6 rx fx r fs w (by simpa using hw)) ⟨.bl _,H,I,rfl,?_⟩
  rw [show KP.toArray.any (eqU x)=KP.any (eqU x) by simp,any_eqU r fs]
  exact q
theorem jl:J9 X (.builtin "len") (fun xs H Q=>∃ p ys,xs=[.ref p]/\(SqL X.K H p ys\/SqT X.K H p ys)/\Q (.int ys.length) H):=by
 intro KJ s σ H xs us Q I r h
 obtain ⟨p,ys,rfl,hq,q⟩:=h
 obtain ⟨u,rfl,rx⟩:=vals1 r
 cases rx
 have hn:=line63
 rcases hq with hq | hq
 ·obtain ⟨KP,r',pl,hz⟩:=I.list hq
  have hlen:=r'.length
  exact Calls.call_len_list pl.isList (by simp only [Qj] <;> omega) ⟨.int ys.length,H,I.tok _,⟨s.toks+1,by rw [Qj,hlen]⟩,q⟩
 ·obtain ⟨KP,r',pl,hz⟩:=I.tuple hq
  have hlen:=r'.length
  exact len_tuple pl (by simp only [Qj] <;> omega) ⟨.int ys.length,H,I.tok _,⟨s.toks+1,by rw [Qj,hlen]⟩,q⟩
theorem call_list_of:J9 X (.type "list") (fun xs H Q=>∃ p ys,xs=[.ref p]/\(SqL X.K H p ys\/SqT X.K H p ys)/\∀ l,H l=none->Q (.ref l) (upd H l (.lst ys))):=by
 intro KJ s σ H xs us Q I r h
 obtain ⟨p,ys,rfl,hq,q⟩:=h
 obtain ⟨u,rfl,rx⟩:=vals1 r
 cases rx
 have fin:∀ (KP:List Ka),zY ys KP->ys.length<=Kg->∀ (h':Kl) (c':Nat),(∀ b o',s.heap.get? b=some o'->h'.get? b=some o') ->
   h'.get? s.heap.objs.size=some { cls:=.type "list",dict:=none,data:=.seq KP.toArray c',slots:=#[] }->EP X KJ σ Q (.ref s.heap.objs.size) { s with heap:=h' }:=fun KP r' hz h' c' kp e =>
  ⟨.ref s.heap.objs.size,_,I.laid (t':=s.toks) kp (Qh _) (show yH X.prog X.w _ h' _ (.lst ys) from ⟨hz,KP,c',r',e⟩),rfl,q _ (I.hok.fresh (Qh _))⟩
 rcases hq with hq | hq
 ·obtain ⟨KP,r',pl,hz⟩:=I.list hq
  have hlen:=r'.length
  obtain ⟨o,ho,hc,n,hd⟩:=pl.isList
  exact call_list_seq p (.inl rfl) ho hc hd (fun h' c' kp e=>fin KP r' hz h' c' kp e) (by simp only [Qj] <;> omega)
 ·obtain ⟨KP,r',pl,hz⟩:=I.tuple hq
  have hlen:=r'.length
  obtain ⟨o,ho,hc,n,hd⟩:=pl
  exact call_list_seq p (.inr rfl) ho hc hd (fun h' c' kp e=>fin KP r' hz h' c' kp e) (by simp only [Qj] <;> omega)
theorem call_tuple_of:J9 X (.type "tuple") (fun xs H Q=>∃ p ys,xs=[.ref p]/\((SqL X.K H p ys/\∀ l,H l=none->Q (.ref l) (upd H l (.tup ys)))\/(SqT X.K H p ys/\Q (.ref p) H))):=by
 intro KJ s σ H xs us Q I r h
 obtain ⟨p,ys,rfl,h⟩:=h
 obtain ⟨u,rfl,rx⟩:=vals1 r
 cases rx
 rcases h with ⟨hq,q⟩ | ⟨hq,q⟩
 ·obtain ⟨KP,r',pl,hz⟩:=I.list hq
  have hlen:=r'.length
  refine call_tuple_list pl.isList (fun h' kp=>?_) (by simp only [Qj] <;> omega)
  have I1:Inv X KJ σ H { s with heap:=h' }:=I.kept (t':=s.toks) kp
  have I2:Inv X KJ σ (upd H h'.objs.size (.tup ys)) { s with heap:=h'.push { cls:=.type "tuple",data:=.seq KP.toArray } } :=
   I1.laid (t':=s.toks) (fun b o e=>Qb _ e) (Qh _) (show yH X.prog X.w _ _ _ (.tup ys) from ⟨hz,KP,r',IsTup.new _ _⟩)
  exact ⟨.ref h'.objs.size,_,I2,rfl,q _ (I1.hok.fresh (Qh _))⟩
 ·obtain ⟨KP,r',pl,hz⟩:=I.tuple hq
  exact call_tuple_same pl ⟨.ref p,H,I,rfl,q⟩
def tyV (K:KC) (T:String) (x:V) (H:Hp):Prop:=match x with
 | .str _=>T="str"
 | .int _=>T="int"
 | .ref p=>(T="list"/\∃ xs,SqL K H p xs)\/(T="tuple"/\∃ o,K.lookup p=some o/\o.cls=.type "tuple"/\o.dict=none) \/
   (T="dict"/\((∃ KO,H p=some (.dK KO))\/∃ KO,H p=some (.dT KO)))\/(T="set"/\∃ S n,H p=some (.set S n))
 | _=>False
theorem tyV_is {KJ:List (Kc×KA)} {σ:St} {H:Hp} {s:Kb} {T:String} {x:V} {v:Ka} (I:Inv X KJ σ H s) (r:Zu x v) (ty:tyV X.K T x H) :
  s.TypeIs v T/\∀ a,v=.ref a->∃ ob,s.heap.get? a=some ob/\ob.dict=none:=by
 cases x with
 | str z =>
  obtain ⟨t,rfl⟩:=r
  cases (show T="str" from ty)
  exact ⟨typeIs_str s z t,fun _ e=>nomatch e⟩
 | int i =>
  obtain ⟨t,rfl⟩:=r
  cases (show T="int" from ty)
  exact ⟨typeIs_int s i t,fun _ e=>nomatch e⟩
 | ref p =>
  cases r
  rcases ty with ⟨rfl,xs,hq⟩ | ⟨rfl,o,hk,hc,hd⟩ | ⟨rfl,hk⟩ | ⟨rfl,S,n,hk⟩
  ·obtain ⟨KP,_,pl,_⟩:=I.list hq
   refine ⟨pl.isList.typeIs,fun a e=>?_⟩
   cases e
   obtain ⟨o,n,e,c,hd,_⟩:=pl
   exact ⟨o,e,hd⟩
  ·refine ⟨⟨o,I.kIn p o hk,hc⟩,fun a e=>?_⟩
   cases e
   exact ⟨o,I.kIn _ o hk,hd⟩
  ·have z:∃ o,s.heap.get? p=some o/\o.ExactDict:=by
    rcases hk with ⟨KO,hk⟩ | ⟨KO,hk⟩
    ·obtain ⟨_,_,_,_,o,_,_,e,ex,_⟩:=I.hok p _ hk
     exact ⟨o,e,ex⟩
    ·obtain ⟨_,_,_,_,o,_,_,e,ex,_⟩:=I.hok p _ hk
     exact ⟨o,e,ex⟩
   obtain ⟨o,e,ex⟩:=z
   refine ⟨⟨o,e,ex.1⟩,fun a e2=>?_⟩
   cases e2
   exact ⟨o,e,ex.2.1⟩
  ·obtain ⟨o,_,_,_,e,ex,_⟩:=I.hok p _ hk
   refine ⟨⟨o,e,ex.1⟩,fun a e2=>?_⟩
   cases e2
   exact ⟨o,e,ex.2.1⟩
 | _=>exact False.elim ty
def tBM0 (K:KC) (T:String) (r:V->List V->Hp->VK->Prop) (to:TE):TE:=fun σ H Q=>to σ H fun x H1=>tyV K T x H1/\r x [] H1 Q
def tBM (K:KC) (T:String) (r:V->List V->Hp->VK->Prop) (to:TE) (t:TA):TE:=fun σ H Q=>to σ H fun x H1=>tyV K T x H1/\t σ H1 fun xs H2=>r x xs H2 Q
variable {o e:Kv} {es:List Kv} {to:TE} {t:TA} {name:Kw} {apos cpos:KB} {T id:String} {r:V->List V->Hp->VK->Prop}
theorem pe_bm0 (pa:PlainAttrs T) (slot:Slot T name id) (hty:typeOf (.builtin id)=pure (.type "method_descriptor")) (hm:MtR X id r) (ho:PE X o to)
  (hbase:Kp o name X.env (Kz o X.env)=Kz o X.env:=by rfl) (hline:(apos.endLine == cpos.line)=true:=by rfl):PE X (.Call (.Attribute o name apos) [] [] cpos) (tBM0 X.K T r to):=by
 intro KJ s σ H Q I h
 refine wpAny_Call_method0_late hbase hline (thn (ho KJ s σ H _ I h) fun v s1 ⟨x,H1,I1,r1,ty,q1⟩=>?_)
 obtain ⟨h1,h2⟩:=tyV_is I1 r1 ty
 exact ⟨T,id,pa,slot,hty,h1,h2,Calls.callWith_builtin rfl (PySem.evalArgs_none (hm KJ s1 σ H1 x [] v [] Q I1 r1 .nil q1))⟩
theorem W0 (pa:PlainAttrs T) (slot:Slot T name id) (hty:typeOf (.builtin id)=pure (.type "method_descriptor")) (hm:MtR X id r) (ho:PE X o to) (ha:PA X (e::es) t)
  (hbase:Kp o name X.env (Kz o X.env)=Kz o X.env:=by rfl)
  (hfew:((Kq cpos (Ke (e::es) X.env)).all (fun x=>!x.1)&&(Kr cpos (Ks [] X.env)).all (fun x=>x.1.isSome)
   && decide ((e::es).length+([]:List Keyword).length+(if ([]:List Keyword).isEmpty then 0 else 1)<30))=true:=by rfl)
  (hline:(apos.endLine == cpos.line)=true:=by rfl) (hs:Ke (e::es) X.env=(false,Kz e X.env)::Ke es X.env:=by rfl) (hplain:(Kq cpos (Ke es X.env)).any (·.1)=false:=by rfl) :
  PE X (.Call (.Attribute o name apos) (e::es) [] cpos) (tBM X.K T r to t):=by
 intro KJ s σ H Q I h
 refine wpAny_Call_method_late hbase hfew hline rfl (thn (ho KJ s σ H _ I h) fun v s1 ⟨x,H1,I1,r1,ty,q1⟩=>?_)
 obtain ⟨h1,h2⟩:=tyV_is I1 r1 ty
 refine ⟨T,id,pa,slot,hty,h1,h2,?_⟩
 have hA:=ha cpos KJ s1 σ H1 _ I1 q1
 rw [hs] at hA ⊢
 refine Calls.callWith_builtin (by show (false||(Kq cpos (Ke es X.env)).any (·.1))=false;rw [hplain] <;> rfl) (Calls.evalArgs_plain ?_)
 exact thn hA fun us s2 ⟨vs,H2,I2,r2,q2⟩=>hm KJ s2 σ H2 x vs v us Q I2 r1 r2 q2
end
end L2
namespace L2
open PySem PySem.Spec PyProof.Rows
def MtM (X:Cx) (id:String) (r:V->List V->Hp->VK->Prop):Prop :=
 ∀ (KJ:List (Kc×KA)) (s:Kb) (σ:St) (H:Hp) (x:V) (xs:List V) (v:Ka) (us:List Ka) (Q:VK),Inv X KJ σ H s->Zu x v->zY xs us->r x xs H Q ->
  Ko (Ky X.prog X.w) X.A (call (.builtin id) (v::us)) (EP X KJ σ Q) X.xe s
theorem zY.one:∀ {x:V} {us:List Ka},zY [x] us->∃ u,us=[u]/\Zu x u
 | _,_,.cons r .nil=>⟨_,rfl,r⟩
theorem zY.zero:∀ {us:List Ka},zY [] us->us=[]
 | _,.nil=>rfl
theorem zY.dropLast {xs:List V} {us:List Ka} (h:zY xs us):zY xs.dropLast us.dropLast:=by
 induction h with
 | nil=>exact .nil
 | cons r t ih =>
  cases t with
  | nil=>exact .nil
  | cons q t'=>exact .cons r ih
theorem zY.eraseIdx:∀ {xs:List V} {us:List Ka} (i:Nat),zY xs us->zY (xs.eraseIdx i) (us.eraseIdx i)
 | _,_,_,.nil=>.nil
 | _,_,0,.cons _ t=>t
 | _,_,i+1,.cons r t=>.cons r (zY.eraseIdx i t)
theorem zY.rep {xs:List V} {us:List Ka} (h:zY xs us):∀ k:Nat,zY (List.replicate k xs).flatten (List.replicate k us).flatten
 | 0=>.nil
 | k+1=>by
  rw [QJ,QJ,QX,QX]
  exact zY.append h (zY.rep h k)
theorem erase_last {α:Type} (l:List α):l.eraseIdx (l.length - 1)=l.dropLast:=by
 induction l with
 | nil=>rfl
 | cons a r ih =>
  cases r with
  | nil=>rfl
  | cons b r =>
   have e:(a::b::r).length - 1=((b::r).length - 1)+1:=by
    have h1:(a::b::r).length=r.length+2:=rfl
    have h2:(b::r).length=r.length+1:=rfl
    omega
   rw [e,List.eraseIdx_cons_succ,ih]
   all_goals rfl
theorem len_erase {α:Type}:∀ (l:List α) (i:Nat),(l.eraseIdx i).length<=l.length
 | [],_=>Qh _
 | _::_,0=>Nat.le_succ _
 | _::r,i+1=>Nat.succ_le_succ (len_erase r i)
theorem wF (KP:List Ka):∀ (k:Nat) (acc:List Ka),
  List.foldl (fun x1 x2=>x1++x2) acc.toArray (List.replicate k KP.toArray)=(acc++(List.replicate k KP).flatten).toArray
 | 0,acc=>by simp
 | k+1,acc=>by
  have e:acc.toArray++KP.toArray=(acc++KP).toArray:=by simp
  have e2:(acc++KP)++(List.replicate k KP).flatten=acc++(List.replicate (k+1) KP).flatten:=by
   rw [QJ,QX,QY]
  rw [<- e2,<- wF KP k (acc++KP),<- e,QJ,Pk]
section
variable {X:Cx} {KJ:List (Kc×KA)} {σ:St} {H:Hp} {s:Kb} {l b:Kc} {xs ys zs:List V}
theorem Inv.lset {KP its':List Ka} {n:Nat} {f:Array Ka->Array Ka} {t':Nat} (I:Inv X KJ σ H s) (hH:H l=some (.lst xs))
  (e:s.heap.get? l=some { cls:=.type "list",data:=.seq KP.toArray n }) (hf:f KP.toArray=its'.toArray) (hv:zY ys its') (hz:ys.length<=Kg) :
  Inv X KJ σ (upd H l (.lst ys)) { s with heap:=s.heap.update l (Obj.mapSeq f),toks:=t' }:=by
 have q:=PySem.IsL.update e f
 rw [hf] at q
 refine I.write (x:=l) (e:=l) (by rw [hH];exact trivial) (.inl rfl) (fun b' u hb hu=>(Pi s.heap (Obj.mapSeq f) (Ne.symm hb)).trans hu) ⟨_,q⟩ ?_
 exact ⟨hz,its',_,hv,q⟩
theorem Inv.lnew {KP:List Ka} {t':Nat} (I:Inv X KJ σ H s) (hv:zY ys KP) (hz:ys.length<=Kg) :
  Inv X KJ σ (upd H s.heap.objs.size (.lst ys)) { s with heap:=s.heap.push { cls:=.type "list",data:=.seq KP.toArray },toks:=t' } :=
 I.laid (fun _ _ q=>Qb _ q) (Qh _) ⟨hz,KP,0,hv,Qp _ rfl⟩
theorem Inv.fresh (I:Inv X KJ σ H s):H s.heap.objs.size=none:=I.hok.fresh (Qh _)
theorem Inv.lstM (I:Inv X KJ σ H s) (hH:H l=some (.lst xs)):xs.length<=Kg/\∃ (KP:List Ka) (n:Nat),zY xs KP/\xs.length=KP.length/\s.heap.get? l=some { cls:=.type "list",data:=.seq KP.toArray n }:=by
 obtain ⟨z,KP,n,r,e⟩:=I.hok l _ hH
 exact ⟨z,KP,n,r,r.length,e⟩
theorem notLongL {n:Nat} (h:n<=Kg):Builtin.List.listTooLong n=false:=by
 unfold Builtin.List.listTooLong
 exact KU (by omega)
end
section
variable {X:Cx}
def yP:V->List V->Hp->VK->Prop:=fun x vs H Q=>∃ l xs y,x=.ref l/\vs=[y]/\H l=some (.lst xs)/\xs.length<Kg/\Q .non (upd H l (.lst (xs++[y])))
theorem Yw:MtM X "list.append" yP:=by
 intro KJ s σ H x vs v us Q I rx rv h
 obtain ⟨l,xs,y,rfl,rfl,hH,hz,q⟩:=h
 cases rx
 obtain ⟨u,rfl,ru⟩:=rv.one
 obtain ⟨z,KP,n,r,hl,e⟩:=I.lstM hH
 refine call_meets F.slot_list_append ⟨_,e,rfl⟩ F.entry_list_append (F.args_list_append_2 _ _) (PySem.list_append l KP.toArray n u (by rw [Qj];omega)) ⟨e,?_⟩
 refine ⟨.non,_,I.lset (its':=KP++[u]) hH e (by simp) (r.append (.cons ru .nil)) ?_,rfl,q⟩
 rw [Qd,QA]
 omega
def rPop:V->List V->Hp->VK->Prop:=fun x vs H Q=>∃ l xs y,x=.ref l/\vs=[]/\H l=some (.lst xs)/\xs[xs.length - 1]?=some y/\Q y (upd H l (.lst xs.dropLast))
theorem mt_pop:MtM X "list.pop" rPop:=by
 intro KJ s σ H x vs v us Q I rx rv h
 obtain ⟨l,xs,y,rfl,rfl,hH,hy,q⟩:=h
 cases rx
 have hus:=rv.zero
 subst hus
 obtain ⟨z,KP,n,r,hl,e⟩:=I.lstM hH
 obtain ⟨u,hu,ru⟩:=r.get hy
 have hy':KP.toArray[KP.toArray.size - 1]?=some u:=by
  show KP.toArray[KP.length - 1]?=some u
  rw [<- Array.getElem?_toList,<- hl]
  exact hu
 refine call_meets F.slot_list_pop ⟨_,e,rfl⟩ F.entry_list_pop (F.args_list_pop_1 _) (MeetsSeq.list_pop_last l KP.toArray n u hy' (by rw [Qj];omega)) ⟨e,?_⟩
 refine ⟨y,_,I.lset (its':=KP.dropLast) hH e ?_ r.dropLast ?_,ru,q⟩
 ·show KP.toArray.eraseIdxIfInBounds (KP.toArray.size - 1)=KP.dropLast.toArray
  rw [Qj,List.eraseIdxIfInBounds_toArray,erase_last]
 ·rw [List.length_dropLast]
  omega
def rPopAt:V->List V->Hp->VK->Prop:=fun x vs H Q=>∃ l xs i k y,x=.ref l/\vs=[.int i]/\H l=some (.lst xs)/\-(2 ^ 63)<=i/\i<2 ^ 63/\seqIndex? i xs.length=some k/\xs[k]?=some y/\Q y (upd H l (.lst (xs.eraseIdx k)))
theorem mt_popAt:MtM X "list.pop" rPopAt:=by
 intro KJ s σ H x vs v us Q I rx rv h
 obtain ⟨l,xs,i,k,y,rfl,rfl,hH,h1,h2,hk,hy,q⟩:=h
 cases rx
 obtain ⟨u,rfl,ru⟩:=rv.one
 obtain ⟨t,rfl⟩:=ru
 obtain ⟨z,KP,n,r,hl,e⟩:=I.lstM hH
 obtain ⟨w,hw,rw'⟩:=r.get hy
 refine call_meets F.slot_list_pop ⟨_,e,rfl⟩ F.entry_list_pop (F.args_list_pop_2 _ _)
  (MeetsSeq.list_pop_at l KP.toArray n i t k w (fitsIndex_both h1 h2) (by rw [Qj,<- hl];exact hk) (by rw [<- Array.getElem?_toList];exact hw) (by rw [Qj];omega)) ⟨e,?_⟩
 refine ⟨y,_,I.lset (its':=KP.eraseIdx k) hH e ?_ (r.eraseIdx k) ?_,rw',q⟩
 ·show KP.toArray.eraseIdxIfInBounds k=(KP.eraseIdx k).toArray
  rw [List.eraseIdxIfInBounds_toArray]
 ·have:=len_erase xs k
  omega
def rRep:R2:=fun x y H Q=>∃ l k xs,x=.ref l/\y=.int k/\H l=some (.lst xs)/\-(2 ^ 63)<=k/\k<2 ^ 63/\xs.length*k.toNat<=Kg /\
 ∀ p,H p=none->Q (.ref p) (upd H p (.lst (List.replicate k.toNat xs).flatten))
theorem len_rep {α:Type} (xs:List α) (k:Nat):(List.replicate k xs).flatten.length=k*xs.length:=by
 induction k with
 | zero=>simp
 | succ k ih=>rw [QJ,QX,Qd,ih,Nat.succ_mul,Nat.add_comm]
theorem op_rep:OpR X (binaryOp .Mult) rRep:=by
 intro KJ s σ H x y v u Q I rx ry h
 obtain ⟨l,k,xs,rfl,rfl,hH,h1,h2,hz,q⟩:=h
 cases rx
 obtain ⟨t,rfl⟩:=ry
 obtain ⟨z,KP,n,r,hl,e⟩:=I.lstM hH
 have hlen:KP.toArray.size*k.toNat<=Kg:=by rw [Qj,<- hl];exact hz
 have hcap:¬ KP.toArray.size*k.toNat > (2 ^ 63 - 1) / 8:=by
  have:(Kg:Nat)<=(2 ^ 63 - 1) / 8:=by decide
  omega
 have hfit:¬ (!Builtin.List.listFitsIndex k)=true:=by
  rw [fitsIndex_both h1 h2]
  exact Qi
 have hlong:¬ Builtin.List.listTooLong (KP.toArray.size*k.toNat)=true:=by
  rw [notLongL hlen]
  exact Qi
 have hnew:List.foldl (fun x1 x2=>x1++x2) #[] (List.replicate (if KP.toArray.isEmpty=true then 0 else k.toNat) KP.toArray)=(List.replicate k.toNat KP).flatten.toArray:=by
  have f0:∀ m:Nat,List.foldl (fun x1 x2=>x1++x2) #[] (List.replicate m KP.toArray)=(List.replicate m KP).flatten.toArray:=fun m=>by
   have:=wF KP m []
   rw [Ps] at this
   exact this
  rw [f0]
  cases KP with
  | nil=>simp
  | cons a r'=>rw [KR (by simp)]
 refine wpAny_binaryOp_repeat_ref (T:="list") (U:="int") (by decide) ⟨_,e,rfl⟩ (fun s'=>typeIs_int s' k t) noFill_list_mul F.fills_int_mul F.slot_int_rmul repeat_list F.slot_int_index.lookup
  (call_meets F.slot_int_rmul (typeIs_int s k t) F.entry_int_rmul (F.args_int_rmul_2 _ _) (int___rmul___int_list k t l KP.toArray n)
   ⟨e,rfl,⟨_,e,rfl⟩,call_meets F.slot_list_mul ⟨_,e,rfl⟩ F.entry_list_mul (F.args_list_mul_2 _ _) (AutoListH.list___mul___list_int_3 l KP.toArray n k t hfit hcap hlong) ⟨e,?_⟩⟩)
 rw [hnew]
 exact ⟨.ref _,_,I.lnew (t':=s.toks) (r.rep k.toNat) (by rw [len_rep,Nat.mul_comm];exact hz),rfl,q _ I.fresh⟩
end
section
variable {prog:Ki} {w:Kk} {A:Kj} {E:Ka->Kb->Prop} {s:Kb}
end
section
variable {X:Cx}
end
end L2
namespace Att
open PySem PySem.W PySem.Calls PyProof.Rows
theorem Wf {P:Params} {h:Kl}:∀ (ns:List Int) (vs:List Ka),WellAll P h vs (ns.map WData.int)->IntsAre vs ns:=by
 intro ns
 induction ns with
 | nil =>
  intro vs w
  rw [Po] at w
  cases w
  exact .nil
 | cons n ns ih =>
  intro vs w
  rw [Qq] at w
  cases w with
  | cons a b =>
   cases a
   exact .cons _ _ (ih _ b)
theorem script_of {l:OpenLaw} {n:Nat} (hn:l.most=some n) {P:Params} {h:Kl} {args:List WData} {vals:List Ka}
  (hpre:l.row.toRowW.claim.pre args=true) (hwl:WellAll P h vals args) :
  ∃ a vs ns,vals=[Value.ref a]/\args=[WData.list (ns.map WData.int)]/\h.get? a=some { cls:=.type "list",data:=.seq vs.toArray }/\IntsAre vs ns/\ns.length<=n:=by
 have hsh:WShape.hasAll [] args [.list .int]=true:=(pre_splitW hpre).1
 have hc:l.pre.holds [] { args:=args }=true:=(pre_splitW hpre).2
 obtain ⟨d,r,rfl,h1,h2⟩:=hasAllW_cons hsh
 obtain rfl:=hasAllW_nil h2
 obtain ⟨xs,rfl,h3⟩:=hasW_list h1
 obtain ⟨ns,rfl⟩:=items_int h3
 have hlen:ns.length<=n:=by
  unfold OpenLaw.pre at hc
  have h4:(WTm.not (.lt (.lit (.int (n:Int))) (.len (.arg 0)))).holds [] { args:=[.list (ns.map .int)] }=true:=by
   have h4:=(holds_andW hc).1
   rw [hn] at h4
   exact h4
  have h5:=condW_of h4 (w_not (w_lt w_lit (w_len_list (w_arg rfl))))
  rw [Ql] at h5
  refine Nat.le_of_not_lt fun q=>?_
  have q':(n:Int)<((ns.length:Nat):Int):=by omega
  first
   | (rw [KS q'] at h5;exact absurd h5 (by decide))
   | (simp at h5;omega)
 cases hwl with
 | cons w1 w2 =>
  cases w2
  cases w1 with
  | list ho hall=>exact ⟨_,_,ns,rfl,rfl,ho,Wf ns _ hall,hlen⟩
theorem post_true (l:OpenLaw) (args:List WData):l.row.toRowW.claim.post args (.bool true) args=true :=
 postW_of (r:=l.row.toRowW) (X:=(true == true))
  (show WShape.has [] (.bool true) .bool=true by first | rfl | decide | simp [WShape.has,WShape.arms,WShape.armsAll])
  (show (WTm.eq .res (.lit (.bool true))).value [] { args:=args,res:=some (.bool true),after:=args }=some (.bool (true == true)) from w_eq_bool (w_res rfl) w_lit) rfl
theorem attach_call {l:OpenLaw} {n:Nat} {q:Ki} {loose:List Kw} {XP:(Kw->Option Ka)->Kl->Prop} {YP:Kk->Kl->Prop} {d:DefRec}
  (hn:l.most=some n) (hdf:d.params.defaults=[])
  (call:∀ (w:Kk) (s₀ s₁:Kb) (mg mb:Kw->Option Ka) (fa:Kc) (o:KA) (pm cd doc:Ka) (a:Kc) (vs:List Ka) (ns:List Int),
   Ground q loose [] XP w s₀ mg mb s₁.heap->YP w s₁.heap ->
   s₁.heap.get? fa=some o->o.data=.func (docDef d.name d.params d.body d.scope pm cd doc)->s₁.heap.CodeRec cd d.name->mg d.name=some (.ref fa) ->
   s₁.heap.get? a=some { cls:=.type "list",data:=.seq vs.toArray }->IntsAre vs ns->ns.length<=n->s₁.gens=#[] ->
   codeAny (Ky l.prog w) callerA (.call (.ref fa) ⟨[.ref a],[]⟩) (fun r s'=>r=.ok (.ret (.bool true))/\OldK s₁.heap s'.heap/\s'.os=s₁.os/\AllBare s'.gens) s₁) :
  WalkO q loose XP YP l.row.toRowW d [] (fun f vs=>PySem.call f vs):=by
 intro w s₀ s₁ mg mb G Y fa o pm cd doc dV kV ho hd hcd hD hmg hg args vals as hpre hlay hrd hwl hlo
 obtain rfl:dV=.none:=Dflts.none hD hdf
 obtain rfl:kV=.none:=Dflts.noKw hD
 obtain ⟨a,vs,ns,rfl,rfl,hobj,hints,hlen⟩:=script_of hn hpre hwl
 refine enter_call (codeAny_mono (call w s₀ s₁ mg mb fa o pm cd doc a vs ns G Y ho (fd_plain hd) hcd hmg hobj hints hlen hg) fun r s' hq=>?_)
 obtain ⟨rfl,h2,h3,h4⟩:=hq
 exact ⟨.inl ⟨.bool true,.bool true,[],rfl,fun _=>rfl,.bool true,post_true l _,fun _=>⟨List.Pairwise.nil,fun _ hm=>(nomatch hm)⟩⟩,h2,h3,h4⟩
section
variable {prog:Ki} {w:Kk} {A:Kj} {E:Ka->Kb->Prop} {s:Kb} {K:KC}
end
end Att
namespace L2
open PySem PySem.Spec PyProof.Rows
theorem vals_ints:∀ {vs:List Ka} {ns:List Int},IntsAre vs ns->zY (ns.map V.int) vs
 | _,_,.nil=>.nil
 | _,_,.cons n t h=>.cons ⟨t,rfl⟩ (vals_ints h)
def Only (H:Hp):Prop:=∀ b,H b=none\/∃ o xs,H b=some (.frz o (.lst xs))
theorem law_call {P:Ki} {w:Kk} {K:KC} {mg mb:Kw->Option Ka} {CX:CXT} {k:Nat} {fa a:Kc} {fd:Kh} {x:Kw} {sp:Sp} {s₁:Kb} {vs:List Ka} {ns:List Int}
  (KX:K.In s₁.heap) (hns:s₁.heap.Ns Kf mg) (hb:s₁.heap.Ns builtinsNs mb) (hbb:∀ x:Kw,x≠"__name__"->mb x=bootBuiltins x) (hlim:s₁.heap.NoLimit) (hseer:s₁.heap.NoSeer) (htree:P.given.tree=none) (hg:s₁.gens=#[])
  (ha:s₁.heap.get? a=some { cls:=.type "list",data:=.seq vs.toArray }) (hi:IntsAre vs ns) (hl:ns.length<=Kg) (hr:Room k callerA)
  (F:∀ base:Kl,K.In base->base.Ns Kf mg->FnOk P w K mg base CX k fa fd [x] sp) (hbind:∀ (s:Kb) (u:Ka),BindsTo s fd ⟨[u],[]⟩ [(x,u)])
  (hsp:∀ H:Hp,Only H->SqL K H a (ns.map V.int)->sp [.ref a] H (fun v _=>v=.bl true) fun _ _ _=>False)
  (hCX:∀ H e s',CX [] H s₁ (fun _ _ _=>False) e s'->False) :
  codeAny (Ky P w) callerA (.call (.ref fa) ⟨[.ref a],[]⟩) (fun r s'=>r=.ok (.ret (.bool true))/\OldK s₁.heap s'.heap/\s'.os=s₁.os/\AllBare s'.gens) s₁:=by
 have rv:=vals_ints hi
 have lenV:=hi.length
 have core:∀ H:Hp,Only H->SqL K H a (ns.map V.int)->HOk P w H s₁.heap->(∀ b,H b≠none->b=a)->(H a≠none->K.lookup a=none) ->
   codeAny (Ky P w) callerA (.call (.ref fa) ⟨[.ref a],[]⟩) (fun r s'=>r=.ok (.ret (.bool true))/\OldK s₁.heap s'.heap/\s'.os=s₁.os/\AllBare s'.gens) s₁:=by
  intro H hO hS hok hA hK
  have base_of:∀ {b:Kc} {o:KA},s₁.heap.get? b=some o->H b=none->(hidT s₁.heap H).get? b=some o:=fun e n=>hidT_get e n
  have noA:∀ {b:Kc} {o:KA} {es:Array DictEntry} {ep:Nat},s₁.heap.get? b=some o->o.data=.dict es ep->H b=none:=fun {b o es ep} e d=>by
   cases q:H b with
   | none=>rfl
   | some u =>
    have e':b=a:=hA b (by rw [q];simp)
    subst e'
    rw [ha] at e;cases e
    have d':Data.seq vs.toArray _=Data.dict es ep:=d
    cases d'
  have nsK:∀ {b:Kc} {m:Kw->Option Ka},s₁.heap.Ns b m->(hidT s₁.heap H).Ns b m:=fun {b m} ⟨o,es,ep,e,d,r⟩=>⟨o,es,ep,base_of e (noA e d),d,r⟩
  have hKb:K.In (hidT s₁.heap H):=fun b o e=>base_of (KX b o e) (by
   cases q:H b with
   | none=>rfl
   | some u =>
    have e':b=a:=hA b (by rw [q];simp)
    subst e'
    rw [hK (by rw [q];simp)] at e;cases e)
  have hM:Mod K mg (hidT s₁.heap H):=⟨hKb,nsK hns,⟨mb,nsK hb,hbb⟩,let ⟨mc,h1,h2⟩:=hlim;⟨mc,nsK h1,h2⟩,(by
   obtain ⟨⟨mc,x1,x2⟩,⟨mm,x3,x4⟩,⟨mb',x5,x6⟩,⟨mg',bm,ob,x7,x8,x9,x10,x11⟩⟩:=hseer
   refine ⟨⟨mc,nsK x1,x2⟩,⟨mm,nsK x3,x4⟩,⟨mb',nsK x5,x6⟩,⟨mg',bm,ob,nsK x7,x8,base_of x9 ?_,x10,x11⟩⟩
   cases q:H bm with
   | none=>rfl
   | some u =>
    have e':bm=a:=hA bm (by rw [q];simp)
    subst e'
    rw [ha] at x9;cases x9
    simp at x10)⟩
  have e0:Env0 P w K mg (hidT s₁.heap H) callerA [] s₁ H:=⟨rfl,hM,fun b o e=>of_hidT e,Nat.le_of_eq (hidT_size _ _),trivial,fun b hb=>absurd (show b∈([]:List Kc) from hb) (by simp),hok,.of_eq hg,htree⟩
  refine codeAny_mono ((F _ hKb (nsK hns)).run callerA [] s₁ H ⟨[.ref a],[]⟩ [.ref a] [.ref a] _ _ hr e0 (hbind s₁ (.ref a)) (.cons rfl .nil) (hsp H hO hS)) fun r s' h=>?_
  cases r with
  | error e=>exact (hCX H e s' h).elim
  | ok fl =>
   cases fl with
   | next=>exact False.elim h
   | brk=>exact False.elim h
   | cont=>exact False.elim h
   | ret u =>
    obtain ⟨v,H',os,bare,un,hok',r',q⟩:=h
    have q':v=.bl true:=q
    subst q'
    obtain rfl:u=Value.bool true:=r'
    refine ⟨rfl,OldK.of_keep fun b o e=>?_,os,bare⟩
    cases q:H b with
    | none=>exact un.keep b o e q (by intro z;exact absurd (show b∈([]:List Kc) from z) (by simp)) (by simp)
    | some u =>
     rcases hO b with z | ⟨ob,xs,z⟩
     ·rw [q] at z;cases z
     ·have z2:=un.frzs b ob _ z
      obtain ⟨e1,_⟩:=hok b _ z
      obtain ⟨e2,_⟩:=hok' b _ z2
      rw [e] at e1;cases e1
      exact e2
 cases hk:K.lookup a with
 | some o =>
  have e:=KX a o hk
  rw [ha] at e
  cases e
  refine core (fun _=>none) (fun _=>.inl rfl) (.inr ⟨_,vs.toArray,_,hk,rfl,rfl,rfl,by rw [Qj,lenV];exact hl,by simpa using rv⟩) (fun b u z=>by have z':(none:Option HO)=some u:=z;cases z') (fun b z=>absurd rfl z) fun z=>absurd rfl z
 | none =>
  refine core (fun b=>if b=a then some (.frz { cls:=.type "list",data:=.seq vs.toArray } (.lst (ns.map V.int))) else none) (fun b=>?_) (.inl (.inr ⟨{ cls:=.type "list",data:=.seq vs.toArray },KQ rfl⟩)) (fun b u z=>?_) (fun b z=>?_) fun _=>hk
  ·by_cases hb:b=a
   ·exact .inr ⟨_,_,KQ hb⟩
   ·exact .inl (KR hb)
  ·by_cases hb:b=a
   ·have z':=(KQ hb).symm.trans z
    cases z'
    subst hb
    exact ⟨ha,by rw [Ql];exact hl,vs,_,rv,ha⟩
   ·have z':=(KR hb).symm.trans z
    cases z'
  ·by_cases hb:b=a
   ·exact hb
   ·exact absurd (KR hb) z
end L2
namespace L2
open PySem PySem.Spec PyProof.Rows
theorem walk_of {l:PySem.W.OpenLaw} {n k:Nat} {q:Ki} {loose:List Kw} {XP:(Kw->Option Ka)->Kl->Prop} {YP:Kk->Kl->Prop} {d:DefRec} {K:Params->KC} {CX:Kk->CXT} {sp:Kk->Sp} {x:Kw}
  (hn:l.most=some n) (hn2:n<=Kg) (hdf:d.params.defaults=[]) (hr:Room k callerA) (himp:importsNone q=true) (htree:l.prog.given.tree=none)
  (hY:∀ (w:Kk) (h:Kl),YP w h->(K w.params).In h)
  (F:∀ (w:Kk) (mg:Kw->Option Ka) (fa:Kc) (h:Kl),(K w.params).In h->h.Ns Kf mg->mg d.name=some (.ref fa) ->
   ∃ fd:Kh,(∀ (s:Kb) (u:Ka),BindsTo s fd ⟨[u],[]⟩ [(x,u)]) /\
    ∀ base:Kl,(K w.params).In base->base.Ns Kf mg->FnOk l.prog w (K w.params) mg base (CX w) k fa fd [x] (sp w))
  (hsp:∀ (w:Kk) (H:Hp) (a:Kc) (ns:List Int),ns.length<=n->Only H->SqL (K w.params) H a (ns.map V.int)->sp w [.ref a] H (fun v _=>v=.bl true) fun _ _ _=>False)
  (hCX:∀ (w:Kk) (H:Hp) (s:Kb) (e:Ka) (s':Kb),CX w [] H s (fun _ _ _=>False) e s'->False) :
  PySem.W.WalkO q loose XP YP l.row.toRowW d [] (fun f vs=>PySem.call f vs):=by
 refine Att.attach_call hn hdf fun w s₀ s₁ mg mb fa o pm cd doc a vs ns G Y ho hd hcd hmg hobj hints hlen hg=>?_
 have KX:=hY w _ Y
 obtain ⟨fd,hb,hF⟩:=F w mg fa _ KX G.T.g hmg
 exact law_call KX G.T.g G.T.b G.T.builtins G.T.nolimit (G.T.seer himp) htree hg hobj hints (Qv hlen hn2) hr hF hb (fun H hO hS=>hsp w H a ns hlen hO hS) fun H e s'=>hCX w H s₁ e s'
end L2
namespace L2
open PySem PySem.Spec PyProof.Rows
def Yl (s:Kx):Arguments:=match s with
 | .FunctionDef _ a _ _ _ _ _ _ _ _=>a
 | _=>{ posonlyargs:=[],args:=[],vararg:=none,kwonlyargs:=[],kw_defaults:=[],kwarg:=none,defaults:=[] }
def ZK (s:Kx):List Kx:=match s with
 | .FunctionDef _ _ b _ _ _ _ _ _ _=>b
 | _=>[]
def zO (s:Kx):Scope:=match s with
 | .FunctionDef _ _ _ _ _ _ sc _ _ _=>sc
 | _=>{ kind:=.function,names:=[],isGenerator:=false,isCoroutine:=false }
abbrev CX0:CXT:=fun _ _ _ _ _ _=>False
abbrev E0:XK:=fun _ _ _=>False
theorem W1 {X:Cx}:JC CX0 X E0:=fun _ _ _ _ _ _ _ h=>h.elim
structure Fun (K:KC) (x qual:Kw) (st:Kx) (f:Kc) (fd:Kh):Prop where
 ex:∃ (oc:Ka) (od:Option Kc) (kV doc pm:Ka) (an:Option Kc) (cdv ct:Ka) (osl:Array (Option Ka)),
  fd=fnOf x qual (Yl st) (ZK st) (zO st) .none kV doc pm an cdv ct/\K.lookup f=some ⟨oc,od,.func fd,osl⟩/\codeIn K cdv qual=true
 kp:keepIn K (.ref f)=true
section
variable {P:Ki} {w:Kk} {K:KC} {mg:Kw->Option Ka} {base:Kl}
theorem Fun.ok {x qual:Kw} {st:Kx} {f:Kc} {fd:Kh} {N ps:List Kw} {k:Nat} {sp:Sp} (F:Fun K x qual st f fd) (S:FnScope N ps (zO st)) (len:∀ vs H Q E,sp vs H Q E->vs.length=ps.length)
  (hbody:∀ (cdv:Ka) (A:Kj) (outer:List Env) (s:Kb) (H:Hp) (vs:List V) (Q:VK) (E:XK),Room k (A.deeper (envOfC qual (zO st) s.heap.objs.size f cdv))->sp vs H Q E ->
   ∃ t,PSs (gw CX0 P w K mg base N qual (zO st) f cdv A outer s H E).nox (ZK st) t/\t { nx:=fun _ H'=>Q .non H',rt:=Q } (yM N vs) H):FnOk P w K mg base CX0 (k+1) f fd ps sp:=by
 obtain ⟨oc,od,kV,doc,pm,an,cdv,ct,osl,rfl,lk,hcd⟩:=F.ex
 refine fn_of lk hcd S len fun A outer s H vs Q E hr hsp=>?_
 obtain ⟨t,h,q⟩:=hbody cdv A outer s H vs Q E hr hsp
 exact ⟨t,h.nox,q⟩
theorem Fun.binds {x qual:Kw} {st:Kx} {f:Kc} {fd:Kh} {ps:List Kw} (F:Fun K x qual st f fd)
  (h:∀ (kV doc pm:Ka) (an:Option Kc) (cdv ct:Ka) (us:List Ka),us.length=ps.length->bindArgs (fnOf x qual (Yl st) (ZK st) (zO st) .none kV doc pm an cdv ct) ⟨us,[]⟩=pure (ps.zip us)):Yq K fd ps []:=by
 obtain ⟨oc,od,kV,doc,pm,an,cdv,ct,osl,rfl,lk,hcd⟩:=F.ex
 exact .all (h kV doc pm an cdv ct)
theorem fun_mk {x qual:Kw} {st:Kx} {f:Kc} {oc:Ka} {od an:Option Kc} {osl:Array (Option Ka)} {kV doc pm cdv ct:Ka} (l:K.lookup f=some ⟨oc,od,.func (fnOf x qual (Yl st) (ZK st) (zO st) .none kV doc pm an cdv ct),osl⟩)
  (c:codeIn K cdv qual=true) (k:keepIn K (.ref f)=true):Fun K x qual st f (fnOf x qual (Yl st) (ZK st) (zO st) .none kV doc pm an cdv ct):=⟨⟨oc,od,kV,doc,pm,an,cdv,ct,osl,rfl,l,c⟩,k⟩
end
theorem gc {A:Kj} {k:Nat} (hr:Room k A):A.units+1<cLine:=Q7 (Nat.add_le_add_left (by decide:1<=64) _) hr.units
section
variable {X:Cx}
theorem pv (i:Nat) {x:Kw} {pos:KB} (hN:X.N[i]?=some x:=by rfl) (hv:Vis X.env.scope x:=by first | exact Or.inl rfl | exact Or.inr (Or.inl rfl) | exact Or.inr (Or.inr rfl)) (hd:(x == ("__debug__":Kw))=false:=by decide)
  (hcd:(x == ("__classdict__":Kw))=false:=by decide):PE X (.Name x pos) (ZA i):=pe_var hN hv hd hcd
end
def zT (H H':Hp):Prop:=∀ b o,H b=some o->H' b=some o
theorem zT.refl (H:Hp):zT H H:=fun _ _ h=>h
theorem zT.trans {H H1 H2:Hp} (a:zT H H1) (b:zT H1 H2):zT H H2:=fun c o h=>b c o (a c o h)
theorem zT.free {H H':Hp} (e:zT H H') {l:Kc} (h:H' l=Option.none):H l=Option.none:=by
 cases q:H l with
 | none=>rfl
 | some o =>
  rw [e l o q] at h
  cases h
theorem zT.seq {K:KC} {H H':Hp} {a:Kc} {xs:List V} (e:zT H H') (h:SqL K H a xs):SqL K H' a xs:=by
 rcases h with (h | ⟨o,h⟩) | h
 ·exact .inl (.inl (e _ _ h))
 ·exact .inl (.inr ⟨o,e _ _ h⟩)
 ·exact .inr h
end L2
set_option maxHeartbeats 4000000
namespace L2
open PySem PySem.Spec PyProof.Rows
def YB (env:Env):List (Kw×Ku)->List (Kw×Kc)->List (Kw×Kc)
 | [],acc=>acc
 | (n,k)::r,acc=>if k == .free then (match env.cells.lookup n with | some a=>YB env r ((n,a)::acc) | none=>YB env r acc) else YB env r acc
theorem closure_of {env:Env} {scope:Scope} (h:∀ x∈scope.names,x.2=.free->∃ c,env.cells.lookup x.1=some c):closureFor scope env=pure (YB env scope.names []):=by
 suffices ∀ (names:List (Kw×Ku)) (acc:List (Kw×Kc)),(∀ x∈names,x.2=.free->∃ c,env.cells.lookup x.1=some c) ->
   (forIn names acc fun (x:Kw×Ku) cs=>(do
    if x.2 == .free then
     let a <- cellOf env x.1
     pure (ForInStep.yield ((x.1,a)::cs))
    else pure (ForInStep.yield cs):Sem (ForInStep (List (Kw×Kc)))))=pure (YB env names acc) by
  have q:=this scope.names [] h
  unfold closureFor
  refine Eq.trans (bind_pure _) ?_
  rw [<- q]
 intro names
 induction names with
 | nil=>intro acc _;rfl
 | cons x r ih =>
  intro acc h
  obtain ⟨n,k⟩:=x
  rw [PJ]
  cases hk:k == NameKind.free with
  | false =>
   simp only [hk,Pj,if_false,pure_bind]
   rw [ih acc fun y hy=>h y (Qe _ hy)]
   simp [YB,hk]
  | true =>
   obtain ⟨c,hc⟩:=h (n,k) Qt (by simpa using hk)
   have hc':env.cells.lookup n=some c:=hc
   have e1:cellOf env n=pure c:=by unfold cellOf;rw [hc']
   simp only [hk,if_true,e1,pure_bind]
   rw [ih _ fun y hy=>h y (Qe _ hy)]
   simp [YB,hk,hc']
theorem Y8 {env:Env}:∀ (names:List (Kw×Ku)) (acc:List (Kw×Kc)) (n:Kw) (c:Kc),(n,c)∈YB env names acc->(n,c)∈acc\/(∃ k,(n,k)∈names/\k=.free/\env.cells.lookup n=some c)
 | [],_,_,_,h=>.inl h
 | (m,k)::r,acc,n,c,h=>by
  unfold YB at h
  cases hk:k == NameKind.free with
  | false =>
   rw [hk] at h
   rcases Y8 r acc n c (by simpa using h) with q | ⟨k',q1,q2⟩
   ·exact .inl q
   ·exact .inr ⟨k',Qe _ q1,q2⟩
  | true =>
   rw [hk] at h
   have hk':k=.free:=by simpa using hk
   cases hc:env.cells.lookup m with
   | none =>
    rw [hc] at h
    rcases Y8 r acc n c (by simpa using h) with q | ⟨k',q1,q2⟩
    ·exact .inl q
    ·exact .inr ⟨k',Qe _ q1,q2⟩
   | some a =>
    rw [hc] at h
    rcases Y8 r _ n c (by simpa using h) with q | ⟨k',q1,q2⟩
    ·rcases Qc.mp q with e | q
     ·cases e;exact .inr ⟨k,Qt,hk',hc⟩
     ·exact .inl q
    ·exact .inr ⟨k',Qe _ q1,q2⟩
theorem jT {env:Env}:∀ (names:List (Kw×Ku)) (acc:List (Kw×Kc)) (n:Kw),((n,NameKind.free)∈names/\(∃ c,env.cells.lookup n=some c))\/(acc.lookup n).isSome=true->((YB env names acc).lookup n).isSome=true
 | [],_,_,h=>h.elim (fun ⟨q,_⟩=>nomatch q) id
 | (m,k)::r,acc,n,h=>by
  unfold YB
  cases hk:k == NameKind.free with
  | false =>
   refine (jT r acc n ?_)
   rcases h with ⟨q,c⟩ | h
   ·rcases Qc.mp q with e | q
    ·cases e;simp at hk
    ·exact .inl ⟨q,c⟩
   ·exact .inr h
  | true =>
   have hk':k=.free:=by simpa using hk
   subst hk'
   simp only [if_true]
   cases hc:env.cells.lookup m with
   | none =>
    refine (jT r acc n ?_)
    rcases h with ⟨q,c,hc2⟩ | h
    ·rcases Qc.mp q with e | q
     ·cases e;rw [hc] at hc2;cases hc2
     ·exact .inl ⟨q,c,hc2⟩
    ·exact .inr h
   | some a =>
    refine (jT r _ n ?_)
    by_cases e:n=m
    ·exact .inr (by simp [QM,e])
    ·have e':(n == m)=false:=by simpa using e
     rcases h with ⟨q,c⟩ | h
     ·rcases Qc.mp q with e2 | q
      ·cases e2;exact absurd rfl e
      ·exact .inl ⟨q,c⟩
     ·exact .inr (by simpa [QM,e'] using h)
theorem clOf_free {env:Env} {n:Kw} {names:List (Kw×Ku)} (h:((n,NameKind.free)∈names)) {c:Kc} (hc:env.cells.lookup n=some c):(YB env names []).lookup n=some c:=by
 have q:=jT names [] n (.inl ⟨h,c,hc⟩)
 obtain ⟨c',e⟩:=Pc.mp q
 rcases Y8 names [] n c' (mem_of_lookup e) with z | ⟨_,_,_,z⟩
 ·cases z
 ·rw [hc] at z;cases z;exact e
theorem newEnv_comp {M:Model} {A:Kj} {E:Ka->Kb->Prop} {s:Kb} {scope:Scope} {globals:Kc} {cl:List (Kw×Kc)} {qual:Kw} {env:Env} {Q:Env->Kb->Prop}
  (hQ:∀ h',(∀ b o,s.heap.get? b=some o->h'.get? b=some o)->h'.Ns s.heap.objs.size (fun _=>none) ->
   (∀ n c,(n,c)∈cellsFrom (s.heap.objs.size+1) scope.names cl->(n,c)∈cl\/((n,c)∈cellsFrom (s.heap.objs.size+1) scope.names []/\s.heap.objs.size<c/\h'.IsCell c none)) ->
   ((cellsFrom (s.heap.objs.size+1) scope.names []).Pairwise fun x y=>x.2≠y.2) ->
   Q (newEnv scope s.heap.objs.size globals (cellsFrom (s.heap.objs.size+1) scope.names cl) qual none .none (some env) builtinsNs) { s with heap:=h' }) :
  Ko M A (newFunctionEnv scope globals cl [] qual none .none (some env)) Q E s:=by
 unfold newFunctionEnv
 simp only [Option.isSome_some,if_true]
 refine Qa (wpAny_alloc ?_)
 refine Qa (wpAny_layCells _ (fun name kind cells=>by cases hkc:kind == NameKind.cell <;> simp [hkc]) _ _ _ _ ?_)
 have ok:=cellsFrom_ok scope.names (s.heap.push { cls:=.type "dict",data:=.dict #[] }) (s.heap.objs.size+1) [] ⟨fun _ _ hm=>(nomatch hm),List.Pairwise.nil⟩ (by rw [QH];exact Qh _)
 rw [QH] at ok
 rw [show ({ s with heap:=s.heap.push { cls:=.type "dict",data:=.dict #[] } }:Kb).heap.objs.size=s.heap.objs.size+1 from QH ..]
 simp only [PL,pure_bind]
 refine Qf (hQ _ (fun b o e=>pushCells_keeps _ _ b o (Qb _ e)) ((Heap.Ns.new s.heap (.type "dict")).keeps (pushCells_keeps _ _)) ?_ ok.apart)
 have app:∀ (names:List (Kw×Ku)) (n:Nat) (acc:List (Kw×Kc)) (x:Kw×Kc),x∈cellsFrom n names (acc++cl)->x∈cl\/x∈cellsFrom n names acc:=by
  intro names
  induction names with
  | nil=>intro n acc x h;exact (QL.mp h).symm
  | cons y r ih =>
   intro n acc x h
   obtain ⟨m,k⟩:=y
   unfold cellsFrom at h ⊢
   split at h
   ·rename_i hk;rw [KQ hk];exact ih (n+1) ((m,n)::acc) x h
   ·rename_i hk;rw [KR hk];exact ih n acc x h
 intro n c hm
 rcases app scope.names _ [] (n,c) hm with q | q
 ·exact .inl q
 ·obtain ⟨z1,z2⟩:=ok.empty n c q
  exact .inr ⟨q,z2,z1⟩
theorem jS {prog:Ki} {w:Kk} {A:Kj} {R:Result->Kb->Prop} {s:Kb} {elt target iter:Kv} {ifs:List Kv} {scope:Scope} {pos:KB} {it acc:Ka} {env:Env} (I:Nat->Kb->Prop)
  (turn:∀ n s,I n s->Ko (Ky prog w) A (pyNext it) (fun r s₁=>match r with
   | none=>R (.ok .next) s₁
   | some v=>Ko (Ky prog w) A (letOwnedTupleGo target it v) (fun _ s₁'=>Ko (Ky prog w) A (assign target env v) (fun _ s₂ =>
     Ko (Ky prog w) A (forIn ifs true fun c r=>if r=true then do let ok <- isTrue c env (Kz c env);pure (ForInStep.yield ok) else pure (ForInStep.yield r)) (fun ok s₃ =>
      if ok=true then Ko (Ky prog w) A (Kz elt env) (fun x s₄ =>
       Ko (Ky prog w) A (call (.builtin "list.append") [acc,x]) (fun _ s₅=>∃ m,m<n/\I m s₅) (fun _ _=>False) s₄) (fun _ _=>False) s₃
      else ∃ m,m<n/\I m s₃) (fun _ _=>False) s₂) (fun _ _=>False) s₁') (fun _ _=>False) s₁) (fun _ _=>False) s)
  (n:Nat) (h:I n s) :
  codeAny (Ky prog w) A (.compLoop (.ListComp elt [⟨target,iter,ifs,0⟩] scope pos) 0 it acc env) R s:=by
 refine codeAny_loop rfl I (fun n s hI=>?_) n h
 show Ko _ A ((compTurn (.ListComp elt [⟨target,iter,ifs,0⟩] scope pos) 0 it acc env).onRaise (fun x=>do noteFrame x env;theTreesLotGoes x)) _ _ s
 refine wpAny_noted ?_
 rw [compTurn_list]
 refine Qa (wpAny_standAt (Qa (Pa (turn n s hI) (fun r s₁ h₁=>?_) fun _ _ h'=>h'.elim)))
 cases r with
 | none=>exact Qf h₁
 | some v =>
  refine Qa (Pa h₁ (fun _ s₁' h₁'=>?_) fun _ _ h'=>h'.elim)
  refine Qa (Pa h₁' (fun _ s₂ h₂=>Qa (Pa h₂ (fun ok s₃ h₃=>?_) fun _ _ h'=>h'.elim)) fun _ _ h'=>h'.elim)
  cases ok with
  | false=>exact Qf ⟨rfl,h₃⟩
  | true =>
   exact Qa (Qa (Pa h₃ (fun x s₄ h₄=>Qa (Pa h₄ (fun _ s₅ h₅=>Qf (Qf ⟨rfl,h₅⟩)) fun _ _ h'=>h'.elim)) fun _ _ h'=>h'.elim))
end L2
namespace L2
open PySem PySem.Spec PyProof.Rows
theorem Yd {env:Env} {x:Kw} {k:Ku}:∀ {names:List (Kw×Ku)},
  (names.map fun (n,k)=>if (k == NameKind.free&&env.scope.kind == .function&&env.kindOf n == some .cell) then (n,NameKind.cell) else (n,k)).lookup x=some k ->
  ∃ k',names.lookup x=some k'/\(k=k'\/(k'=.free/\k=.cell))
 | [],h=>by simp at h
 | (n,k')::r,h=>by
  have ih:=@Yd env x k r
  rw [Qq] at h
  by_cases hc:(k' == NameKind.free&&env.scope.kind == .function&&env.kindOf n == some .cell)=true
  ·simp only [hc,if_true] at h
   have hf:k'=.free:=by
    simp only [QI,beq_iff_eq] at hc
    exact hc.1.1
   cases hx:x == n with
   | true=>simp only [QM,hx] at h ⊢;cases h;exact ⟨k',rfl,.inr ⟨hf,rfl⟩⟩
   | false=>simp only [QM,hx] at h ⊢;exact ih h
  ·have hc':(k' == NameKind.free&&env.scope.kind == .function&&env.kindOf n == some .cell)=false:=by simpa using hc
   simp only [hc',Pj,if_false] at h
   cases hx:x == n with
   | true=>simp only [QM,hx] at h ⊢;cases h;exact ⟨k,rfl,.inl rfl⟩
   | false=>simp only [QM,hx] at h ⊢;exact ih h
theorem jD {env:Env} {x:Kw} {k':Ku}:∀ {names:List (Kw×Ku)},names.lookup x=some k' ->
  ∃ k,(names.map fun (n,k)=>if (k == NameKind.free&&env.scope.kind == .function&&env.kindOf n == some .cell) then (n,NameKind.cell) else (n,k)).lookup x=some k/\(k=k'\/(k'=.free/\k=.cell))
 | [],h=>by simp at h
 | (n,k1)::r,h=>by
  have ih:=@jD env x k' r
  rw [Qq]
  by_cases hc:(k1 == NameKind.free&&env.scope.kind == .function&&env.kindOf n == some .cell)=true
  ·simp only [hc,if_true]
   have hf:k1=.free:=by
    simp only [QI,beq_iff_eq] at hc
    exact hc.1.1
   cases hx:x == n with
   | true=>simp only [QM,hx] at h ⊢;cases h;exact ⟨_,rfl,.inr ⟨hf,rfl⟩⟩
   | false=>simp only [QM,hx] at h ⊢;exact ih h
  ·have hc':(k1 == NameKind.free&&env.scope.kind == .function&&env.kindOf n == some .cell)=false:=by simpa using hc
   simp only [hc',Pj,if_false]
   cases hx:x == n with
   | true=>simp only [QM,hx] at h ⊢;cases h;exact ⟨_,rfl,.inl rfl⟩
   | false=>simp only [QM,hx] at h ⊢;exact ih h
theorem YC {x:Kw}:∀ (names:List (Kw×Ku)) (n:Nat) (acc:List (Kw×Kc)),(∀ y∈names,y.2=.cell->y.1≠x)->(cellsFrom n names acc).lookup x=acc.lookup x
 | [],_,_,_=>rfl
 | (m,k)::r,n,acc,h=>by
  unfold cellsFrom
  split
  ·rename_i hk
   rw [YC r _ _ fun y hy=>h y (Qe _ hy)]
   have:x≠m:=fun e=>h (m,k) Qt (by simpa using hk) e.symm
   have e':(x == m)=false:=by simpa using this
   rw [QM,e']
  ·exact YC r _ _ fun y hy=>h y (Qe _ hy)
def ZC (X:Cx) (scope:Scope) (own N':List Kw) (s₂:Kb) (H₂:Hp) (fp:List Kc) (C:Kc):Cx where
 prog:=X.prog
 w:=X.w
 K:=X.K
 mg:=X.mg
 base:=X.base
 A:=X.A
 N:=N'
 s₀:=s₂
 P6:=H₂
 env:=compEnvC scope (cellsFrom (C+1) scope.names (YB X.env scope.names [])) C X.env
 outer:=X.stack
 stack:=X.stack
 ex:=fp
 fn:=fun x=>own.contains x
 calm:=X.calm
 pn:=[]
 xe:=fun _ _=>False
structure CompOk (X:Cx) (scope:Scope) (own N':List Kw) (k:Nat):Prop where
 kind:scope.kind=.function
 loc:∀ y∈scope.names,y.2=.local->scope.names.lookup y.1=some .local
 cel:∀ y∈scope.names,y.2=.cell->scope.names.lookup y.1=some .cell
 free:∀ y∈scope.names,y.2=.free->X.env.scope.names.lookup y.1=some .cell\/X.env.scope.names.lookup y.1=some .free
 own:∀ y∈scope.names,y.2=.free->own.contains y.1=false
 len:N'.length=X.N.length+k
 nm:∀ (i:Nat) (x:Kw),i<X.N.length->N'[i]?=some x->scope.names.lookup x=none\/(X.N[i]?=some x/\scope.names.lookup x=some .free)
def PF (X:Cx) (ifs:List Kv) (t:TT):Prop :=
 ∀ (KJ:List (Kc×KA)) (s:Kb) (σ:St) (H:Hp) (Q:Bool->Hp->Prop),Inv X KJ σ H s->t σ H Q ->
  Ko (Ky X.prog X.w) X.A (forIn ifs true fun c r=>if r=true then do let ok <- isTrue c X.env (Kz c X.env);pure (ForInStep.yield ok) else pure (ForInStep.yield r)) (TP X KJ σ Q) X.xe s
def tYes:TT:=fun _ H Q=>Q true H
theorem pf_nil {X:Cx}:PF X [] tYes:=fun KJ s σ H Q I h=>Qf ⟨H,I,h⟩
theorem pf_one {X:Cx} {c:Kv} {t:TT} (h:PT X c t):PF X [c] t:=fun KJ s σ H Q I q=>wpAny_tests_one (h KJ s σ H Q I q)
def wO (k:Nat) (wi:TI) (g:TG) (tc:TT) (te:TE):TE:=fun σ H Q=>wi σ H fun J H1=>∀ D,H1 D=none ->
 ∃ W:Nat->Nat->List V->St->Hp->Prop,(∃ m,W 0 m [] (σ++List.replicate k none) (upd H1 D (.lst [])))/\∀ i m ys σ' H',W i m ys σ' H'->H' D=some (.lst ys) /\
  ((J.stop i H'/\Q (.ref D) H')\/(J.go i H'/\∀ x H2,J.yld i H' x H2->g x σ' H2 fun σ3 H3=>tc σ3 H3 fun b H4 =>
   if b=true then te σ3 H4 fun v H5=>H5 D=some (.lst ys)/\ys.length<Kg/\∃ m',m'<m/\W (i+1) m' (ys++[v]) σ3 (upd H5 D (.lst (ys++[v])))
   else ∃ m',m'<m/\W (i+1) m' ys σ3 H4))
section
variable {X:Cx} {scope:Scope} {own N':List Kw} {k:Nat}
theorem inv_comp {KJ:List (Kc×KA)} {σ:St} {H:Hp} {s:Kb} {fp:List Kc} {h':Kl} {t':Nat} {h1:Kl} {D:Kc} (c:CompOk X scope own N' k) (I:Inv X KJ σ H s) (hf:∀ b∈fp,JE X KJ H b) (hfl:∀ b∈fp,b<s.heap.objs.size)
  (h1sz:s.heap.objs.size<h1.objs.size) (up1:∀ b o,s.heap.get? b=some o->h1.get? b=some o) (hD:H D=none) (un1:Un (frs X.stack) fp H (upd H D (.lst [])) s.heap h1) (hok1:HOk X.prog X.w (upd H D (.lst [])) h1)
  (up:∀ b o,h1.get? b=some o->h'.get? b=some o) (ns:h'.Ns h1.objs.size (fun _=>none))
  (cs:∀ n a,(n,a)∈cellsFrom (h1.objs.size+1) scope.names (YB X.env scope.names [])->(n,a)∈YB X.env scope.names []\/((n,a)∈cellsFrom (h1.objs.size+1) scope.names []/\h1.objs.size<a/\h'.IsCell a none))
  (ap:(cellsFrom (h1.objs.size+1) scope.names []).Pairwise fun x y=>x.2≠y.2) :
  Inv (ZC X scope own N' s H fp h1.objs.size) [] (σ++List.replicate k none) (upd H D (.lst [])) { s with heap:=h',toks:=t' }:=by
 have hCs:s.heap.objs.size<=h1.objs.size:=Q2 h1sz
 have old:∀ n a,(n,a)∈YB X.env scope.names []->X.env.cells.lookup n=some a:=fun n a hm=>by
  rcases Y8 _ _ _ _ hm with z | ⟨_,_,_,z⟩
  ·cases z
  ·exact z
 have oldlt:∀ n a,(n,a)∈YB X.env scope.names []->@LT.lt Nat instLTNat a s.heap.objs.size:=fun n a hm=>by
  obtain ⟨v,q⟩:=I.cell n a (old n a hm)
  exact q.lt
 have inj:∀ x y a,(x,a)∈cellsFrom (h1.objs.size+1) scope.names (YB X.env scope.names [])->(y,a)∈cellsFrom (h1.objs.size+1) scope.names (YB X.env scope.names [])->x=y:=fun x y a hx hy=>by
  rcases cs x a hx with p | ⟨p,p1,_⟩ <;> rcases cs y a hy with q | ⟨q,q1,_⟩
  ·exact I.ok.inj x y a (old _ _ p) (old _ _ q)
  ·have:=oldlt _ _ p;omega
  ·have:=oldlt _ _ q;omega
  ·exact name_of_addr ap p q
 have freeC:∀ x a,(x,a)∈cellsFrom (h1.objs.size+1) scope.names (YB X.env scope.names [])->(upd H D (.lst [])) a=none:=fun x a hx=>by
  rcases cs x a hx with p | ⟨p,p1,_⟩
  ·obtain ⟨v,o,ho,hd⟩:=I.cell x a (old _ _ p)
   refine un1.free a o ho (I.freeC x a (old _ _ p)) fun z=>?_
   exact (hf a z).2.2.2.2.1 x a (old _ _ p) rfl
  ·exact hok1.fresh (Q2 p1)
 have fsn:∀ b∈frs X.stack,b<s.heap.objs.size:=fun b hb=>by
  obtain ⟨_,o,ho,_⟩:=I.stack.mem hb
  exact Qk ho
 refine ⟨⟨I.ok.mod,c.kind,I.ok.glob,I.ok.blt,hCs,fun x y a h1' h2'=>inj x y a (mem_of_lookup h1') (mem_of_lookup h2'),fun x hx=>?_,fun x a hx ha=>?_,I.ok.hd,I.ok.frames,.inl rfl,fun b hb=>⟨?_,fun x a ha=>?_⟩,I.bs,Qv I.ok.bsz I.sz,fun b o e hb=>?_,fun b hb hb2=>?_,I.stack,I.stkFree,I.ok.top,I.ok.tree⟩,
  rfl,I.bare,un1.trans (Un.kept up),⟨_,ns,fun i x v e1 e2 e3=>?_⟩,fun x a ha=>?_,?_,fun x a ha=>freeC x a (mem_of_lookup ha),fun p hp=>absurd (show p∈([]:List (Kc×KA)) from hp) (by simp),hok1.kept up,?_⟩
 ·-- has
  have hx':(scope.names.map fun (n,k)=>if (k == NameKind.free&&X.env.scope.kind == .function&&X.env.kindOf n == some .cell) then (n,NameKind.cell) else (n,k)).lookup x=some .cell\/(scope.names.map fun (n,k)=>if (k == NameKind.free&&X.env.scope.kind == .function&&X.env.kindOf n == some .cell) then (n,NameKind.cell) else (n,k)).lookup x=some .free:=hx
  have hk:scope.names.lookup x=some .cell\/scope.names.lookup x=some .free:=by
   rcases hx' with z | z
   ·obtain ⟨k',e,q⟩:=Yd z
    rcases q with q | ⟨q,_⟩
    ·exact .inl (by rw [e,<- q])
    ·exact .inr (by rw [e,q])
   ·obtain ⟨k',e,q⟩:=Yd z
    rcases q with q | ⟨q,_⟩
    ·exact .inr (by rw [e,<- q])
    ·exact .inr (by rw [e,q])
  refine Pc.mp (PySem.W.cellsFrom_some scope.names _ _ ?_)
  rcases hk with z | z
  ·exact .inl z
  ·refine .inr (jT _ _ _ (.inl ⟨mem_of_lookup z,?_⟩))
   rcases c.free (x,.free) (mem_of_lookup z) rfl with q | q
   ·exact I.ok.has x (.inl q)
   ·exact I.ok.has x (.inr q)
 ·-- cab
  rcases cs x a (mem_of_lookup ha) with p | ⟨p,p1,_⟩
  ·rcases Y8 _ _ _ _ p with z | ⟨k',z1,z2,_⟩
   ·cases z
   ·have:=c.own (x,k') z1 z2
    have hx':own.contains x=true:=hx
    rw [hx'] at this;cases this
  ·exact Qv hCs (Q2 p1)
 ·exact Qu (Qr (hfl b hb) hCs)
 ·rcases cs x a (mem_of_lookup ha) with p | ⟨p,p1,_⟩
  ·exact (hf b hb).2.2.2.2.1 x a (old _ _ p)
  ·have q:@LT.lt Nat instLTNat b s.heap.objs.size:=hfl b hb
   exact fun z=>by subst z;omega
 ·-- noex
  have hb:b∈fp:=hb
  rcases (hf b hb).2.2.2.1 with z | z
  ·exact I.ok.noex b o e z
  ·have q1:@LT.lt Nat instLTNat b X.base.objs.size:=Qk e
   have:=I.ok.bsz
   omega
 ·have hb:b∈fp:=hb
  rcases Qc.mp (I.stkSub b hb2) with z | z
  ·exact (hf b hb).2.1 z
  ·exact (hf b hb).2.2.1 z
 ·-- loc
  have hiσ:i<σ.length:=by
   by_cases hi:i<σ.length
   ·exact hi
   ·rw [QW (by omega),Pv] at e2
    split at e2 <;> cases e2
  rw [QO hiσ] at e2
  have hiN:i<X.N.length:=by rw [<- I.len];exact hiσ
  have e1:N'[i]?=some x:=e1
  have vis:scope.names.lookup x≠none:=by
   have e3:Vis (relabel scope X.env) x:=e3
   unfold Vis at e3
   rcases e3 with z | z | z <;> (obtain ⟨k',q,_⟩:=Yd z;rw [q];simp)
  rcases c.nm i x hiN e1 with z | ⟨z1,z2⟩
  ·exact absurd z vis
  obtain ⟨m,hn,hl⟩:=I.loc
  have hfr:=c.free (x,.free) (mem_of_lookup z2) rfl
  obtain ⟨u,r,l⟩:=hl i x v z1 e2 (hfr.elim (fun q=>.inr (.inl q)) fun q=>.inr (.inr q))
  refine ⟨u,r,?_⟩
  rcases l with ⟨kk,_⟩ | ⟨kk,a,ea,ca⟩
  ·have kk:X.env.scope.names.lookup x=some .local:=kk
   rcases hfr with q | q
   ·have q:X.env.scope.names.lookup x=some .cell:=q
    rw [kk] at q;cases q
   ·have q:X.env.scope.names.lookup x=some .free:=q
    rw [kk] at q;cases q
  ·obtain ⟨k2,q1,q2⟩:=jD (env:=X.env) z2
   refine .inr ⟨?_,a,?_,?_⟩
   ·rcases q2 with q2 | ⟨_,q2⟩
    ·exact .inr (by subst q2;exact q1)
    ·exact .inl (by subst q2;exact q1)
   ·show (cellsFrom (h1.objs.size+1) scope.names (YB X.env scope.names [])).lookup x=some a
    rw [YC scope.names _ _ fun y hy hk e=>by
     have:=c.cel y hy hk
     rw [e,z2] at this;cases this]
    exact clOf_free (mem_of_lookup z2) ea
   ·exact (ca.keeps up1).keeps up
 ·-- cells
  rcases cs x a (mem_of_lookup ha) with p | ⟨p,p1,p2⟩
  ·obtain ⟨v,q⟩:=I.cell x a (old _ _ p)
   exact ⟨v,(q.keeps up1).keeps up⟩
  ·exact ⟨none,p2⟩
 ·exact hok1.fresh (Qh _)
 ·show (σ++List.replicate k none).length=N'.length
  rw [Qd,List.length_replicate,I.len,c.len]
theorem Un.but {fs ex:List Kc} {H H':Hp} {h h1 h2:Kl} {C:Kc} (u:Un fs ex H H' h h1) (hs:Heap.SameBut C h1 h2) (hC:h.objs.size<=C):Un fs ex H H' h h2:=by
 have ne:∀ b o,h.get? b=some o->b≠C:=fun b o e=>Qu (Qr (Qk e) hC)
 exact ⟨fun b o e n hb hx=>(hs.2 b (ne b o e)).trans (u.keep b o e n hb hx),fun b o e n hb hx=>by
   obtain ⟨sl,q⟩:=u.slot b o e n hb hx
   exact ⟨sl,(hs.2 b (ne b o e)).trans q⟩,u.free,fun b o e hx=>by
   obtain ⟨o',q⟩:=u.there b o e hx
   exact ⟨o',(hs.2 b (ne b o e)).trans q⟩,u.tups,u.frzs,u.tbls⟩
theorem HOk.but {P:Ki} {w:Kk} {H:Hp} {h h2:Kl} {C:Kc} (ok:HOk P w H h) (hs:Heap.SameBut C h h2) (hC:H C=none):HOk P w H h2:=fun b o e =>
 (ok b o e).stay (fun c v hc q=>(hs.2 c (by
  rintro rfl
  rcases hc with rfl | hc
  ·rw [hC] at e;cases e
  ·rw [hC] at hc;cases hc)).trans q) (fun _ q=>q) fun _ _ q=>q
theorem gz {elt target iter:Kv} {ifs:List Kv} {pos:KB} {g:TG} {tc:TT} {te:TE} (c:CompOk X scope own N' k) (hc:X.calm=true)
  (hg:∀ s₂ H₂ fp C,PG (ZC X scope own N' s₂ H₂ fp C) target g) (ht:∀ s₂ H₂ fp C,PF (ZC X scope own N' s₂ H₂ fp C) ifs tc) (he:∀ s₂ H₂ fp C,PE (ZC X scope own N' s₂ H₂ fp C) elt te)
  {KJ:List (Kc×KA)} {σ:St} {H:Hp} {s:Kb} {E:Ka->Kb->Prop} {Q:VK} {it:Kc} {fp:List Kc} {tn:Nat->Kl->Prop} {J:It} (I:Inv X KJ σ H s) (T:Wj X.prog X.w X.K target J fp it tn) (st:tn 0 s.heap) (hf:∀ b∈fp,JE X KJ H b)
  (hw:∀ D,H D=none->∃ W:Nat->Nat->List V->St->Hp->Prop,(∃ m,W 0 m [] (σ++List.replicate k none) (upd H D (.lst [])))/\∀ i m ys σ' H',W i m ys σ' H'->H' D=some (.lst ys) /\
   ((J.stop i H'/\Q (.ref D) H')\/(J.go i H'/\∀ x H2,J.yld i H' x H2->g x σ' H2 fun σ3 H3=>tc σ3 H3 fun b H4 =>
    if b=true then te σ3 H4 fun v H5=>H5 D=some (.lst ys)/\ys.length<Kg/\∃ m',m'<m/\W (i+1) m' (ys++[v]) σ3 (upd H5 D (.lst (ys++[v])))
    else ∃ m',m'<m/\W (i+1) m' ys σ3 H4)))
  {RR:Ka->Kc->Result->Kb->Prop}
  (hR:∀ D C σ' H' s',s.heap.objs.size<=C->Inv (ZC X scope own N' s H fp C) [] σ' H' s'->Q (.ref D) H'->RR (.ref D) C (.ok .next) s') :
  Ko (Ky X.prog X.w) X.A (newList []) (fun acc s₃=>Ko (Ky X.prog X.w) X.A (newFunctionEnv scope X.env.globals (YB X.env scope.names []) [] X.env.qual none .none (some X.env)) (fun cenv s₄ =>
   codeAny (Ky X.prog X.w) X.A (.compStart (.ListComp elt [⟨target,iter,ifs,0⟩] scope pos) 0 (.ref it) acc { cenv with scope:=relabel scope X.env }) (RR acc cenv.locals) s₄) E s₃) E s:=by
 have hfl:∀ b∈fp,b<s.heap.objs.size:=fun b hb=>by
  obtain ⟨o,e,_⟩:=T.obj 0 s.heap st b hb
  exact Qk e
 refine QU ?_
 have fr:H s.heap.objs.size=none:=I.hok.fresh (Qh _)
 have up1:∀ b o,s.heap.get? b=some o->(s.heap.push { cls:=.type "list",dict:=none,data:=.seq ([]:List Ka).toArray }).get? b=some o:=fun b o e=>Qb _ e
 have ok1:HOk X.prog X.w (upd H s.heap.objs.size (.lst [])) (s.heap.push { cls:=.type "list",dict:=none,data:=.seq ([]:List Ka).toArray }) :=
  I.hok.laid up1 (Qh _) ⟨Q4 _,[],0,.nil,Qp _ rfl⟩
 have un1:Un (frs X.stack) fp H (upd H s.heap.objs.size (.lst [])) s.heap (s.heap.push { cls:=.type "list",dict:=none,data:=.seq ([]:List Ka).toArray }):=Un.laid up1 (Qh _) fr
 have sz1:s.heap.objs.size<(s.heap.push { cls:=.type "list",dict:=none,data:=.seq ([]:List Ka).toArray }).objs.size:=by rw [QH];exact Q0 _
 generalize (s.heap.push { cls:=.type "list",dict:=none,data:=.seq ([]:List Ka).toArray })=h1 at up1 ok1 un1 sz1 ⊢
 refine newEnv_comp fun h' up ns cs ap=>?_
 dsimp only at up ns cs ap ⊢
 obtain ⟨W,⟨m0,w0⟩,turn⟩:=hw _ fr
 have I4:Inv (ZC X scope own N' s H fp h1.objs.size) [] (σ++List.replicate k none) (upd H s.heap.objs.size (.lst [])) { s with heap:=h' }:=inv_comp (t':=s.toks) c I hf hfl sz1 up1 fr un1 ok1 up ns cs ap
 have st4:tn 0 h':=T.keep 0 _ _ st fun b hb o e=>up b o (up1 b o e)
 have fr4:∀ b∈fp,(upd H s.heap.objs.size (.lst [])) b=none:=fun b hb=>by
  rw [zv (Qu (hfl b hb))];exact (hf b hb).1
 generalize ha:s.heap.objs.size=D at *
 have stat:∀ {H':Hp} ,(∀ b∈fp,H' b=none)->∀ b∈fp,JE (ZC X scope own N' s H fp h1.objs.size) [] H' b:=fun hn b hb=>⟨hn b hb,(I4.ok.exf b hb).1,I4.ok.exfs b hb,.inl hb,(I4.ok.exf b hb).2,fun p hp=>absurd (show p∈([]:List (Kc×KA)) from hp) (by simp)⟩
 have loop:codeAny (Ky X.prog X.w) X.A (.compLoop (.ListComp elt [⟨target,iter,ifs,0⟩] scope pos) 0 (.ref it) (.ref D) (ZC X scope own N' s H fp h1.objs.size).env) (RR (.ref D) h1.objs.size) { s with heap:=h' }:=by
  refine jS (fun n s'=>∃ i ys σ' H',Inv (ZC X scope own N' s H fp h1.objs.size) [] σ' H' s'/\tn i s'.heap/\(∀ b∈fp,H' b=none)/\W i n ys σ' H') ?_ m0 ⟨0,[],_,_,I4,st4,fr4,w0⟩
  rintro n s3 ⟨i,ys,σ3,H3,I3,st3,fr3,w3⟩
  obtain ⟨hD3,alt⟩:=turn i n ys σ3 H3 w3
  rcases alt with ⟨stop,qn⟩ | ⟨go,step⟩
  ·refine thn (T.done (ZC X scope own N' s H fp h1.objs.size) rfl rfl rfl hc i [] s3 σ3 H3 _ I3 (stat fr3) st3 stop) fun r s4 ⟨hr,I4'⟩=>?_
   subst hr
   exact hR D _ σ3 H3 s4 (Q2 sz1) I4' qn
  ·refine thn (T.item (ZC X scope own N' s H fp h1.objs.size) rfl rfl rfl hc i [] s3 σ3 H3 _ I3 (stat fr3) st3 go) fun r s4 ⟨u,hr,h4⟩=>?_
   subst hr
   refine thn h4 fun _ s5 ⟨x,H5,I5,r5,y5,st5,fr5⟩=>?_
   have I5':=I5.pinned (stat fr5) (T.obj _ _ st5)
   refine thn (hg s H fp h1.objs.size _ s5 σ3 H5 x u _ I5' r5 (step x H5 y5)) fun _ s6 ⟨σ6,H6,I6,q6⟩=>?_
   refine thn (ht s H fp h1.objs.size _ s6 σ6 H6 _ I6 q6) fun b s7 ⟨H7,I7,q7⟩=>?_
   have again:∀ {ys':List V} {σ8:St} {H8:Hp} {s8:Kb} {m':Nat},Inv (ZC X scope own N' s H fp h1.objs.size) ([]++WZ fp s5.heap) σ8 H8 s8->m'<n->W (i+1) m' ys' σ8 H8->∃ m,m<n/\∃ i ys σ' H',Inv (ZC X scope own N' s H fp h1.objs.size) [] σ' H' s8/\tn i s8.heap/\(∀ b∈fp,H' b=none)/\W i m ys σ' H':=fun {ys' σ8 H8 s8 m'} I8 hm w8=>by
    refine ⟨m',hm,i+1,ys',σ8,H8,I8.unpinned,T.keep _ _ _ st5 fun b hb o e=>(I8.pin (b,o) (QF _ (QF _ (jh hb e)))).1,fun b hb=>?_,w8⟩
    obtain ⟨o,e,d⟩:=T.obj _ _ st5 b hb
    exact (I8.pin (b,o) (QF _ (QF _ (jh hb e)))).2.1
   cases b with
   | false =>
    obtain ⟨m',hm,w7⟩:∃ m',m'<n/\W (i+1) m' ys σ6 H7:=q7
    exact again I7 hm w7
   | true =>
    show Ko _ _ (Kz elt (ZC X scope own N' s H fp h1.objs.size).env) _ _ s7
    refine thn (he s H fp h1.objs.size _ s7 σ6 H7 _ I7 q7) fun u8 s8 ⟨v8,H8,I8,r8,hD8,hz8,m',hm,w8⟩=>?_
    refine thn (Yw (X:=ZC X scope own N' s H fp h1.objs.size) _ s8 σ6 H8 (.ref D) [v8] (.ref D) [u8] (fun _ H9=>H9=upd H8 D (.lst (ys++[v8]))) I8 rfl (.cons r8 .nil) ⟨D,ys,v8,rfl,rfl,hD8,hz8,rfl⟩) fun _ s9 ⟨_,H9,I9,_,e9⟩=>?_
    subst e9
    exact again I9 hm w8
 exact codeAny_compStart_list loop (T.self _ 0 _ _ _ st4 loop)
theorem clos_ok (c:CompOk X scope own N' k) (hX:X.Ok):closureFor scope X.env=pure (YB X.env scope.names []):=closure_of fun x hx hk=>by
 rcases c.free x hx hk with q | q
 ·exact hX.has x.1 (.inl q)
 ·exact hX.has x.1 (.inr q)
theorem gI {KJ:List (Kc×KA)} {σ σ':St} {H H':Hp} {s s':Kb} {fp:List Kc} {C:Kc} {h2:Kl} (I:Inv X KJ σ H s) (hf:∀ b∈fp,JE X KJ H b) (hC:s.heap.objs.size<=C) (J:Inv (ZC X scope own N' s H fp C) [] σ' H' s') (hs:Heap.SameBut C s'.heap h2) :
  Inv X KJ σ H' { s' with heap:=h2 } :=
 I.call' (s':={ s' with heap:=h2 }) (ch:=fp) J.os (J.base.but hs hC) (J.hok.but hs J.free) J.bare fun b hb=>⟨(hf b hb).2.2.2.1,(hf b hb).2.1,(hf b hb).2.2.2.2.1,(hf b hb).2.2.2.2.2⟩
theorem pe_comp {elt target iter:Kv} {ifs:List Kv} {pos:KB} {wi:TI} {g:TG} {tc:TT} {te:TE} (c:CompOk X scope own N' k) (hc:X.calm=true) (hi:PI X target iter wi)
  (hg:∀ s₂ H₂ fp C,PG (ZC X scope own N' s₂ H₂ fp C) target g) (ht:∀ s₂ H₂ fp C,PF (ZC X scope own N' s₂ H₂ fp C) ifs tc) (he:∀ s₂ H₂ fp C,PE (ZC X scope own N' s₂ H₂ fp C) elt te)
  (hs:∀ x,foldedSetIterable iter X.env x=pure x:=by intro _;rfl):PE X (.ListComp elt [⟨target,iter,ifs,0⟩] scope pos) (wO k wi g tc te):=by
 intro KJ s σ H Q I h
 rw [eval_ListComp]
 refine wpAny_comprehension_free (use:=none) rfl hs (clos_ok c I.ok) c.kind c.loc ?_
 refine thn (hi KJ s σ H _ I h) fun v s1 h1=>thn h1 fun itv s2 h2=>?_
 obtain ⟨it,fp,tn,J,H2,e,I2,T,st2,f2,hw⟩:=h2
 subst e
 refine gz (RR:=fun acc C=>compPost (Ky X.prog X.w) X.A X.xe none (EP X KJ σ Q) acc C) c hc hg ht he I2 T st2 f2 hw ?_
 intro D C σ' H' s' hC J' q
 obtain ⟨m,hn,_⟩:=J'.loc
 exact ⟨m,hn,fun h2 hs2=>⟨.ref D,H',gI I2 f2 hC J' hs2,rfl,q⟩⟩
theorem ps_setComp {i:Nat} {x:Kw} {pos' spos:KB} {elt target iter:Kv} {ifs:List Kv} {pos:KB} {wi:TI} {g:TG} {tc:TT} {te:TE} (hN:X.N.Nodup) (hix:X.N[i]?=some x) (hx:X.env.scope.names.lookup x=some .local) (c:CompOk X scope own N' k) (hc:X.calm=true) (hi:PI X target iter wi)
  (hg:∀ s₂ H₂ fp C,PG (ZC X scope own N' s₂ H₂ fp C) target g) (ht:∀ s₂ H₂ fp C,PF (ZC X scope own N' s₂ H₂ fp C) ifs tc) (he:∀ s₂ H₂ fp C,PE (ZC X scope own N' s₂ H₂ fp C) elt te)
  (hsw:Kt (.ListComp elt [⟨target,iter,ifs,0⟩] scope pos) (some (.Name x pos')) spos.line X.env=pure true)
  (hs:∀ x,foldedSetIterable iter X.env x=pure x:=by intro _;rfl):PS X (.Assign [.Name x pos'] (.ListComp elt [⟨target,iter,ifs,0⟩] scope pos) spos) (yJ (wO k wi g tc te) (ZM i)):=by
 intro KJ s σ H Dn I h
 rw [exec_Assign_Name_used _ _ _ _ hsw]
 refine Qa (wpAny_standAt (Qa ?_))
 show Ko _ X.A (do let _ <- comprehension (.ListComp elt [⟨target,iter,ifs,0⟩] scope pos) scope X.env _ (newList []) false (Kz iter X.env) (some (assign (.Name x pos') X.env))) _ _ s
 refine Qa (thn (wpAny_comprehension_free (use:=some (assign (.Name x pos') X.env)) (Q:=fun _ s'=>SP X KJ Dn .next s') rfl hs (clos_ok c I.ok) c.kind c.loc ?_) fun _ s' hq=>Qf (Qf hq))
 refine thn (hi KJ s σ H _ I h) fun v s1 h1=>thn h1 fun itv s2 h2=>?_
 obtain ⟨it,fp,tn,J,H2,e,I2,T,st2,f2,hw⟩:=h2
 subst e
 refine gz (Q:=fun x H1=>ZM i x σ H1 Dn.nx) (RR:=fun acc C=>compPost (Ky X.prog X.w) X.A X.xe (some (assign (.Name x pos') X.env)) (fun _ s'=>SP X KJ Dn .next s') acc C) c hc hg ht he I2 T st2 f2 hw ?_
 intro D C σ' H' s' hC J' q
 obtain ⟨m,hn,_⟩:=J'.loc
 have I3:Inv X KJ σ H' s':=gI I2 f2 hC J' (.refl ..)
 show Ko _ X.A (assign (.Name x pos') X.env (.ref D)) _ _ _
 refine wpAny_assign_Name (store_ok2 (v:=.ref D) I3 hN hix (.inl hx) rfl (fun s4 I4 ⟨a,sb,ha⟩=>?_) (.inr hx))
 have hLa:a=X.env.locals\/X.env.cells.lookup x=some a:=ha
 have hlt:@LT.lt Nat instLTNat a s2.heap.objs.size:=by
  rcases hLa with z | z
  ·rw [z];exact I2.lt
  ·obtain ⟨v,q⟩:=I2.cell x a z
   exact q.lt
 have hne:C≠a:=by omega
 refine ⟨m,hn.sameBut sb hne,fun h2 hs2=>⟨_,H',?_,q⟩⟩
 have hpin:∀ p∈X.pn++KJ,p.1≠C:=fun p hp z=>by
  exact absurd (Qr (Qk (I2.pin p hp).1) hC) (by rw [z];exact Pd _)
 have hcell:∀ y a,X.env.cells.lookup y=some a->a≠C:=fun y a e z=>by
  obtain ⟨v,q⟩:=I2.cell y a e
  exact absurd (Qr q.lt hC) (by rw [z];exact Pd _)
 exact I4.turned (t':=s4.toks) (fun b o hb e=>(hs2.2 b hb).trans e) J'.free (fun z=>absurd (Qr I2.lt hC) (by rw [z];exact Pd _)) (.inr (Qv I2.sz hC)) hcell hpin
end
end L2
namespace L2
open PySem
def itCls:Bool->String
 | true=>"list_iterator"
 | false=>"tuple_iterator"
def Zn (k:Bool) (h:Kl) (it l:Kc) (i:Nat):Prop:=∃ o,h.get? it=some o/\o.cls=.type (itCls k)/\o.data=.fields #[.ref l,.int i 0]
def SeqAt:Bool->Kl->Kc->Array Ka->Prop
 | true,h,l,xs=>h.IsList l xs
 | false,h,l,xs=>h.IsTuple l xs
theorem Zn.at {k:Bool} {h h':Kl} {it l:Kc} {i:Nat} (x:Zn k h it l i) (e:∀ o,h.get? it=some o->h'.get? it=some o):Zn k h' it l i:=let ⟨o,ho,r⟩:=x;⟨o,e o ho,r⟩
theorem Zn.but {k:Bool} {h h':Kl} {it l b:Kc} {i:Nat} (x:Zn k h it l i) (e:Heap.ExtBut b h h') (n:it≠b):Zn k h' it l i:=x.at fun o q=>e it o n q
theorem SeqAt.at {k:Bool} {h h':Kl} {l:Kc} {xs:Array Ka} (x:SeqAt k h l xs) (e:∀ o,h.get? l=some o->h'.get? l=some o):SeqAt k h' l xs:=by
 cases k with
 | true=>obtain ⟨o,ho,r⟩:=x;exact ⟨o,e o ho,r⟩
 | false=>obtain ⟨o,ho,r⟩:=x;exact ⟨o,e o ho,r⟩
theorem SeqAt.but {k:Bool} {h h':Kl} {l b:Kc} {xs:Array Ka} (x:SeqAt k h l xs) (e:Heap.ExtBut b h h') (n:l≠b):SeqAt k h' l xs:=x.at fun o q=>e l o n q
theorem SeqAt.lt {k:Bool} {h:Kl} {l:Kc} {xs:Array Ka} (x:SeqAt k h l xs):l<h.objs.size:=by
 cases k with
 | true=>obtain ⟨o,ho,r⟩:=x;exact Qk ho
 | false=>obtain ⟨o,ho,r⟩:=x;exact Qk ho
section
variable {prog:Ki} {w:Kk} {A:Kj} {E:Ka->Kb->Prop} {s:Kb}
theorem We {it t:Kc} {i:Nat} {xs:Array Ka} {x:Ka} {Q:Ka->Kb->Prop} (hi:s.heap.IsTupleIter it t i) (hl:s.heap.IsTuple t xs) (hx:xs[i]?=some x)
  (hQ:∀ h',h'.IsTupleIter it t (i+1)->Heap.SameBut it s.heap h'->Q x { s with heap:=h' }):Ko (Ky prog w) A (Builtin.SmallTypes.nextOf (.ref it)) Q E s:=by
 obtain ⟨o,ho,hc,hd⟩:=id hi
 obtain ⟨ot,hot,_,nt,hdt⟩:=hl
 unfold Builtin.SmallTypes.nextOf
 refine Qa (QR (name:=Str.ofString "__next__") hi.typeIs F.slot_tuple_iterator_next (QQ F.slot_tuple_iterator_next hi.typeIs F.entry_tuple_iterator_next ?_ (F.args_tuple_iterator_next_1 _)))
 show Ko _ _ (field (.ref it) 0 >>= _) _ _ s;refine Qa (QD ho hd (x:=.ref t) rfl ?_)
 show Ko _ _ (if (Value.ref t == Value.none)=true then _ else _) _ _ s;rw [KR (show ¬ ((Value.ref t == Value.none)=true) from Qi)]
 show Ko _ _ (field (.ref it) 1 >>= _) _ _ s;refine Qa (QD ho hd (x:=.int i 0) rfl ?_)
 show Ko _ _ (seqItems? (.ref t) >>= _) _ _ s;refine Qa (QT hot hdt ?_)
 simp only [Q9,hx]
 refine Qa (wpAny_setField ho hd (by simp) (Qf ⟨x,rfl,Qf (hQ _ ?_ (Heap.SameBut.update ..))⟩))
 exact ⟨_,QZ _ ho (Obj.isFreed_of_fields (Obj.data_mapFields hd _)),(Obj.cls_mapFields ..).trans hc,by rw [Obj.data_mapFields hd];simp [rawInt]⟩
theorem W4 {it t:Kc} {i:Nat} {xs:Array Ka} {Q:Ka->Kb->Prop} (hh:A.handled=none) (hi:s.heap.IsTupleIter it t i) (hl:s.heap.IsTuple t xs) (hx:xs[i]?=none)
  (hE:∀ h' e,Heap.ExtBut it s.heap h'->(∃ o,h'.get? e=some o/\o.cls=.type "StopIteration")->E (.ref e) { s with heap:=h' }):Ko (Ky prog w) A (Builtin.SmallTypes.nextOf (.ref it)) Q E s:=by
 obtain ⟨o,ho,hc,hd⟩:=id hi
 obtain ⟨ot,hot,_,nt,hdt⟩:=hl
 unfold Builtin.SmallTypes.nextOf
 refine Qa (QR (name:=Str.ofString "__next__") hi.typeIs F.slot_tuple_iterator_next (QQ F.slot_tuple_iterator_next hi.typeIs F.entry_tuple_iterator_next ?_ (F.args_tuple_iterator_next_1 _)))
 show Ko _ _ (field (.ref it) 0 >>= _) _ _ s;refine Qa (QD ho hd (x:=.ref t) rfl ?_)
 show Ko _ _ (if (Value.ref t == Value.none)=true then _ else _) _ _ s;rw [KR (show ¬ ((Value.ref t == Value.none)=true) from Qi)]
 show Ko _ _ (field (.ref it) 1 >>= _) _ _ s;refine Qa (QD ho hd (x:=.int i 0) rfl ?_)
 show Ko _ _ (seqItems? (.ref t) >>= _) _ _ s;refine Qa (QT hot hdt ?_)
 simp only [Q9,hx]
 refine Qa (PP (Qa (wpAny_setField ho hd (by simp) ?_)))
 show Ko _ _ (newExc (.type "StopIteration") [] >>= _) _ _ _;refine Qa ?_
 simp only [newExc,newTuple];refine Qa (QU ?_ (by size_fits))
 refine Qa (m:=firstArgMember _ _) (wpAny_of_eq (a:=Value.none) (by first | rfl | (simp only [firstArgMember];rfl)) ?_);refine QU ?_ (by size_fits)
 simp only [raiseNew];refine Qa (wpAny_handled ?_);first | rw [show A.in1.handled=none from hh] | rw [hh]
 refine Qa (Qf (wpAny_throw ?_));exact hE _ _ (((Heap.SameBut.update ..).extBut.push _).push _) ⟨_,Qp _ rfl,rfl⟩
theorem yV {k:Bool} {it l:Kc} {i:Nat} {xs:Array Ka} {x:Ka} {Q:Ka->Kb->Prop} (hi:Zn k s.heap it l i) (hl:SeqAt k s.heap l xs) (hx:xs[i]?=some x)
  (hQ:∀ h',Zn k h' it l (i+1)->Heap.SameBut it s.heap h'->Q x { s with heap:=h' }):Ko (Ky prog w) A (Builtin.SmallTypes.nextOf (.ref it)) Q E s:=by
 cases k with
 | true=>exact wpAny_nextOf_list_item hi hl hx hQ
 | false=>exact We hi hl hx hQ
theorem jf {k:Bool} {it l:Kc} {i:Nat} {xs:Array Ka} {Q:Ka->Kb->Prop} (hh:A.handled=none) (hi:Zn k s.heap it l i) (hl:SeqAt k s.heap l xs) (hx:xs[i]?=none)
  (hE:∀ h' e,Heap.ExtBut it s.heap h'->(∃ o,h'.get? e=some o/\o.cls=.type "StopIteration")->E (.ref e) { s with heap:=h' }):Ko (Ky prog w) A (Builtin.SmallTypes.nextOf (.ref it)) Q E s:=by
 cases k with
 | true=>exact wpAny_nextOf_list_end hh hi hl hx hE
 | false=>exact W4 hh hi hl hx hE
def itObj (k:Bool) (l:Kc):KA:={ cls:=.type (itCls k),data:=.fields #[.ref l,.int 0 0] }
theorem WW {k:Bool} {l:Kc} {xs:Array Ka} {Q:Ka->Kb->Prop} (hl:SeqAt k s.heap l xs) (hQ:Q (.ref s.heap.objs.size) { s with heap:=s.heap.push (itObj k l) }):Ko (Ky prog w) A (pyIter (.ref l)) Q E s:=by
 cases k with
 | true=>exact wpAny_pyIter_list hl hQ
 | false=>exact P4 hl hQ
structure ZApart (z TI TO i1 i2:Kc):Prop where
 TIz:TI≠z
 TOz:TO≠z
 i1z:i1≠z
 i2z:i2≠z
 TITO:TI≠TO
 TIi1:TI≠i1
 TIi2:TI≠i2
 TOi1:TO≠i1
 TOi2:TO≠i2
 i12:i1≠i2
def J7 (z TI TO i1 i2 l:Kc):Prop:=l≠z/\l≠TO/\l≠i1/\l≠i2
variable {z TI TO i1 i2 l1 l2:Kc} {j1 j2:Bool} {k1 k2:Nat} {xs ys:Array Ka} {x y a b:Ka}
theorem zipn_item {Q:Ka->Kb->Prop} (D:ZApart z TI TO i1 i2) (n1:J7 z TI TO i1 i2 l1) (n2:J7 z TI TO i1 i2 l2) (hz:IsZip s.heap z TI TO .none) (hTI:IsPair s.heap TI (.ref i1) (.ref i2)) (hTO:IsPair s.heap TO a b)
  (h1:Zn j1 s.heap i1 l1 k1) (h2:Zn j2 s.heap i2 l2 k2) (hl1:SeqAt j1 s.heap l1 xs) (hl2:SeqAt j2 s.heap l2 ys) (hx:xs[k1]?=some x) (hy:ys[k2]?=some y)
  (hQ:∀ h',IsZip h' z TI TO (rawInt s.heap.objs.size)->IsPair h' TO x y->Zn j1 h' i1 l1 (k1+1)->Zn j2 h' i2 l2 (k2+1)->IsPair h' s.heap.objs.size x y->h'.objs.size=s.heap.objs.size+1 ->
   (∀ c o,c≠z->c≠TO->c≠i1->c≠i2->s.heap.get? c=some o->h'.get? c=some o)->Q (.ref s.heap.objs.size) { s with heap:=h' }) :
  Ko (Ky prog w) A (Builtin.«zip.__next__» ⟨[.ref z],[]⟩) (fun fin s'=>∃ v,fin=.done (.ret v)/\Q v s') E s:=by
 obtain ⟨p1,p2,p3,p4⟩:=n1
 obtain ⟨q1,q2,q3,q4⟩:=n2
 show Ko _ _ (field (.ref z) 2 >>= _) _ _ _;refine Qa (QD hz rfl (x:=.bool false) rfl ?_)
 show Ko _ _ (field (.ref z) 3 >>= _) _ _ _;refine Qa (QD hz rfl (x:=.ref TI) rfl ?_)
 refine Qa (QT hTI rfl ?_)
 show Ko _ _ (Builtin.SmallTypes.ownedTupleIsFree (.ref z) >>= _) _ _ _;refine Qa ?_
 unfold Builtin.SmallTypes.ownedTupleIsFree
 refine Qa (QD hz rfl (x:=.none) rfl (Qf ?_))
 simp only [if_true]
 refine Qa (PP ?_)
 refine Qa (QD hz rfl (x:=.ref TO) rfl ?_)
 refine Qa (Q6 hz (by simp) fun g1 hz1 s1=>?_)
 replace hz1:IsZip g1 z TI TO .ellipsis:=hz1
 refine Qa ?_
 simp only [List.zipIdx_cons,List.zipIdx_nil,PJ,PL]
 refine Qa (Qa (P1 ?_))
 show Ko _ _ (Builtin.SmallTypes.nextOf (.ref i1) >>= _) _ _ _
 refine Qa (yV (h1.but s1.extBut D.i1z) (hl1.but s1.extBut p1) hx fun g2 u2 s2=>Qf ?_)
 have t2:IsPair g2 TO a b:=s2.extBut _ _ D.TOi1 (s1.extBut _ _ D.TOz hTO)
 refine Qa (QT t2 rfl ?_)
 refine Qa (PV t2 fun g3 t3 s3=>?_)
 replace t3:IsPair g3 TO x b:=t3
 refine Qa (wpAny_letGo (Qf ?_))
 refine Qa (Qa (P1 ?_))
 show Ko _ _ (Builtin.SmallTypes.nextOf (.ref i2) >>= _) _ _ _
 refine Qa (yV (((h2.but s1.extBut D.i2z).but s2.extBut D.i12.symm).but s3.extBut D.TOi2.symm) (((hl2.but s1.extBut q1).but s2.extBut q3).but s3.extBut q2) hy fun g4 u4 s4=>Qf ?_)
 have t4:IsPair g4 TO x b:=s4.extBut _ _ D.TOi2 t3
 refine Qa (QT t4 rfl ?_)
 refine Qa (PV t4 fun g5 t5 s5=>?_)
 replace t5:IsPair g5 TO x y:=t5
 refine Qa (wpAny_letGo (Qf (Qf ?_)))
 refine Qa (QT t5 rfl ?_)
 refine Qa (wpAny_newTuple ?_)
 have sz:g5.objs.size=s.heap.objs.size:=by rw [s5.1,s4.1,s3.1,s2.1,s1.1]
 have hz5:IsZip g5 z TI TO .ellipsis:=s5.extBut _ _ D.TOz.symm (s4.extBut _ _ D.i2z.symm (s3.extBut _ _ D.TOz.symm (s2.extBut _ _ D.i1z.symm hz1)))
 have k5:∀ c o,c≠z->c≠TO->c≠i1->c≠i2->s.heap.get? c=some o->g5.get? c=some o:=fun c o c1 c2 c3 c4 e=>s5.extBut _ _ c2 (s4.extBut _ _ c4 (s3.extBut _ _ c2 (s2.extBut _ _ c3 (s1.extBut _ _ c1 e))))
 have v1:Zn j1 g5 i1 l1 (k1+1):=((u2.but s3.extBut D.TOi1.symm).but s4.extBut D.i12).but s5.extBut D.TOi1.symm
 have v2:Zn j2 g5 i2 l2 (k2+1):=u4.but s5.extBut D.TOi2.symm
 have zlt:z<g5.objs.size:=Qk hz5
 show Ko _ _ (Builtin.SmallTypes.ownedTupleHandOut (.ref z) (.ref g5.objs.size) >>= _) _ _ _;refine Qa ?_
 unfold Builtin.SmallTypes.ownedTupleHandOut
 have hz6:IsZip (g5.push { cls:=.type "tuple",data:=.seq #[x,y] }) z TI TO .ellipsis:=Qb _ hz5
 refine Qa (Q6 hz6 (by simp) fun g7 hz7 s7=>?_)
 replace hz7:IsZip g7 z TI TO (rawInt g5.objs.size):=hz7
 refine Q6 hz7 (by simp) fun g8 hz8 s8=>?_
 replace hz8:IsZip g8 z TI TO (rawInt g5.objs.size):=hz8
 have up:∀ c o,c≠z->g5.get? c=some o->g8.get? c=some o:=fun c o c1 e=>s8.extBut _ _ c1 (s7.extBut _ _ c1 (Qb _ e))
 have T8:IsPair g8 g5.objs.size x y:=s8.extBut _ _ (QC zlt) (s7.extBut _ _ (QC zlt) (Qp _ rfl))
 have e8:g8.objs.size=g5.objs.size+1:=by rw [s8.1,s7.1,QH]
 rw [sz] at hz8 T8 e8
 refine Qf ⟨_,rfl,?_⟩
 show Q (.ref g5.objs.size) _
 rw [sz]
 exact hQ g8 hz8 (up _ _ D.TOz t5) (v1.at fun o e=>up _ o D.i1z e) (v2.at fun o e=>up _ o D.i2z e) T8 e8 fun c o c1 c2 c3 c4 e=>up c o c1 (k5 c o c1 c2 c3 c4 e)
theorem zipn_end {Q:Fin->Kb->Prop} (hh:A.handled=none) (D:ZApart z TI TO i1 i2) (n1:J7 z TI TO i1 i2 l1) (n2:J7 z TI TO i1 i2 l2) (hz:IsZip s.heap z TI TO .none) (hTI:IsPair s.heap TI (.ref i1) (.ref i2)) (hTO:IsPair s.heap TO a b)
  (h1:Zn j1 s.heap i1 l1 k1) (h2:Zn j2 s.heap i2 l2 k2) (hl1:SeqAt j1 s.heap l1 xs) (hl2:SeqAt j2 s.heap l2 ys) (hend:xs[k1]?=none\/ys[k2]?=none)
  (hE:∀ h' e,(∀ c o,c≠z->c≠TO->c≠i1->c≠i2->s.heap.get? c=some o->h'.get? c=some o)->(∃ o,h'.get? e=some o/\o.cls=.type "StopIteration")->E (.ref e) { s with heap:=h' }) :
  Ko (Ky prog w) A (Builtin.«zip.__next__» ⟨[.ref z],[]⟩) Q E s:=by
 obtain ⟨p1,p2,p3,p4⟩:=n1
 obtain ⟨q1,q2,q3,q4⟩:=n2
 show Ko _ _ (field (.ref z) 2 >>= _) _ _ _;refine Qa (QD hz rfl (x:=.bool false) rfl ?_)
 show Ko _ _ (field (.ref z) 3 >>= _) _ _ _;refine Qa (QD hz rfl (x:=.ref TI) rfl ?_)
 refine Qa (QT hTI rfl ?_)
 show Ko _ _ (Builtin.SmallTypes.ownedTupleIsFree (.ref z) >>= _) _ _ _;refine Qa ?_
 unfold Builtin.SmallTypes.ownedTupleIsFree
 refine Qa (QD hz rfl (x:=.none) rfl (Qf ?_))
 simp only [if_true]
 refine Qa (PP ?_)
 refine Qa (QD hz rfl (x:=.ref TO) rfl ?_)
 refine Qa (Q6 hz (by simp) fun g1 hz1 s1=>?_)
 replace hz1:IsZip g1 z TI TO .ellipsis:=hz1
 refine Qa ?_
 simp only [List.zipIdx_cons,List.zipIdx_nil,PJ,PL]
 refine Qa (Qa (P1 ?_))
 show Ko _ _ (Builtin.SmallTypes.nextOf (.ref i1) >>= _) _ _ _
 cases hx:xs[k1]? with
 | none =>
  refine Qa (jf hh (h1.but s1.extBut D.i1z) (hl1.but s1.extBut p1) hx fun g2 e s2 he=>?_)
  obtain ⟨oe,hoe,hce⟩:=he
  have hz2:IsZip g2 z TI TO .ellipsis:=s2 _ _ D.i1z.symm hz1
  have ez:e≠z:=fun x=>by subst x;rw [hz2] at hoe;cases hoe;simp at hce
  exact Q6 hz2 (by simp) fun g3 _ s3=>hE g3 e (fun c o c1 _ c3 _ x=>s3.extBut _ _ c1 (s2 _ _ c3 (s1.extBut _ _ c1 x))) ⟨oe,s3.extBut _ _ ez hoe,hce⟩
 | some x =>
  have hy:ys[k2]?=none:=by rcases hend with h | h;rw [hx] at h;cases h;exact h
  refine Qa (yV (h1.but s1.extBut D.i1z) (hl1.but s1.extBut p1) hx fun g2 u2 s2=>Qf ?_)
  have t2:IsPair g2 TO a b:=s2.extBut _ _ D.TOi1 (s1.extBut _ _ D.TOz hTO)
  refine Qa (QT t2 rfl ?_)
  refine Qa (PV t2 fun g3 t3 s3=>?_)
  refine Qa (wpAny_letGo (Qf ?_))
  refine Qa (Qa (P1 ?_))
  show Ko _ _ (Builtin.SmallTypes.nextOf (.ref i2) >>= _) _ _ _
  refine Qa (jf hh (((h2.but s1.extBut D.i2z).but s2.extBut D.i12.symm).but s3.extBut D.TOi2.symm) (((hl2.but s1.extBut q1).but s2.extBut q3).but s3.extBut q2) hy fun g4 e s4 he=>?_)
  obtain ⟨oe,hoe,hce⟩:=he
  have hz4:IsZip g4 z TI TO .ellipsis:=s4 _ _ D.i2z.symm (s3.extBut _ _ D.TOz.symm (s2.extBut _ _ D.i1z.symm hz1))
  have ez:e≠z:=fun x=>by subst x;rw [hz4] at hoe;cases hoe;simp at hce
  exact Q6 hz4 (by simp) fun g5 _ s5=>hE g5 e (fun c o c1 c2 c3 c4 x=>s5.extBut _ _ c1 (s4 _ _ c4 (s3.extBut _ _ c2 (s2.extBut _ _ c3 (s1.extBut _ _ c1 x))))) ⟨oe,s5.extBut _ _ ez hoe,hce⟩
theorem jp {Q:Option Ka->Kb->Prop} (D:ZApart z TI TO i1 i2) (n1:J7 z TI TO i1 i2 l1) (n2:J7 z TI TO i1 i2 l2) (hz:IsZip s.heap z TI TO .none) (hTI:IsPair s.heap TI (.ref i1) (.ref i2)) (hTO:IsPair s.heap TO a b)
  (h1:Zn j1 s.heap i1 l1 k1) (h2:Zn j2 s.heap i2 l2 k2) (hl1:SeqAt j1 s.heap l1 xs) (hl2:SeqAt j2 s.heap l2 ys) (hx:xs[k1]?=some x) (hy:ys[k2]?=some y)
  (hQ:∀ h',IsZip h' z TI TO (rawInt s.heap.objs.size)->IsPair h' TO x y->Zn j1 h' i1 l1 (k1+1)->Zn j2 h' i2 l2 (k2+1)->IsPair h' s.heap.objs.size x y->h'.objs.size=s.heap.objs.size+1 ->
   (∀ c o,c≠z->c≠TO->c≠i1->c≠i2->s.heap.get? c=some o->h'.get? c=some o)->Q (some (.ref s.heap.objs.size)) { s with heap:=h' }):Ko (Ky prog w) A (pyNext (.ref z)) Q E s:=by
 have hT:s.TypeIs (.ref z) "zip":=⟨_,hz,rfl⟩
 unfold pyNext
 exact Qa (P3 (QR (name:=Str.ofString "__next__") hT F.slot_zip_next (QQ F.slot_zip_next hT F.entry_zip_next
  (zipn_item D n1 n2 hz hTI hTO h1 h2 hl1 hl2 hx hy fun h' a1 a2 a3 a4 a5 a6 a7=>Qf (hQ h' a1 a2 a3 a4 a5 a6 a7)) (F.args_zip_next_1 _))))
theorem jE {Q:Option Ka->Kb->Prop} (hh:A.handled=none) (D:ZApart z TI TO i1 i2) (n1:J7 z TI TO i1 i2 l1) (n2:J7 z TI TO i1 i2 l2) (hz:IsZip s.heap z TI TO .none) (hTI:IsPair s.heap TI (.ref i1) (.ref i2)) (hTO:IsPair s.heap TO a b)
  (h1:Zn j1 s.heap i1 l1 k1) (h2:Zn j2 s.heap i2 l2 k2) (hl1:SeqAt j1 s.heap l1 xs) (hl2:SeqAt j2 s.heap l2 ys) (hend:xs[k1]?=none\/ys[k2]?=none)
  (hQ:∀ h',(∀ c o,c≠z->c≠TO->c≠i1->c≠i2->s.heap.get? c=some o->h'.get? c=some o)->Q none { s with heap:=h' }):Ko (Ky prog w) A (pyNext (.ref z)) Q E s:=by
 have hT:s.TypeIs (.ref z) "zip":=⟨_,hz,rfl⟩
 unfold pyNext
 refine Qa (P3 (QR (name:=Str.ofString "__next__") hT F.slot_zip_next (QQ F.slot_zip_next hT F.entry_zip_next (zipn_end hh D n1 n2 hz hTI hTO h1 h2 hl1 hl2 hend fun h' e hk he=>?_) (F.args_zip_next_1 _))))
 obtain ⟨o,ho,hc⟩:=he
 refine Qa (wpAny_isInstance (T:="StopIteration") (b:=true) ⟨o,ho,hc⟩ isSubtype_stop ?_)
 exact Qf (hQ _ hk)
end
abbrev zH1 (j:Bool) (h:Kl) (l1:Kc):Kl:=h.push (itObj j l1)
abbrev zH2 (j1 j2:Bool) (h:Kl) (l1 l2:Kc):Kl:=(zH1 j1 h l1).push (itObj j2 l2)
abbrev zH3 (j1 j2:Bool) (h:Kl) (l1 l2:Kc):Kl:=(zH2 j1 j2 h l1 l2).push { cls:=.type "tuple",data:=.seq #[.ref h.objs.size,.ref (zH1 j1 h l1).objs.size] }
abbrev zH4 (j1 j2:Bool) (h:Kl) (l1 l2:Kc):Kl:=(zH3 j1 j2 h l1 l2).push { cls:=.type "tuple",data:=.seq #[.none,.none] }
abbrev zH5 (j1 j2:Bool) (h:Kl) (l1 l2:Kc):Kl:=(zH4 j1 j2 h l1 l2).push { cls:=.type "zip",data:=.fields #[.none,.bool false,.bool false,.ref (zH2 j1 j2 h l1 l2).objs.size,.ref (zH3 j1 j2 h l1 l2).objs.size] }
theorem zip_new (j1 j2:Bool) (l1 l2:Kc) (xs ys:Array Ka) :
  Meets (Builtin.«zip.__new__» ⟨[.type "zip",.ref l1,.ref l2],[]⟩) (fun _ R s=>SeqAt j1 s.heap l1 xs/\SeqAt j2 s.heap l2 ys/\R (.ok (.ret (.ref (zH4 j1 j2 s.heap l1 l2).objs.size))) { s with heap:=zH5 j1 j2 s.heap l1 l2 }) :=
 .of_wp fun prog w A R s h=>by
  obtain ⟨hp,g,d,tk,os⟩:=s
  obtain ⟨hl1,hl2,h⟩:=h
  have hsub:=sub_zip
  have L1:SeqAt j1 (Shared.heap ⟨hp,g,d,tk,os⟩) l1 xs:=hl1
  have L2:SeqAt j2 (Shared.heap ⟨hp.push (itObj j1 l1),g,d,tk,os⟩) l2 ys:=hl2.at fun o e=>Qb _ e
  wp_walk using WW L1,WW L2
  exact ⟨_,rfl,h⟩
section
variable {prog:Ki} {w:Kk} {A:Kj} {E:Ka->Kb->Prop} {s:Kb}
theorem J6 {j1 j2:Bool} {l1 l2:Kc} {xs ys:Array Ka} {Q:Ka->Kb->Prop} (hl1:SeqAt j1 s.heap l1 xs) (hl2:SeqAt j2 s.heap l2 ys)
  (h:∀ h',IsZip h' (s.heap.objs.size+4) (s.heap.objs.size+2) (s.heap.objs.size+3) .none->IsPair h' (s.heap.objs.size+2) (.ref s.heap.objs.size) (.ref (s.heap.objs.size+1)) ->
   IsPair h' (s.heap.objs.size+3) .none .none->Zn j1 h' s.heap.objs.size l1 0->Zn j2 h' (s.heap.objs.size+1) l2 0->h'.objs.size=s.heap.objs.size+5 ->
   (∀ c o,s.heap.get? c=some o->h'.get? c=some o)->Q (.ref (s.heap.objs.size+4)) { s with heap:=h' }):Ko (Ky prog w) A (call (.type "zip") [.ref l1,.ref l2]) Q E s:=by
 refine callType_new F.called_zip (by decide) (F.typeCall_zip_2 _ _) (F.newCall_zip_2 _ _) (fun obj=>F.args_object_init_3 obj _ _) F.entry_zip_new (zip_new j1 j2 l1 l2 xs ys) ⟨hl1,hl2,?_⟩
 have z1:(zH1 j1 s.heap l1).objs.size=s.heap.objs.size+1:=QH ..
 have z2:(zH2 j1 j2 s.heap l1 l2).objs.size=s.heap.objs.size+2:=by rw [QH,z1]
 have z3:(zH3 j1 j2 s.heap l1 l2).objs.size=s.heap.objs.size+3:=by rw [QH,z2]
 have z4:(zH4 j1 j2 s.heap l1 l2).objs.size=s.heap.objs.size+4:=by rw [QH,z3]
 have z5:(zH5 j1 j2 s.heap l1 l2).objs.size=s.heap.objs.size+5:=by rw [QH,z4]
 have g5:(zH5 j1 j2 s.heap l1 l2).get? (zH4 j1 j2 s.heap l1 l2).objs.size=some _:=Qp _ rfl
 have g4:(zH5 j1 j2 s.heap l1 l2).get? (zH3 j1 j2 s.heap l1 l2).objs.size=some _:=Qb _ (Qp _ rfl)
 have g3:(zH5 j1 j2 s.heap l1 l2).get? (zH2 j1 j2 s.heap l1 l2).objs.size=some _:=Qb _ (Qb _ (Qp _ rfl))
 have g2:(zH5 j1 j2 s.heap l1 l2).get? (zH1 j1 s.heap l1).objs.size=some (itObj j2 l2):=Qb _ (Qb _ (Qb _ (Qp _ rfl)))
 have g1:(zH5 j1 j2 s.heap l1 l2).get? s.heap.objs.size=some (itObj j1 l1):=Qb _ (Qb _ (Qb _ (Qb _ (Qp _ rfl))))
 show _/\_
 rw [z2,z3,z4] at g5
 rw [z1,z2] at g3
 rw [z3] at g4
 rw [z1] at g2
 rw [z4]
 exact ⟨⟨_,g5,rfl⟩,h _ g5 g3 g4 ⟨_,g1,rfl,rfl⟩ ⟨_,g2,rfl,rfl⟩ z5 fun c o x=>Qb _ (Qb _ (Qb _ (Qb _ (Qb _ x))))⟩
end
end L2
namespace L2
open PySem
open AutoSeq1 (wpAny_loadPart')
section
variable {prog:Ki} {w:Kk} {A:Kj} {E:Ka->Kb->Prop} {s:Kb}
end
end L2
namespace L2
open PySem PySem.Spec PyProof.Rows
def Sq (k:Bool) (K:KC) (H:Hp) (a:Kc) (xs:List V):Prop:=match k with | true=>SqL K H a xs | false=>SqT K H a xs
theorem Inv.seq {X:Cx} {KJ:List (Kc×KA)} {σ:St} {H:Hp} {s:Kb} {k:Bool} {a:Kc} {xs:List V} (I:Inv X KJ σ H s) (h:Sq k X.K H a xs):∃ KP:List Ka,zY xs KP/\SeqAt k s.heap a KP.toArray/\xs.length<=Kg:=by
 cases k with
 | true=>obtain ⟨KP,r,p,z⟩:=I.list h;exact ⟨KP,r,p.isList,z⟩
 | false=>obtain ⟨KP,r,p,z⟩:=I.tuple h;exact ⟨KP,r,p,z⟩
theorem Inv.seq_inj {X:Cx} {KJ:List (Kc×KA)} {σ:St} {H:Hp} {s:Kb} {k:Bool} {a:Kc} {xs ys:List V} (I:Inv X KJ σ H s) (h:Sq k X.K H a xs) (h':Sq k X.K H a ys):xs=ys:=by
 cases k with
 | true=>exact I.list_inj h h'
 | false=>exact I.tuple_inj h h'
def Itz (j1 j2:Bool) (K:KC) (a b:Kc):It :=
  ⟨fun i H=>∃ xs ys x y,Sq j1 K H a xs/\Sq j2 K H b ys/\xs[i]?=some x/\ys[i]?=some y,
   fun i H v H'=>∃ p x y,v=.ref p/\H p=none/\H'=upd H p (.tup [x,y])/\(∀ xs,Sq j1 K H a xs->xs[i]?=some x)/\∀ ys,Sq j2 K H b ys->ys[i]?=some y,
   fun i H=>∃ xs ys,Sq j1 K H a xs/\Sq j2 K H b ys/\(xs.length<=i\/ys.length<=i)⟩
def tnZip (j1 j2:Bool) (z TI TO i1 i2 l1 l2:Kc) (i:Nat) (h:Kl):Prop:=IsZip h z TI TO .none/\IsPair h TI (.ref i1) (.ref i2)/\(∃ a b,IsPair h TO a b)/\Zn j1 h i1 l1 i/\Zn j2 h i2 l2 i
theorem Ja {X:Cx} {KJ:List (Kc×KA)} {σ:St} {H:Hp} {s:Kb} {k:Bool} {a b:Kc} {xs:List V} (I:Inv X KJ σ H s) (h:Sq k X.K H a xs) (hb:JE X KJ H b):a≠b:=by
 intro e
 subst e
 obtain ⟨h0,h1,h2,h3,h4,h5⟩:=hb
 have key:∀ u,Rd H a u->False:=fun u r=>by
  rcases r with r | ⟨o,r⟩ <;> (rw [h0] at r;cases r)
 have mod:∀ o,X.K.lookup a=some o->False:=fun o e=>by
  obtain ⟨o',e',_⟩:∃ o',X.base.get? a=some o'/\True:=⟨_,I.ok.mod.kin a o e,trivial⟩
  rcases h3 with z | z
  ·exact I.ok.noex a o' e' z
  ·have q1:@LT.lt Nat instLTNat a X.base.objs.size:=Qk e'
   have:=I.ok.bsz
   omega
 cases k with
 | true =>
  rcases h with h | ⟨o,_,_,e,_⟩
  ·exact key _ h
  ·exact mod o e
 | false =>
  rcases h with h | ⟨o,_,_,e,_⟩
  ·exact key _ h
  ·exact mod o e
theorem turn_zip {P:Ki} {w:Kk} {K:KC} {elts:List Kv} {kk:Nat} {pp:KB} {j1 j2:Bool} {z TI TO i1 i2 l1 l2:Kc} (D:ZApart z TI TO i1 i2) :
  Wj P w K (.Tuple elts kk pp) (Itz j1 j2 K l1 l2) [z,TI,TO,i1,i2] z (tnZip j1 j2 z TI TO i1 i2 l1 l2) where
 mem:=by simp
 obj:=fun i h st b hb=>by
  obtain ⟨a1,a2,⟨_,_,a3⟩,⟨o4,a4,_,d4⟩,⟨o5,a5,_,d5⟩⟩:=st
  simp only [Qc,Qn,or_false] at hb
  rcases hb with rfl | rfl | rfl | rfl | rfl
  ·exact ⟨_,a1,fun v q=>by cases (show Data.fields _=Data.cell v from q)⟩
  ·exact ⟨_,a2,fun v q=>by cases (show Data.seq _ _=Data.cell v from q)⟩
  ·exact ⟨_,a3,fun v q=>by cases (show Data.seq _ _=Data.cell v from q)⟩
  ·exact ⟨_,a4,fun v q=>by rw [d4] at q;cases q⟩
  ·exact ⟨_,a5,fun v q=>by rw [d5] at q;cases q⟩
 keep:=fun i h h' st k=>by
  obtain ⟨a1,a2,⟨a,b,a3⟩,a4,a5⟩:=st
  exact ⟨k z (by simp) _ a1,k TI (by simp) _ a2,⟨a,b,k TO (by simp) _ a3⟩,a4.at fun o e=>k i1 (by simp) o e,a5.at fun o e=>k i2 (by simp) o e⟩
 item:=by
  intro X hP hw hK hc i KJ s σ H E I hf st hg
  subst hP hw hK
  obtain ⟨xs,ys,x,y,hq1,hq2,hx,hy⟩:=hg
  obtain ⟨its1,r1,p1,_⟩:=I.seq hq1
  obtain ⟨its2,r2,p2,_⟩:=I.seq hq2
  obtain ⟨u1,e1,ru1⟩:=r1.get hx
  obtain ⟨u2,e2,ru2⟩:=r2.get hy
  obtain ⟨a1,a2,⟨a,b,a3⟩,a4,a5⟩:=st
  have fz:=hf z (by simp)
  have fO:=hf TO (by simp)
  have f1:=hf i1 (by simp)
  have f2:=hf i2 (by simp)
  have fI:=hf TI (by simp)
  refine jp D ⟨Ja I hq1 fz,Ja I hq1 fO,Ja I hq1 f1,Ja I hq1 f2⟩ ⟨Ja I hq2 fz,Ja I hq2 fO,Ja I hq2 f1,Ja I hq2 f2⟩ a1 a2 a3 a4 a5 p1 p2 (x:=u1) (y:=u2) (by simpa using e1) (by simpa using e2) fun h' b1 b2 b3 b4 b5 b6 hk=>?_
  refine ⟨.ref s.heap.objs.size,rfl,wpAny_letOwnedTupleGo_zip b1 fun h2 c1 sb=>?_⟩
  have hlt:∀ c∈[z,TI,TO,i1,i2],c<s.heap.objs.size:=fun c hc=>by
   obtain ⟨⟨_,_⟩,q⟩:(∃ o,s.heap.get? c=some o)/\True:=⟨by
    simp only [Qc,Qn,or_false] at hc
    rcases hc with rfl | rfl | rfl | rfl | rfl
    ·exact ⟨_,a1⟩
    ·exact ⟨_,a2⟩
    ·exact ⟨_,a3⟩
    ·exact ⟨_,a4.choose_spec.1⟩
    ·exact ⟨_,a5.choose_spec.1⟩,trivial⟩
   rename_i o ho
   exact Qk ho
  have fr:H s.heap.objs.size=none:=I.hok.fresh (Qh _)
  have k2:∀ c o,c∉[z,TO,i1,i2]->s.heap.get? c=some o->h2.get? c=some o:=fun c o hc e=>by
   simp only [Qc,Qn,or_false,not_or] at hc
   exact (sb.2 c hc.1).trans (hk c o hc.1 hc.2.1 hc.2.2.1 hc.2.2.2 e)
  have T2:h2.get? s.heap.objs.size=some { cls:=.type "tuple",data:=.seq #[u1,u2] }:=(sb.2 _ (QC (hlt z (by simp)))).trans b5
  have hch:∀ b∈[z,TO,i1,i2],(b∈X.ex\/X.s₀.heap.objs.size<=b)/\b≠X.env.locals/\(∀ x c,X.env.cells.lookup x=some c->c≠b)/\∀ p∈X.pn++KJ,p.1≠b:=fun b hb=>by
   have fb:JE X KJ H b:=hf b (by simp only [Qc,Qn,or_false] at hb ⊢;rcases hb with rfl | rfl | rfl | rfl <;> simp)
   exact ⟨fb.2.2.2.1,fb.2.1,fb.2.2.2.2.1,fb.2.2.2.2.2⟩
  have hnone:∀ b∈[z,TO,i1,i2],H b=none:=fun b hb=>(hf b (by simp only [Qc,Qn,or_false] at hb ⊢;rcases hb with rfl | rfl | rfl | rfl <;> simp)).1
  have ntr:∀ b u,H b=some u->b∉[z,TO,i1,i2]:=fun b u e hb=>by rw [hnone b hb] at e;cases e
  have Hok:HOk X.prog X.w (upd H s.heap.objs.size (.tup [x,y])) h2:=fun c o e=>by
   by_cases hcs:c=s.heap.objs.size
   ·subst hcs
    rw [zw] at e
    cases e
    exact ⟨by show 2<=Kg;decide,[u1,u2],.cons ru1 (.cons ru2 .nil),⟨_,T2,rfl,_,rfl⟩⟩
   ·rw [zv hcs] at e
    refine (I.hok c o e).stay (fun d v hd q=>k2 d v ?_ q) (fun d q=>?_) fun d xs q=>?_
    ·rcases hd with rfl | hd
     ·exact ntr _ _ e
     ·exact ntr _ _ hd
    ·rw [zv (yb q fr)];exact q
    ·rw [zv (yb q fr)];exact q
  have nsz:∀ c o,s.heap.get? c=some o->c≠s.heap.objs.size:=fun c o e=>Qu (Qk e)
  have thr:∀ c∈[z,TO,i1,i2],∃ o,h2.get? c=some o:=fun c hc=>by
   simp only [Qc,Qn,or_false] at hc
   rcases hc with rfl | rfl | rfl | rfl
   ·exact ⟨_,c1⟩
   ·exact ⟨_,(sb.2 _ D.TOz).trans b2⟩
   ·obtain ⟨o,ho,_⟩:=b3;exact ⟨_,(sb.2 _ D.i1z).trans ho⟩
   ·obtain ⟨o,ho,_⟩:=b4;exact ⟨_,(sb.2 _ D.i2z).trans ho⟩
  have I2:Inv X KJ σ (upd H s.heap.objs.size (.tup [x,y])) { s with heap:=h2,toks:=s.toks }:=by
   refine I.step (g':=s.gens) (d':=s.drawn) (ch:=[z,TO,i1,i2]) hch (fun b o _ _ hb e _=>k2 b o hb e) (fun b o _ _ hb e _=>⟨o.slots,k2 b o hb e⟩) (fun b o _ e n=>by rw [zv (nsz b o e)];exact n) (fun b o hb e=>⟨o,k2 b o hb e⟩)
    (fun b xs e=>by rw [zv (yb e fr)];exact e) (fun b o u e=>by rw [zv (yb e fr)];exact e) (fun b ps e=>⟨#[],by rw [zv (yb e fr),e];simp⟩) (fun m hm=>?_) Hok I.bare
   obtain ⟨o,es,ep,ho,r⟩:=hm
   refine ⟨o,es,ep,k2 _ o (fun hb=>(hch _ hb).2.1 rfl) ho,r⟩
  refine ⟨.ref s.heap.objs.size,_,I2,rfl,⟨_,x,y,rfl,fr,rfl,fun zs hz=>by rw [I.seq_inj hz hq1];exact hx,fun zs hz=>by rw [I.seq_inj hz hq2];exact hy⟩,⟨c1,?_,⟨_,_,(sb.2 _ D.TOz).trans b2⟩,b3.at fun o e=>(sb.2 _ D.i1z).trans e,b4.at fun o e=>(sb.2 _ D.i2z).trans e⟩,fun b hb=>?_⟩
  ·exact k2 TI _ (by simp only [Qc,Qn,or_false,not_or];exact ⟨D.TIz,D.TITO,D.TIi1,D.TIi2⟩) a2
  ·rw [zv (Qu (hlt b hb))];exact (hf b hb).1
 done:=by
  intro X hP hw hK hc i KJ s σ H E I hf st hg
  subst hP hw hK
  obtain ⟨xs,ys,hq1,hq2,hend⟩:=hg
  obtain ⟨its1,r1,p1,_⟩:=I.seq hq1
  obtain ⟨its2,r2,p2,_⟩:=I.seq hq2
  obtain ⟨a1,a2,⟨a,b,a3⟩,a4,a5⟩:=st
  have fz:=hf z (by simp)
  have fO:=hf TO (by simp)
  have f1:=hf i1 (by simp)
  have f2:=hf i2 (by simp)
  have l1':=r1.length
  have l2':=r2.length
  refine jE (I.ok.hd hc) D ⟨Ja I hq1 fz,Ja I hq1 fO,Ja I hq1 f1,Ja I hq1 f2⟩ ⟨Ja I hq2 fz,Ja I hq2 fO,Ja I hq2 f1,Ja I hq2 f2⟩ a1 a2 a3 a4 a5 p1 p2 (hend.imp (fun q=>by simp;omega) fun q=>by simp;omega) fun h' hk=>⟨rfl,?_⟩
  have hch:∀ b∈[z,TO,i1,i2],(b∈X.ex\/X.s₀.heap.objs.size<=b)/\b≠X.env.locals/\(∀ x c,X.env.cells.lookup x=some c->c≠b)/\∀ p∈X.pn++KJ,p.1≠b:=fun b hb=>by
   have fb:JE X KJ H b:=hf b (by simp only [Qc,Qn,or_false] at hb ⊢;rcases hb with rfl | rfl | rfl | rfl <;> simp)
   exact ⟨fb.2.2.2.1,fb.2.1,fb.2.2.2.2.1,fb.2.2.2.2.2⟩
  have hnone:∀ b∈[z,TO,i1,i2],H b=none:=fun b hb=>(hf b (by simp only [Qc,Qn,or_false] at hb ⊢;rcases hb with rfl | rfl | rfl | rfl <;> simp)).1
  have ntr:∀ b u,H b=some u->b∉[z,TO,i1,i2]:=fun b u e hb=>by rw [hnone b hb] at e;cases e
  have k2:∀ c o,c∉[z,TO,i1,i2]->s.heap.get? c=some o->h'.get? c=some o:=fun c o hc e=>by
   simp only [Qc,Qn,or_false,not_or] at hc
   exact hk c o hc.1 hc.2.1 hc.2.2.1 hc.2.2.2 e
  refine I.step (g':=s.gens) (d':=s.drawn) (t':=s.toks) (ch:=[z,TO,i1,i2]) hch (fun b o _ _ hb e _=>k2 b o hb e) (fun b o _ _ hb e _=>⟨o.slots,k2 b o hb e⟩) (fun b o _ e n=>n) (fun b o hb e=>⟨o,k2 b o hb e⟩)
   (fun b xs e=>e) (fun b o u e=>e) (fun b ps e=>⟨#[],by rw [e];simp⟩) (fun m hm=>?_) (fun c o e=>?_) I.bare
  ·obtain ⟨o,es,ep,ho,r⟩:=hm
   exact ⟨o,es,ep,k2 _ o (fun hb=>(hch _ hb).2.1 rfl) ho,r⟩
  ·refine (I.hok c o e).stay (fun d v hd q=>k2 d v ?_ q) (fun d q=>q) fun d xs q=>q
   rcases hd with rfl | hd
   ·exact ntr _ _ e
   ·exact ntr _ _ hd
 self:=fun _ _ _ _ _ st h=>wpAny_pyIter_zip st.1 h
theorem zapart_new (n:Nat):ZApart (n+4) (n+2) (n+3) n (n+1):=by
 constructor <;> exact (show ∀ a b:Nat,a≠b->a≠b from fun _ _ h=>h) _ _ (by omega)
section
variable {X:Cx}
def iZip (j1 j2:Bool) (K:KC) (ta:TA):TI:=fun σ H R=>ta σ H fun vs H1=>∃ a b,vs=[.ref a,.ref b]/\(∃ xs,Sq j1 K H1 a xs)/\(∃ ys,Sq j2 K H1 b ys)/\R (Itz j1 j2 K a b) H1
theorem pi_zip (j1 j2:Bool) {elts:List Kv} {kk:Nat} {pp:KB} {a b:Kv} {ta:TA} {p pos:KB} (hg:Gl X "zip") (hm:X.mg "zip"=none) (ha:PA X [a,b] ta) (hs:Ke [a,b] X.env=[(false,Kz a X.env),(false,Kz b X.env)]:=by rfl) (hs2:Ke [b] X.env=[(false,Kz b X.env)]:=by rfl) :
  PI X (.Tuple elts kk pp) (.Call (.Name "zip" p) [a,b] [] pos) (iZip j1 j2 X.K ta):=by
 intro KJ s σ H R I h
 refine Call_ (jL I hg hm boot_zip (KH (thn (ha pos KJ s σ H _ I h) fun us s1 ⟨vs,H1,I1,r1,q1⟩=>?_) (by rw [hs,hs2]) (by rw [hs2];rfl)))
 obtain ⟨a,b,e,⟨xs,hx⟩,⟨ys,hy⟩,q⟩:=q1
 subst e
 cases r1 with
 | cons r rr =>
  cases rr with
  | cons r' rr =>
   cases rr
   cases r
   cases r'
   obtain ⟨its1,_,p1,_⟩:=I1.seq hx
   obtain ⟨its2,_,p2,_⟩:=I1.seq hy
   refine J6 p1 p2 fun h' c1 c2 c3 c4 c5 c6 up=>wpAny_pyIter_zip c1 ?_
   have I2:Inv X KJ σ H1 { s1 with heap:=h' }:=I1.kept (t':=s1.toks) up
   refine ⟨s1.heap.objs.size+4,[s1.heap.objs.size+4,s1.heap.objs.size+2,s1.heap.objs.size+3,s1.heap.objs.size,s1.heap.objs.size+1],_,_,H1,rfl,I2,turn_zip (j1:=j1) (j2:=j2) (TI:=s1.heap.objs.size+2) (TO:=s1.heap.objs.size+3) (i1:=s1.heap.objs.size) (i2:=s1.heap.objs.size+1) (zapart_new _),⟨c1,c2,⟨_,_,c3⟩,c4,c5⟩,fun b hb=>?_,q⟩
   have hb':@LE.le Nat instLENat s1.heap.objs.size b:=by
    simp only [Qc,Qn,or_false] at hb
    rcases hb with rfl | rfl | rfl | rfl | rfl
    ·exact Q5 _ 4
    ·exact Q5 _ 2
    ·exact Q5 _ 3
    ·exact Qh _
    ·exact Q5 _ 1
   have:=I1.fpOk (H':=H1) hb' (I1.hok.fresh hb')
   exact this
end
end L2
namespace M
open PySem PySem.Spec L2
open PySem.W (Frag)
inductive D where
 | non | bl (b:Bool) | int (i:Int) | str (x:Kw) | tup (xs:List D) | lst (xs:List D) | dict (ks:List Key) (vs:List D)
  | scr (ns:List Int)
  | adr (a:Kc)
  | kset (ks:List (List Int))
  | tk (ns:List Int)
  | pin (a:Kc) (d:D)
def KL (K:KC) (a:Kc) (xs:List V):Prop :=
 ∃ (o:KA) (KP:Array Ka) (n:Nat),K.lookup a=some o/\o.cls=.type "list"/\o.dict=none/\o.data=.seq KP n/\KP.size<=Kg/\zY xs KP.toList
def RL (K:KC) (H:Hp) (B:Kc->Prop) (a:Kc) (xs:List V):Prop:=Rd H a (.lst xs)/\¬ B a
def RS (K:KC) (H:Hp) (a:Kc) (xs:List V):Prop:=(∃ o,H a=some (.frz o (.lst xs)))\/KL K a xs
theorem RS.sq {K:KC} {H:Hp} {a:Kc} {xs:List V} (h:RS K H a xs):SqL K H a xs:=by
 rcases h with h | h
 ·exact .inl (.inr h)
 ·exact .inr h
theorem RL.sq {K:KC} {H:Hp} {B:Kc->Prop} {a:Kc} {xs:List V} (h:RL K H B a xs):SqL K H a xs:=.inl h.1
mutual
def Rep (K:KC) (H:Hp) (B:Kc->Prop):D->V->Prop
 | .non,v=>v=.non
 | .bl b,v=>v=.bl b
 | .int i,v=>v=.int i
 | .str x,v=>v=.str x
 | .tup ds,v=>∃ a xs,v=.ref a/\SqT K H a xs/\zr K H B ds xs
 | .lst ds,v=>∃ a xs,v=.ref a/\RL K H B a xs/\zr K H B ds xs
 | .dict ks ds,v=>∃ a KO,v=.ref a/\(H a=some (.dK KO)/\¬ B a)/\KO.map (·.1)=ks/\zr K H B ds (KO.map (·.2))
 | .scr ns,v=>∃ a,v=.ref a/\RS K H a (ns.map V.int)
 | .adr a,v=>v=.ref a
 | .kset _,v=>∃ a,v=.ref a
 | .tk ns,v=>∃ a,v=.ref a/\H a=some (.tup (ns.map V.int))
 | .pin a d,v=>v=.ref a/\Rep K H B d v
def zr (K:KC) (H:Hp) (B:Kc->Prop):List D->List V->Prop
 | [],vs=>vs=[]
 | d::ds,vs=>∃ v r,vs=v::r/\Rep K H B d v/\zr K H B ds r
end
mutual
def D.flat:D->Bool
 | .tup ds=>Z5 ds
 | .lst _=>false
 | .dict _ _=>false
 | .kset _=>false
 | .pin _ d=>d.flat
 | _=>true
def Z5:List D->Bool
 | []=>true
 | d::ds=>d.flat&&Z5 ds
end
section
variable {K:KC} {H H':Hp} {B B':Kc->Prop}
theorem SqT.same {a:Kc} {xs:List V} (e:zT H H') (h:SqT K H a xs):SqT K H' a xs:=by
 rcases h with (h | ⟨o,h⟩) | h
 ·exact .inl (.inl (e _ _ h))
 ·exact .inl (.inr ⟨o,e _ _ h⟩)
 ·exact .inr h
theorem Rd.same {a:Kc} {u:HO} (e:zT H H') (h:Rd H a u):Rd H' a u:=by
 rcases h with h | ⟨o,h⟩
 ·exact .inl (e _ _ h)
 ·exact .inr ⟨o,e _ _ h⟩
structure Goes (H H':Hp) (B B':Kc->Prop):Prop where
 tup:∀ a xs,Rd H a (.tup xs)->Rd H' a (.tup xs)
 lst:∀ a xs,Rd H a (.lst xs)->¬ B a->Rd H' a (.lst xs)/\¬ B' a
 dct:∀ a KO,H a=some (.dK KO)->¬ B a->H' a=some (.dK KO)/\¬ B' a
 frz:∀ a o u,H a=some (.frz o u)->H' a=some (.frz o u)
 tkt:∀ a xs,H a=some (.tup xs)->H' a=some (.tup xs)
mutual
theorem Rep.goes (g:Goes H H' B B'):∀ (d:D) (v:V),Rep K H B d v->Rep K H' B' d v
 | .non,v,h=>by simpa [Rep] using h
 | .bl b,v,h=>by simpa [Rep] using h
 | .int i,v,h=>by simpa [Rep] using h
 | .str x,v,h=>by simpa [Rep] using h
 | .tup ds,v,h=>by
  simp only [Rep] at h ⊢
  obtain ⟨a,xs,e,hq,hr⟩:=h
  refine ⟨a,xs,e,?_,zr.goes g ds xs hr⟩
  rcases hq with hq | hq
  ·exact .inl (g.tup a xs hq)
  ·exact .inr hq
 | .lst ds,v,h=>by
  simp only [Rep] at h ⊢
  obtain ⟨a,xs,e,hq,hr⟩:=h
  exact ⟨a,xs,e,g.lst a xs hq.1 hq.2,zr.goes g ds xs hr⟩
 | .dict ks ds,v,h=>by
  simp only [Rep] at h ⊢
  obtain ⟨a,KO,e,⟨hq,hb⟩,hk,hr⟩:=h
  exact ⟨a,KO,e,g.dct a KO hq hb,hk,zr.goes g ds _ hr⟩
 | .scr ns,v,h=>by
  simp only [Rep] at h ⊢
  obtain ⟨a,e,hq⟩:=h
  refine ⟨a,e,?_⟩
  rcases hq with ⟨o,hq⟩ | hq
  ·exact .inl ⟨o,g.frz a o _ hq⟩
  ·exact .inr hq
 | .adr a,v,h=>by simpa [Rep] using h
 | .kset ks,v,h=>by simpa [Rep] using h
 | .tk ns,v,h=>by
  simp only [Rep] at h ⊢
  obtain ⟨a,e,q⟩:=h
  exact ⟨a,e,g.tkt a _ q⟩
 | .pin a d,v,h=>by
  simp only [Rep] at h ⊢
  exact ⟨h.1,Rep.goes g d v h.2⟩
theorem zr.goes (g:Goes H H' B B'):∀ (ds:List D) (vs:List V),zr K H B ds vs->zr K H' B' ds vs
 | [],vs,h=>by simpa [zr] using h
 | d::ds,vs,h=>by
  simp only [zr] at h ⊢
  obtain ⟨v,r,e,h1,h2⟩:=h
  exact ⟨v,r,e,Rep.goes g d v h1,zr.goes g ds r h2⟩
end
theorem Goes.less (h:∀ a,B' a->B a) (e:zT H H'):Goes H H' B B' :=
 ⟨fun _ _ q=>Rd.same e q,fun a _ q n=>⟨Rd.same e q,fun z=>n (h a z)⟩,fun a _ q n=>⟨e _ _ q,fun z=>n (h a z)⟩,fun _ _ _ q=>e _ _ q,fun _ _ q=>e _ _ q⟩
theorem Goes.same (e:zT H H'):Goes H H' B B:=.less (fun _ z=>z) e
theorem Goes.fresh {a:Kc} (hn:H a=none) (e:zT H H'):Goes H H' B (fun b=>B b\/b=a) :=
  ⟨fun _ _ q=>Rd.same e q,fun b xs q n=>⟨Rd.same e q,fun z=>z.elim n fun z=>by subst z;rcases q with q | ⟨o,q⟩ <;> (rw [hn] at q;cases q)⟩,
   fun b _ q n=>⟨e _ _ q,fun z=>z.elim n fun z=>by subst z;rw [hn] at q;cases q⟩,fun _ _ _ q=>e _ _ q,fun _ _ q=>e _ _ q⟩
theorem Goes.write {a:Kc} {o u:HO} (hB:B a) (ha:H a=some u) (hm:Mut (some u)):Goes H (upd H a o) B B:=by
 have nt:∀ b w,H b=some w->(¬ ∃ z:Mut (some w),True)->b≠a:=fun b w q z e=>by subst e;rw [ha] at q;cases q;exact z ⟨hm,trivial⟩
 refine ⟨fun b xs q=>?_,fun b xs q n=>?_,fun b KO q n=>?_,fun b ob w q=>by rw [zv (nt b _ q fun ⟨z,_⟩=>z)];exact q,fun b xs q=>by rw [zv (nt b _ q fun ⟨z,_⟩=>z)];exact q⟩
 ·rcases q with q | ⟨ob,q⟩
  ·exact .inl (by rw [zv (nt b _ q fun ⟨z,_⟩=>z)];exact q)
  ·exact .inr ⟨ob,by rw [zv (nt b _ q fun ⟨z,_⟩=>z)];exact q⟩
 ·have hne:b≠a:=fun e=>n (by rw [e];exact hB)
  refine ⟨?_,n⟩
  rcases q with q | ⟨ob,q⟩
  ·exact .inl (by rw [zv hne];exact q)
  ·exact .inr ⟨ob,by rw [zv hne];exact q⟩
 ·have hne:b≠a:=fun e=>n (by rw [e];exact hB)
  exact ⟨by rw [zv hne];exact q,n⟩
mutual
theorem Rep.flat:∀ (d:D) (v:V),d.flat=true->Rep K H B d v->Rep K H B' d v
 | .non,v,_,h=>by simpa [Rep] using h
 | .bl b,v,_,h=>by simpa [Rep] using h
 | .int i,v,_,h=>by simpa [Rep] using h
 | .str x,v,_,h=>by simpa [Rep] using h
 | .tup ds,v,f,h=>by
  simp only [Rep] at h ⊢
  simp only [D.flat] at f
  obtain ⟨a,xs,e,hq,hr⟩:=h
  exact ⟨a,xs,e,hq,zr.flat ds xs f hr⟩
 | .lst ds,v,f,h=>by simp [D.flat] at f
 | .dict ks ds,v,f,h=>by simp [D.flat] at f
 | .scr ns,v,f,h=>by simpa [Rep] using h
 | .adr a,v,f,h=>by simpa [Rep] using h
 | .kset ks,v,f,h=>by simp [D.flat] at f
 | .tk ns,v,f,h=>by simpa [Rep] using h
 | .pin a d,v,f,h=>by
  simp only [Rep] at h ⊢
  simp only [D.flat] at f
  exact ⟨h.1,Rep.flat d v f h.2⟩
theorem zr.flat:∀ (ds:List D) (vs:List V),Z5 ds=true->zr K H B ds vs->zr K H B' ds vs
 | [],vs,_,h=>by simpa [zr] using h
 | d::ds,vs,f,h=>by
  simp only [zr] at h ⊢
  simp only [Z5,QI] at f
  obtain ⟨v,r,e,h1,h2⟩:=h
  exact ⟨v,r,e,Rep.flat d v f.1 h1,zr.flat ds r f.2 h2⟩
end
theorem zr.length:∀ {ds:List D} {vs:List V},zr K H B ds vs->vs.length=ds.length
 | [],vs,h=>by simp only [zr] at h;subst h;rfl
 | d::ds,vs,h=>by
  simp only [zr] at h
  obtain ⟨v,r,e,h1,h2⟩:=h
  subst e
  simp [zr.length h2]
theorem zr.get:∀ {ds:List D} {vs:List V} {i:Nat} {d:D},zr K H B ds vs->ds[i]?=some d->∃ v,vs[i]?=some v/\Rep K H B d v
 | [],vs,i,d,h,e=>by simp at e
 | d::ds,vs,0,d',h,e=>by
  simp only [zr] at h
  obtain ⟨v,r,ev,h1,h2⟩:=h
  simp at e;subst e;subst ev
  exact ⟨v,rfl,h1⟩
 | d::ds,vs,i+1,d',h,e=>by
  simp only [zr] at h
  obtain ⟨v,r,ev,h1,h2⟩:=h
  subst ev
  obtain ⟨v',q1,q2⟩:=zr.get (i:=i) (d:=d') h2 (by simpa using e)
  exact ⟨v',by simpa using q1,q2⟩
theorem zr.append:∀ {ds es:List D} {vs ws:List V},zr K H B ds vs->zr K H B es ws->zr K H B (ds++es) (vs++ws)
 | [],es,vs,ws,h,h'=>by simp only [zr] at h;subst h;exact h'
 | d::ds,es,vs,ws,h,h'=>by
  simp only [zr] at h
  obtain ⟨v,r,ev,h1,h2⟩:=h
  subst ev
  simp only [Pe,zr]
  exact ⟨v,r++ws,rfl,h1,zr.append h2 h'⟩
theorem zr.nil:zr K H B [] []:=by simp [zr]
theorem zr.cons {d:D} {ds:List D} {v:V} {vs:List V} (h:Rep K H B d v) (h':zr K H B ds vs):zr K H B (d::ds) (v::vs):=by
 simp only [zr];exact ⟨v,vs,rfl,h,h'⟩
theorem zr.one {d:D} {v:V} (h:Rep K H B d v):zr K H B [d] [v]:=.cons h .nil
theorem zr.set:∀ {ds:List D} {vs:List V} {d:D} {v:V} (i:Nat),zr K H B ds vs->Rep K H B d v->zr K H B (ds.set i d) (vs.set i v)
 | [],vs,d,v,i,h,_=>by simp only [zr] at h;subst h;simp [zr]
 | d'::ds,vs,d,v,0,h,h'=>by
  simp only [zr] at h
  obtain ⟨v',r,ev,h1,h2⟩:=h
  subst ev
  exact .cons h' h2
 | d'::ds,vs,d,v,i+1,h,h'=>by
  simp only [zr] at h
  obtain ⟨v',r,ev,h1,h2⟩:=h
  subst ev
  exact .cons h1 (zr.set i h2 h')
theorem zr.take:∀ {ds:List D} {vs:List V} (n:Nat),zr K H B ds vs->zr K H B (ds.take n) (vs.take n)
 | [],vs,n,h=>by simp only [zr] at h;subst h;simp [zr]
 | d::ds,vs,0,h=>by simp [zr]
 | d::ds,vs,n+1,h=>by
  simp only [zr] at h
  obtain ⟨v',r,ev,h1,h2⟩:=h
  subst ev
  exact .cons h1 (zr.take n h2)
theorem zr.drop:∀ {ds:List D} {vs:List V} (n:Nat),zr K H B ds vs->zr K H B (ds.drop n) (vs.drop n)
 | [],vs,n,h=>by simp only [zr] at h;subst h;simp [zr]
 | d::ds,vs,0,h=>h
 | d::ds,vs,n+1,h=>by
  simp only [zr] at h
  obtain ⟨v',r,ev,h1,h2⟩:=h
  subst ev
  exact zr.drop n h2
theorem zr.rep {ds:List D} {vs:List V} (h:zr K H B ds vs):∀ k:Nat,zr K H B (List.replicate k ds).flatten (List.replicate k vs).flatten
 | 0=>.nil
 | k+1=>by
  rw [QJ,QJ,QX,QX]
  exact .append h (zr.rep h k)
theorem zr.ints {ns:List Int}:zr K H B (ns.map D.int) (ns.map V.int):=by
 induction ns with
 | nil=>exact .nil
 | cons n r ih=>exact .cons (by simp [Rep]) ih
theorem zr.ints':∀ {ns:List Int} {vs:List V},zr K H B (ns.map D.int) vs->vs=ns.map V.int
 | [],vs,h=>by simpa [zr] using h
 | n::r,vs,h=>by
  simp only [Qq,zr,Rep] at h
  obtain ⟨v,r',e,h1,h2⟩:=h
  subst e;subst h1
  rw [zr.ints' h2];rfl
end
abbrev Ev:=List (Option D)
def Bl (P7:Kc->Prop) (os:List Nat) (σ:St) (a:Kc):Prop:=P7 a\/∃ i,i∈os/\σ[i]?=some (some (.ref a))
def BB (st:Bool) (P7:Kc->Prop) (os:List Nat) (σ:St):Kc->Prop:=match st with | true=>Bl P7 os σ | false=>P7
def Own (K:KC) (H:Hp) (B:Kc->Prop):HO->D->Prop
 | .lst xs,.lst ds=>zr K H B ds xs
 | .dK KO,.dict ks ds=>KO.map (·.1)=ks/\zr K H B ds (KO.map (·.2))
 | .dT KO,.kset ks=>KO=ks.map fun k=>(k.map Sum.inl,V.bl true)
 | _,_=>False
theorem Own.goes {K:KC} {H H':Hp} {B B':Kc->Prop} (g:Goes H H' B B') {o:HO} {d:D} (h:Own K H B o d):Own K H' B' o d:=by
 cases o <;> cases d <;> simp only [Own] at h ⊢
 ·exact zr.goes g _ _ h
 ·exact ⟨h.1,zr.goes g _ _ h.2⟩
 ·exact h
theorem Own.mut {K:KC} {H:Hp} {B:Kc->Prop} {o:HO} {d:D} (h:Own K H B o d):Mut (some o):=by
 cases o <;> cases d <;> simp only [Own] at h <;> trivial
structure Md (K:KC) (P6:Hp) (P7:Kc->Prop) (os:List Nat) (σ:St) (H:Hp) (ρ:Ev):Prop where
 grow:zT P6 H
 blk:∀ a,P7 a->∃ o,H a=some o
 len:σ.length=ρ.length
 sh:∀ (i:Nat) d,ρ[i]?=some (some d)->i∉os->∃ v,σ[i]?=some (some v)/\Rep K H (Bl P7 os σ) d v
 own:∀ (i:Nat),i∈os->∃ a o d,σ[i]?=some (some (.ref a))/\ρ[i]?=some (some d)/\H a=some o/\(P6 a=none/\¬ P7 a)/\Own K H (Bl P7 os σ) o d
 sep:∀ (i j:Nat) a,i∈os->j∈os->σ[i]?=some (some (.ref a))->σ[j]?=some (some (.ref a))->i=j
section
variable {K:KC} {P6 H H':Hp} {P7:Kc->Prop} {os os':List Nat} {σ:St} {ρ:Ev}
theorem Md.up (m:Md K P6 P7 os σ H ρ) (e:zT H H'):Md K P6 P7 os σ H' ρ where
 grow:=m.grow.trans e
 blk:=fun a h=>let ⟨o,q⟩:=m.blk a h;⟨o,e _ _ q⟩
 len:=m.len
 sh:=fun i d q n=>by obtain ⟨v,h1,h2⟩:=m.sh i d q n;exact ⟨v,h1,Rep.goes (.same e) _ _ h2⟩
 own:=fun i hi=>by
  obtain ⟨a,o,d,h1,h2,h3,h4,h5⟩:=m.own i hi
  exact ⟨a,o,d,h1,h2,e _ _ h3,h4,h5.goes (.same e)⟩
 sep:=m.sep
theorem Md.tracked (m:Md K P6 P7 os σ H ρ) {a:Kc} (h:Bl P7 os σ a):∃ o,H a=some o:=by
 rcases h with h | ⟨i,hi,e⟩
 ·exact m.blk a h
 ·obtain ⟨a',o,d,h1,_,h3,_⟩:=m.own i hi
  rw [e] at h1;cases h1
  exact ⟨o,h3⟩
theorem Md.ntracked (m:Md K P6 P7 os σ H ρ) {a:Kc} (h:H a=none):¬ Bl P7 os σ a:=fun z=>by
 obtain ⟨o,q⟩:=m.tracked z;rw [h] at q;cases q
theorem Md.freeze (m:Md K P6 P7 os σ H ρ) (hs:∀ i∈os',i∈os):Md K P6 P7 os' σ H ρ:=by
 have less:∀ a,Bl P7 os' σ a->Bl P7 os σ a:=fun a z=>z.elim .inl fun ⟨i,h1,h2⟩=>.inr ⟨i,hs i h1,h2⟩
 have g:Goes H H (Bl P7 os σ) (Bl P7 os' σ):=.less less (.refl H)
 refine ⟨m.grow,m.blk,m.len,fun i d q n=>?_,fun i hi=>?_,fun i j a h1 h2=>m.sep i j a (hs i h1) (hs j h2)⟩
 ·by_cases hi:i∈os
  ·obtain ⟨a,o,d',h1,h2,h3,h4,h5⟩:=m.own i hi
   rw [q] at h2;cases h2
   refine ⟨_,h1,?_⟩
   have nb:¬ Bl P7 os' σ a:=fun z=>by
    rcases z with z | ⟨j,hj,e⟩
    ·exact h4.2 z
    ·exact n ((m.sep i j a hi (hs j hj) h1 e)▸hj)
   cases o <;> cases d <;> simp only [Own] at h5
   ·simp only [Rep];exact ⟨a,_,rfl,⟨.inl h3,nb⟩,zr.goes g _ _ h5⟩
   ·simp only [Rep];exact ⟨a,_,rfl,⟨h3,nb⟩,h5.1,zr.goes g _ _ h5.2⟩
   ·simp only [Rep];exact ⟨a,rfl⟩
  ·obtain ⟨v,h1,h2⟩:=m.sh i d q hi
   exact ⟨v,h1,Rep.goes g _ _ h2⟩
 ·obtain ⟨a,o,d,h1,h2,h3,h4,h5⟩:=m.own i (hs i hi)
  exact ⟨a,o,d,h1,h2,h3,h4,h5.goes g⟩
theorem zd {α:Type} {l:List α} {i j:Nat} {x:α} (h:j≠i):(l.set i x)[j]?=l[j]?:=by
 rw [List.getElem?_set];simp [Ne.symm h]
theorem yS {α:Type} {l:List α} {i:Nat} {x y:α} (h:(l.set i x)[i]?=some y):y=x:=by
 rw [List.getElem?_set] at h
 by_cases hi:i<l.length
 ·simp [hi] at h;exact h.symm
 ·simp [hi] at h
theorem zH {α:Type} {l:List α} {i:Nat} {x:α} (h:i<l.length):(l.set i x)[i]?=some x:=by simp [h]
theorem Md.put (m:Md K P6 P7 os σ H ρ) {i:Nat} {v:V} {d:D} (hs:∀ j∈os',j∈os/\j≠i) (hs2:∀ j∈os,j∈os'\/j=i) (h:Rep K H (Bl P7 os σ) d v):Md K P6 P7 os' (σ.set i (some v)) H (ρ.set i (some d)):=by
 have less:∀ a,Bl P7 os' (σ.set i (some v)) a->Bl P7 os σ a:=fun a z=>z.elim .inl fun ⟨j,h1,h2⟩=>.inr ⟨j,(hs j h1).1,by rw [zd (hs j h1).2] at h2;exact h2⟩
 have g:Goes H H (Bl P7 os σ) (Bl P7 os' (σ.set i (some v))):=.less less (.refl H)
 refine ⟨m.grow,m.blk,by rw [Qo,Qo];exact m.len,fun j e q n=>?_,fun j hj=>?_,fun j k a h1 h2=>?_⟩
 ·by_cases hj:j=i
  ·subst hj
   have:=yS q
   cases this
   have hi:j<ρ.length:=by have:=(Qm.mp q).1;rwa [Qo] at this
   exact ⟨v,zH (by rw [m.len];exact hi),Rep.goes g _ _ h⟩
  ·rw [zd hj] at q
   obtain ⟨w',h1,h2⟩:=m.sh j e q (fun z=>(hs2 j z).elim n hj)
   exact ⟨w',by rw [zd hj];exact h1,Rep.goes g _ _ h2⟩
 ·obtain ⟨a,o,e,h1,h2,h3,h4,h5⟩:=m.own j (hs j hj).1
  exact ⟨a,o,e,by rw [zd (hs j hj).2];exact h1,by rw [zd (hs j hj).2];exact h2,h3,h4,h5.goes g⟩
 ·rw [zd (hs j h1).2,zd (hs k h2).2]
  exact m.sep j k a (hs j h1).1 (hs k h2).1
theorem Md.putNew (m:Md K P6 P7 os σ H ρ) {i:Nat} {a:Kc} {o:HO} {d:D} (hi:i<ρ.length) (hs:∀ j∈os',j=i\/(j∈os/\j≠i)) (hs2:∀ j∈os,j∈os'\/j=i) (hm:i∈os') (e:zT H H') (hn:H a=none) (ho:H' a=some o)
  (h:Own K H' (fun b=>Bl P7 os σ b\/b=a) o d):Md K P6 P7 os' (σ.set i (some (.ref a))) H' (ρ.set i (some d)):=by
 have hil:i<σ.length:=by rw [m.len];exact hi
 have less:∀ b,Bl P7 os' (σ.set i (some (.ref a))) b->Bl P7 os σ b\/b=a:=fun b z=>by
  rcases z with z | ⟨j,h1,h2⟩
  ·exact .inl (.inl z)
  ·rcases hs j h1 with rfl | ⟨q1,q2⟩
   ·rw [zH hil] at h2;cases h2;exact .inr rfl
   ·rw [zd q2] at h2;exact .inl (.inr ⟨j,q1,h2⟩)
 have g:Goes H H' (Bl P7 os σ) (Bl P7 os' (σ.set i (some (.ref a)))):=by
  have g1:=Goes.fresh (B:=Bl P7 os σ) hn e
  exact ⟨g1.tup,fun b xs q n=>⟨(g1.lst b xs q n).1,fun z=>(g1.lst b xs q n).2 (less b z)⟩,fun b xs q n=>⟨(g1.dct b xs q n).1,fun z=>(g1.dct b xs q n).2 (less b z)⟩,g1.frz,g1.tkt⟩
 have h0:P6 a=none/\¬ P7 a:=⟨m.grow.free hn,fun z=>by obtain ⟨u,q⟩:=m.blk a z;rw [hn] at q;cases q⟩
 refine ⟨m.grow.trans e,fun b h=>(let ⟨u,q⟩:=m.blk b h;⟨u,e _ _ q⟩),by rw [Qo,Qo];exact m.len,fun j c q n=>?_,fun j hj=>?_,fun j k b h1 h2=>?_⟩
 ·have hj:j≠i:=fun z=>n (z▸hm)
  rw [zd hj] at q
  obtain ⟨w',h1,h2⟩:=m.sh j c q (fun z=>(hs2 j z).elim n hj)
  exact ⟨w',by rw [zd hj];exact h1,Rep.goes g _ _ h2⟩
 ·rcases hs j hj with rfl | ⟨q1,q2⟩
  ·exact ⟨a,o,d,zH hil,zH hi,ho,h0,h.goes (.less less (.refl H'))⟩
  ·obtain ⟨b,u,c,h1,h2,h3,h4,h5⟩:=m.own j q1
   exact ⟨b,u,c,by rw [zd q2];exact h1,by rw [zd q2];exact h2,e _ _ h3,h4,h5.goes g⟩
 ·have nown:∀ l,l∈os->σ[l]?=some (some (.ref a))->False:=fun l hl q=>by
   obtain ⟨b,u,c,h1,h2,h3,_⟩:=m.own l hl
   rw [q] at h1;cases h1
   rw [hn] at h3;cases h3
  intro e1 e2
  rcases hs j h1 with rfl | ⟨q1,q2⟩
  ·rcases hs k h2 with rfl | ⟨q3,q4⟩
   ·rfl
   ·rw [zH hil] at e1;cases e1
    rw [zd q4] at e2
    exact (nown k q3 e2).elim
  ·rcases hs k h2 with rfl | ⟨q3,q4⟩
   ·rw [zH hil] at e2;cases e2
    rw [zd q2] at e1
    exact (nown j q1 e1).elim
   ·rw [zd q2] at e1;rw [zd q4] at e2
    exact m.sep j k b q1 q3 e1 e2
theorem Md.write (m:Md K P6 P7 os σ H ρ) {i:Nat} {a:Kc} {o:HO} {d:D} (hi:i∈os) (hs:σ[i]?=some (some (.ref a)))
  (h:Own K H (Bl P7 os σ) o d):Md K P6 P7 os σ (upd H a o) (ρ.set i (some d)):=by
 obtain ⟨a',o',d',h1,h2,h3,h4,h5⟩:=m.own i hi
 rw [hs] at h1;cases h1
 have hB:Bl P7 os σ a:=.inr ⟨i,hi,hs⟩
 have g:Goes H (upd H a o) (Bl P7 os σ) (Bl P7 os σ):=.write hB h3 h5.mut
 have hil:i<ρ.length:=(Qm.mp h2).1
 refine ⟨fun b u q=>?_,fun b hb=>?_,by rw [Qo];exact m.len,fun j c q n=>?_,fun j hj=>?_,m.sep⟩
 rotate_left
 ·by_cases z:b=a
  ·subst z;exact ⟨_,zw⟩
  ·rw [zv z];exact m.blk b hb
 rotate_left
 rotate_left
 ·by_cases hb:b=a
  ·subst hb;rw [h4.1] at q;cases q
  ·rw [zv hb];exact m.grow _ _ q
 ·have hj:j≠i:=fun z=>n (z▸hi)
  rw [zd hj] at q
  obtain ⟨w',q1,q2⟩:=m.sh j c q n
  exact ⟨w',q1,Rep.goes g _ _ q2⟩
 ·by_cases hji:j=i
  ·subst hji
   exact ⟨a,o,d,hs,zH hil,zw,h4,h.goes g⟩
  ·obtain ⟨b,u,c,q1,q2,q3,q4,q5⟩:=m.own j hj
   have hb:b≠a:=fun z=>hji (m.sep j i a hj hi (z▸q1) hs)
   exact ⟨b,u,c,q1,by rw [zd hji];exact q2,by rw [zv hb];exact q3,q4,q5.goes g⟩
theorem Md.get (m:Md K P6 P7 os σ H ρ) {i:Nat} {d:D} (q:ρ[i]?=some (some d)):∃ v,σ[i]?=some (some v)/\Rep K H P7 d v:=by
 obtain ⟨v,h1,h2⟩:=(m.freeze (os':=[]) (fun _ z=>nomatch z)).sh i d q (by simp)
 exact ⟨v,h1,Rep.goes (.less (fun a z=>.inl z) (.refl H)) _ _ h2⟩
def jv (H:Hp) (os:List Nat) (σ:St):Hp:=fun a=>open Classical in if ∃ i,i∈os/\σ[i]?=some (some (.ref a)) then none else H a
theorem unown_of {a:Kc} {o:HO} (h:jv H os σ a=some o):H a=some o/\¬ ∃ i,i∈os/\σ[i]?=some (some (.ref a)):=by
 unfold jv at h
 split at h
 ·cases h
 ·rename_i z;exact ⟨h,z⟩
theorem Y1 {a:Kc} (h:¬ ∃ i,i∈os/\σ[i]?=some (some (.ref a))):jv H os σ a=H a:=by
 unfold jv;rw [KR h]
theorem unown_own {a:Kc} (h:∃ i,i∈os/\σ[i]?=some (some (.ref a))):jv H os σ a=none:=by
 unfold jv;rw [KQ h]
theorem Md.sub (m:Md K P6 P7 os σ H ρ):zT P6 (jv H os σ):=fun a o q=>by
 have:¬ ∃ i,i∈os/\σ[i]?=some (some (.ref a)):=fun ⟨i,hi,e⟩=>by
  obtain ⟨a',o',d,h1,_,_,h4,_⟩:=m.own i hi
  rw [e] at h1;cases h1
  rw [h4.1] at q;cases q
 rw [Y1 this];exact m.grow _ _ q
theorem Md.deep (m:Md K P6 P7 os σ H ρ):Md K (jv H os σ) P7 os σ H ρ :=
 ⟨fun a o q=>(unown_of q).1,m.blk,m.len,m.sh,fun i hi=>by
  obtain ⟨a,o,d,h1,h2,h3,h4,h5⟩:=m.own i hi
  exact ⟨a,o,d,h1,h2,h3,⟨unown_own ⟨i,hi,h1⟩,h4.2⟩,h5⟩,m.sep⟩
theorem Md.shallow {H₁:Hp} (m:Md K H₁ P7 os σ H ρ) (e:zT P6 H₁):Md K P6 P7 os σ H ρ :=
 ⟨e.trans m.grow,m.blk,m.len,m.sh,fun i hi=>by
  obtain ⟨a,o,d,h1,h2,h3,h4,h5⟩:=m.own i hi
  exact ⟨a,o,d,h1,h2,h3,⟨e.free h4.1,h4.2⟩,h5⟩,m.sep⟩
theorem Md.goDown (m:Md K P6 P7 os σ H ρ):Goes H (jv H os σ) (Bl P7 os σ) P7:=by
 have nt:∀ a xs,Rd H a (.tup xs)->¬ ∃ i,i∈os/\σ[i]?=some (some (.ref a)):=fun a xs q ⟨i,hi,e⟩=>by
  obtain ⟨a',o',d,h1,_,h3,_,h5⟩:=m.own i hi
  rw [e] at h1;cases h1
  rcases q with q | ⟨ob,q⟩ <;> (rw [q] at h3;cases h3;cases d <;> simp only [Own] at h5)
 refine ⟨fun a xs q=>?_,fun a xs q n=>?_,fun a KO q n=>?_,fun a ob w q=>?_,fun a xs q=>(Y1 (H:=H) (nt a xs (.inl q))).trans q⟩
 rotate_left 3
 ·refine (Y1 (H:=H) ?_).trans q
  rintro ⟨i,hi,e⟩
  obtain ⟨a',o',d,h1,_,h3,_,h5⟩:=m.own i hi
  rw [e] at h1;cases h1
  rw [q] at h3;cases h3;cases d <;> simp only [Own] at h5
 ·have z:=Y1 (H:=H) (nt a xs q)
  rcases q with q | ⟨ob,q⟩
  ·exact .inl (z.trans q)
  ·exact .inr ⟨ob,z.trans q⟩
 ·have z:=Y1 (H:=H) (fun z=>n (.inr z))
  refine ⟨?_,fun b=>n (.inl b)⟩
  rcases q with q | ⟨ob,q⟩
  ·exact .inl (z.trans q)
  ·exact .inr ⟨ob,z.trans q⟩
 ·exact ⟨(Y1 (H:=H) (fun z=>n (.inr z))).trans q,fun b=>n (.inl b)⟩
theorem Md.goUp (m:Md K P6 P7 os σ H ρ):Goes P6 H P7 (Bl P7 os σ):=by
 have nb:∀ a o,P6 a=some o->¬ P7 a->¬ Bl P7 os σ a:=fun a o q n z=>z.elim n fun ⟨i,hi,e⟩=>by
  obtain ⟨a',o',d,h1,_,_,h4,_⟩:=m.own i hi
  rw [e] at h1;cases h1
  rw [h4.1] at q;cases q
 refine ⟨fun a xs q=>Rd.same m.grow q,fun a xs q n=>⟨Rd.same m.grow q,?_⟩,fun a KO q n=>⟨m.grow _ _ q,nb a _ q n⟩,fun a o u q=>m.grow _ _ q,fun a xs q=>m.grow _ _ q⟩
 rcases q with q | ⟨ob,q⟩ <;> exact nb a _ q n
theorem Md.upB (m:Md K P6 P7 os σ H ρ) {a:Kc} {o u:HO} (hB:P7 a) (h0:P6 a=none) (ha:H a=some u) (hm:Mut (some u)):Md K P6 P7 os σ (upd H a o) ρ:=by
 have g:Goes H (upd H a o) (Bl P7 os σ) (Bl P7 os σ):=.write (.inl hB) ha hm
 refine ⟨fun b v q=>?_,fun b hb=>?_,m.len,fun i d q n=>?_,fun i hi=>?_,m.sep⟩
 ·by_cases hb:b=a
  ·subst hb;rw [h0] at q;cases q
  ·rw [zv hb];exact m.grow _ _ q
 ·by_cases z:b=a
  ·subst z;exact ⟨_,zw⟩
  ·rw [zv z];exact m.blk b hb
 ·obtain ⟨v,h1,h2⟩:=m.sh i d q n
  exact ⟨v,h1,Rep.goes g _ _ h2⟩
 ·obtain ⟨b,w',d,h1,h2,h3,h4,h5⟩:=m.own i hi
  have hne:b≠a:=fun z=>h4.2 (by rw [z];exact hB)
  exact ⟨b,w',d,h1,h2,by rw [zv hne];exact h3,h4,h5.goes g⟩
end
def EOk (K:KC) (st:Bool) (os:List Nat) (t:TE) (f:Ev->Option D):Prop :=
 ∀ (P6:Hp) (P7:Kc->Prop) (σ:St) (H:Hp) (ρ:Ev) (d:D) (Q:VK),Md K P6 P7 os σ H ρ->f ρ=some d->(∀ v H',zT H H'->Rep K H' (BB st P7 os σ) d v->Q v H')->t σ H Q
def FOk (K:KC) (os:List Nat) (t:TE) (f:Ev->Option D):Prop :=
 ∀ (P6:Hp) (P7:Kc->Prop) (σ:St) (H:Hp) (ρ:Ev) (d:D) (Q:VK),Md K P6 P7 os σ H ρ->f ρ=some d->(∀ a o H',zT H H'->H a=none->H' a=some o->Own K H' (fun b=>Bl P7 os σ b\/b=a) o d->Q (.ref a) H')->t σ H Q
def COk (K:KC) (k:Bool) (os:List Nat) (t:TE) (f:Ev->Option (List D)):Prop :=
 ∀ (P6:Hp) (P7:Kc->Prop) (σ:St) (H:Hp) (ρ:Ev) (ds:List D) (Q:VK),Md K P6 P7 os σ H ρ->f ρ=some ds->(∀ a xs H',zT H H'->Sq k K H' a xs->zr K H' (Bl P7 os σ) ds xs->Q (.ref a) H')->t σ H Q
def TOk (K:KC) (os:List Nat) (t:TT) (f:Ev->Option Bool):Prop :=
 ∀ (P6:Hp) (P7:Kc->Prop) (σ:St) (H:Hp) (ρ:Ev) (b:Bool) (Q:Bool->Hp->Prop),Md K P6 P7 os σ H ρ->f ρ=some b->(∀ H',zT H H'->Q b H')->t σ H Q
def AOk (K:KC) (st:Bool) (os:List Nat) (t:TA) (f:Ev->Option (List D)):Prop :=
 ∀ (P6:Hp) (P7:Kc->Prop) (σ:St) (H:Hp) (ρ:Ev) (ds:List D) (Q:List V->Hp->Prop),Md K P6 P7 os σ H ρ->f ρ=some ds->(∀ vs H',zT H H'->zr K H' (BB st P7 os σ) ds vs->Q vs H')->t σ H Q
structure SE (X:Cx) (st:Bool) (os:List Nat) (e:Kv) (t:TE) (f:Ev->Option D):Prop where
 pe:PE X e t
 ok:EOk X.K st os t f
structure SF (X:Cx) (os:List Nat) (e:Kv) (t:TE) (f:Ev->Option D):Prop where
 pe:PE X e t
 ok:FOk X.K os t f
structure SC (X:Cx) (k:Bool) (os:List Nat) (e:Kv) (t:TE) (f:Ev->Option (List D)):Prop where
 pe:PE X e t
 ok:COk X.K k os t f
structure SB (X:Cx) (os:List Nat) (e:Kv) (t:TT) (f:Ev->Option Bool):Prop where
 pt:PT X e t
 ok:TOk X.K os t f
structure SW (X:Cx) (os:List Nat) (e:Kv) (t:TT) (f:Ev->Option Bool):Prop where
 pw:PW X e t
 ok:TOk X.K os t f
structure SA (X:Cx) (st:Bool) (os:List Nat) (es:List Kv) (t:TA) (f:Ev->Option (List D)):Prop where
 pa:PA X es t
 ok:AOk X.K st os t f
section
variable {K:KC} {P6 H H':Hp} {P7:Kc->Prop} {os:List Nat} {σ:St} {ρ:Ev} {st:Bool}
theorem Md.bb (m:Md K P6 P7 os σ H ρ) (st:Bool):∀ a,BB st P7 os σ a->∃ o,H a=some o:=fun a h=>by
 cases st with
 | true=>exact m.tracked h
 | false=>exact m.tracked (.inl h)
theorem bb_le (st:Bool):∀ a,BB st P7 os σ a->Bl P7 os σ a:=fun a h=>by
 cases st with
 | true=>exact h
 | false=>exact .inl h
theorem Rep.bb {d:D} {v:V} (h:Rep K H (Bl P7 os σ) d v):Rep K H (BB st P7 os σ) d v:=Rep.goes (.less (bb_le st) (.refl H)) _ _ h
theorem Rep.up {B:Kc->Prop} {d:D} {v:V} (e:zT H H') (h:Rep K H B d v):Rep K H' B d v:=Rep.goes (.same e) _ _ h
theorem zr.up {B:Kc->Prop} {d:List D} {v:List V} (e:zT H H') (h:zr K H B d v):zr K H' B d v:=zr.goes (.same e) _ _ h
theorem Own.rep {B:Kc->Prop} {a:Kc} {o:HO} {d:D} (h:Own K H (fun b=>B b\/b=a) o d) (ha:H a=some o) (nb:¬ B a):Rep K H B d (.ref a):=by
 have g:Goes H H (fun b=>B b\/b=a) B:=.less (fun _ z=>.inl z) (.refl H)
 cases o <;> cases d <;> simp only [Own] at h
 ·simp only [Rep];exact ⟨a,_,rfl,⟨.inl ha,nb⟩,zr.goes g _ _ h⟩
 ·simp only [Rep];exact ⟨a,_,rfl,⟨ha,nb⟩,h.1,zr.goes g _ _ h.2⟩
 ·simp only [Rep];exact ⟨a,rfl⟩
theorem zG {a:Kc} {o:HO} (h:H a=none):zT H (upd H a o):=fun b u q=>by
 rw [zv (fun z=>by subst z;rw [h] at q;cases q)];exact q
end
def asK:Bool->D->Option (List D)
 | true,.lst ds=>some ds
 | true,.scr ns=>some (ns.map .int)
 | false,.tup ds=>some ds
 | _,_=>none
def asB:D->Option Bool
 | .bl b=>some b
 | _=>none
def zb (i:Nat):Ev->Option D:=fun ρ=>ρ[i]?.join
def fC (d:D):Ev->Option D:=fun _=>some d
def f1 (g:D->Option D) (fa:Ev->Option D):Ev->Option D:=fun ρ=>(fa ρ).bind g
def f2 (g:D->D->Option D) (fa fb:Ev->Option D):Ev->Option D:=fun ρ=>(fa ρ).bind fun x=>(fb ρ).bind fun y=>g x y
def zj (k:Bool) (fa:Ev->Option D):Ev->Option (List D):=fun ρ=>(fa ρ).bind (asK k)
def Yo (fa:Ev->Option D):Ev->Option D:=fun ρ=>(fa ρ).bind fun d=>if d.flat then some d else none
def zI (fa:Ev->Option D):Ev->Option Bool:=fun ρ=>(fa ρ).bind asB
def J5 (fa fb:Ev->Option Bool):Ev->Option Bool:=fun ρ=>(fa ρ).bind fun c=>if c then fb ρ else some false
def fOr (fa fb:Ev->Option Bool):Ev->Option Bool:=fun ρ=>(fa ρ).bind fun c=>if c then some true else fb ρ
def Y0 (fa:Ev->Option Bool):Ev->Option Bool:=fun ρ=>(fa ρ).map (!·)
def fAndV (fa fb:Ev->Option D):Ev->Option D:=fun ρ=>((fa ρ).bind asB).bind fun c=>if c then fb ρ else some (.bl false)
def fOrV (fa fb:Ev->Option D):Ev->Option D:=fun ρ=>((fa ρ).bind asB).bind fun c=>if c then some (.bl true) else fb ρ
def fNotV (fa:Ev->Option D):Ev->Option D:=fun ρ=>((fa ρ).bind asB).map fun c=>.bl (!c)
def fIf (fc:Ev->Option Bool) (fa fb:Ev->Option D):Ev->Option D:=fun ρ=>(fc ρ).bind fun c=>if c then fa ρ else fb ρ
def zt:Ev->Option (List D):=fun _=>some []
def ze (fa:Ev->Option D) (fr:Ev->Option (List D)):Ev->Option (List D):=fun ρ=>(fa ρ).bind fun x=>(fr ρ).map (x::·)
def Wi (ds:List D):Option D:=if ds.length<=Kg then some (.lst ds) else none
def Wh (ds:List D):Option D:=if ds.length<=Kg then some (.tup ds) else none
def ZL (f:Ev->Option (List D)):Ev->Option D:=fun ρ=>(f ρ).bind Wi
def Zo (f:Ev->Option (List D)):Ev->Option D:=fun ρ=>(f ρ).bind Wh
def fA (g:List D->Option D) (f:Ev->Option (List D)):Ev->Option D:=fun ρ=>(f ρ).bind g
theorem zc {α β:Type} {o:Option α} {g:α->Option β} {y:β} (h:o.bind g=some y):∃ x,o=some x/\g x=some y:=by
 cases o with
 | none=>cases h
 | some x=>exact ⟨x,rfl,h⟩
theorem map_some {α β:Type} {o:Option α} {g:α->β} {y:β} (h:o.map g=some y):∃ x,o=some x/\g x=y:=by
 cases o with
 | none=>cases h
 | some x=>exact ⟨x,rfl,by simpa using h⟩
section
variable {X:Cx} {st:Bool} {os:List Nat} {e a b c:Kv} {t ta tb tc:TE} {tA tB':TT} {f fa fb fc:Ev->Option D} {ga gb:Ev->Option Bool} {pos:KB}
theorem SF.se (h:SF X os e t f):SE X st os e t f:=⟨h.pe,fun P6 P7 σ H ρ d Q m q k=>h.ok P6 P7 σ H ρ d Q m q fun a o H' s hn ho hw =>
 k _ _ s (Rep.bb (hw.rep ho (m.ntracked hn)))⟩
theorem SE.flat (h:SE X false os e t f):SE X true os e t (Yo f):=⟨h.pe,fun P6 P7 σ H ρ d Q m q k=>by
 obtain ⟨x,h1,h2⟩:=zc q
 split at h2
 ·cases h2
  rename_i hf
  exact h.ok P6 P7 σ H ρ _ Q m h1 fun v H' s r=>k v H' s (Rep.flat _ _ hf r)
 ·cases h2⟩
theorem SE.seq {k:Bool} (h:SE X true os e t f):SC X k os e t (zj k f):=⟨h.pe,fun P6 P7 σ H ρ ds Q m q kk=>by
 obtain ⟨x,h1,h2⟩:=zc q
 refine h.ok P6 P7 σ H ρ _ Q m h1 fun v H' s r=>?_
 cases k with
 | true =>
  cases x <;> simp only [asK] at h2 <;> cases h2
  ·simp only [Rep] at r
   obtain ⟨a,xs,rfl,hl,hr⟩:=r
   exact kk a xs H' s hl.sq hr
  ·simp only [Rep] at r
   obtain ⟨a,rfl,hl⟩:=r
   exact kk a _ H' s hl.sq .ints
 | false =>
  cases x <;> simp only [asK] at h2 <;> cases h2
  simp only [Rep] at r
  obtain ⟨a,xs,rfl,hl,hr⟩:=r
  exact kk a xs H' s hl hr⟩
theorem SF.seq (h:SF X os e t f):SC X true os e t (zj true f):=SE.seq (SF.se h)
theorem za (i:Nat) {x:Kw} (hi:i∉os:=by decide) (hN:X.N[i]?=some x:=by rfl) (hv:Vis X.env.scope x:=by first | exact Or.inl rfl | exact Or.inr (Or.inl rfl) | exact Or.inr (Or.inr rfl)) (hd:(x == ("__debug__":Kw))=false:=by decide)
  (hcd:(x == ("__classdict__":Kw))=false:=by decide):SE X st os (.Name x pos) (ZA i) (zb i):=⟨pv i hN hv hd hcd,fun P6 P7 σ H ρ d Q m q k=>by
 have q':ρ[i]?=some (some d):=by
  unfold zb at q
  cases z:ρ[i]? with
  | none=>rw [z] at q;cases q
  | some o=>rw [z] at q;cases o <;> simp at q;rw [q]
 obtain ⟨v,h1,h2⟩:=m.sh i d q' hi
 exact ⟨v,h1,k v H (.refl H) (Rep.bb h2)⟩⟩
theorem se_look (i:Nat) {x:Kw} (hN:X.N[i]?=some x:=by rfl) (hv:Vis X.env.scope x:=by first | exact Or.inl rfl | exact Or.inr (Or.inl rfl) | exact Or.inr (Or.inr rfl)) (hd:(x == ("__debug__":Kw))=false:=by decide)
  (hcd:(x == ("__classdict__":Kw))=false:=by decide):SE X false os (.Name x pos) (ZA i) (zb i):=⟨pv i hN hv hd hcd,fun P6 P7 σ H ρ d Q m q k=>by
 have q':ρ[i]?=some (some d):=by
  unfold zb at q
  cases z:ρ[i]? with
  | none=>rw [z] at q;cases q
  | some o=>rw [z] at q;cases o <;> simp at q;rw [q]
 obtain ⟨v,h1,h2⟩:=m.get q'
 exact ⟨v,h1,k v H (.refl H) h2⟩⟩
theorem sc_own (i:Nat) {x:Kw} (hi:i∈os:=by decide) (hN:X.N[i]?=some x:=by rfl) (hv:Vis X.env.scope x:=by first | exact Or.inl rfl | exact Or.inr (Or.inl rfl) | exact Or.inr (Or.inr rfl)) (hd:(x == ("__debug__":Kw))=false:=by decide)
  (hcd:(x == ("__classdict__":Kw))=false:=by decide):SC X true os (.Name x pos) (ZA i) (zj true (zb i)):=⟨pv i hN hv hd hcd,fun P6 P7 σ H ρ ds Q m q k=>by
 obtain ⟨a,o,d,h1,h2,h3,h4,h5⟩:=m.own i hi
 simp only [zj,zb,h2,Option.join,oB] at q
 cases o <;> cases d <;> simp only [Own] at h5 <;> simp only [id,oB,asK] at q <;> cases q
 exact ⟨_,h1,k a _ H (.refl H) (.inl (.inl h3)) h5⟩⟩
theorem zf {i:Int} {j p}:SE X st os (.Constant (.int i) j p) (tC (.int i)) (fC (.int i)):=⟨yj,fun P6 P7 σ H ρ d Q m q k=>by cases q;exact k _ H (.refl H) (by simp [Rep])⟩
theorem wQ {i:Bool} {j p}:SE X st os (.Constant (.bool i) j p) (tC (.bl i)) (fC (.bl i)):=⟨pe_bl,fun P6 P7 σ H ρ d Q m q k=>by cases q;exact k _ H (.refl H) (by simp [Rep])⟩
theorem Za {i:Kw} {j p}:SE X st os (.Constant (.str i) j p) (tC (.str i)) (fC (.str i)):=⟨yw,fun P6 P7 σ H ρ d Q m q k=>by cases q;exact k _ H (.refl H) (by simp [Rep])⟩
theorem jz {j p}:SE X st os (.Constant .none j p) (tC .non) (fC .non):=⟨pe_non,fun P6 P7 σ H ρ d Q m q k=>by cases q;exact k _ H (.refl H) (by simp [Rep])⟩
def ROk (K:KC) (r:R2) (g:D->D->Option D):Prop:=∀ (H:Hp) (B:Kc->Prop) (x y:V) (d1 d2 d:D) (Q:VK),(∀ a,B a->∃ o,H a=some o)->Rep K H B d1 x->Rep K H B d2 y->g d1 d2=some d ->
 (∀ v H',zT H H'->Rep K H' B d v->Q v H')->r x y H Q
theorem EOk.op {r:R2} {g:D->D->Option D} (hr:ROk X.K r g) (ha:EOk X.K st os ta fa) (hb:EOk X.K st os tb fb):EOk X.K st os (tOp r ta tb) (f2 g fa fb):=fun P6 P7 σ H ρ d Q m q k=>by
 obtain ⟨x,h1,h2⟩:=zc q
 obtain ⟨y,h3,h4⟩:=zc h2
 refine ha P6 P7 σ H ρ x _ m h1 fun v H1 s1 r1=>?_
 refine hb P6 P7 σ H1 ρ y _ (m.up s1) h3 fun u H2 s2 r2=>?_
 exact hr H2 _ v u x y d Q ((m.up (s1.trans s2)).bb st) (r1.up s2) r2 h4 fun w' H3 s3 r3=>k w' H3 ((s1.trans s2).trans s3) r3
theorem zE {op:Operator} {r:R2} {g:D->D->Option D} (ho:OpR X (binaryOp op) r) (hr:ROk X.K r g) (ha:SE X st os a ta fa) (hb:SE X st os b tb fb):SE X st os (.BinOp a op b pos) (tOp r ta tb) (f2 g fa fb) :=
 ⟨wV ho ha.pe hb.pe,EOk.op hr ha.ok hb.ok⟩
theorem jB {op:CmpOp} {r:R2} {g:D->D->Option D} (ho:OpR X (Km op) r) (hr:ROk X.K r g) (ha:SE X false os a ta fa) (hb:SE X false os b tb fb) (hm:behindInMarks op b=false):SE X false os (.Compare a [op] [b] pos) (tOp r ta tb) (f2 g fa fb) :=
 ⟨pe_cmpR ho ha.pe hb.pe hm,EOk.op hr ha.ok hb.ok⟩
theorem EOk.test (h:EOk X.K false os t f):TOk X.K os (YI t) (zI f):=fun P6 P7 σ H ρ b Q m q k=>by
 obtain ⟨x,h1,h2⟩:=zc q
 refine h P6 P7 σ H ρ x _ m h1 fun v H' s r=>?_
 cases x <;> simp only [asB] at h2 <;> cases h2
 simp only [Rep] at r
 exact ⟨_,r,k H' s⟩
theorem Zd {op:CmpOp} {r:R2} {g:D->D->Option D} (ho:OpR X (Km op) r) (hr:ROk X.K r g) (ha:SE X false os a ta fa) (hb:SE X false os b tb fb) (hm:behindInMarks op b=false):SB X os (.Compare a [op] [b] pos) (YI (tOp r ta tb)) (zI (f2 g fa fb)) :=
 ⟨YM ho ha.pe hb.pe hm,EOk.test (EOk.op hr ha.ok hb.ok)⟩
def wG (g g':D->D->Option D) (fa fb fc:Ev->Option D):Ev->Option D:=fun ρ=>(fa ρ).bind fun x=>(fb ρ).bind fun y=>((g x y).bind asB).bind fun c=>if c then (fc ρ).bind fun z=>g' y z else some (.bl false)
theorem EOk.chain {r r':R2} {g g':D->D->Option D} (hr:ROk X.K r g) (hr':ROk X.K r' g') (ha:EOk X.K false os ta fa) (hb:EOk X.K false os tb fb) (hc:EOk X.K false os tc fc):EOk X.K false os (tChain r r' ta tb tc) (wG g g' fa fb fc):=fun P6 P7 σ H ρ d Q m q k=>by
 obtain ⟨x,h1,h2⟩:=zc q
 obtain ⟨y,h3,h4⟩:=zc h2
 obtain ⟨cc,h5,h6⟩:=zc h4
 obtain ⟨z,h7,h8⟩:=zc h5
 refine ha P6 P7 σ H ρ x _ m h1 fun v H1 s1 r1=>?_
 refine hb P6 P7 σ H1 ρ y _ (m.up s1) h3 fun u H2 s2 r2=>?_
 refine hr H2 _ v u x y z _ ((m.up (s1.trans s2)).bb false) (r1.up s2) r2 h7 fun w' H3 s3 r3=>?_
 cases z <;> simp only [asB] at h8 <;> cases h8
 simp only [Rep] at r3
 refine ⟨_,r3,?_⟩
 cases cc with
 | true =>
  rw [KQ rfl] at h6 ⊢
  obtain ⟨z,h9,h10⟩:=zc h6
  refine hc P6 P7 σ H3 ρ z _ (m.up ((s1.trans s2).trans s3)) h9 fun w2 H4 s4 r4=>?_
  exact hr' H4 _ u w2 y z d Q ((m.up (((s1.trans s2).trans s3).trans s4)).bb false) (r2.up (s3.trans s4)) r4 h10 fun w3 H5 s5 r5=>k w3 H5 ((((s1.trans s2).trans s3).trans s4).trans s5) r5
 | false =>
  rw [KR Qi] at h6 ⊢
  cases h6
  exact k _ H3 ((s1.trans s2).trans s3) (by simp [Rep])
theorem sb_chain {op op':CmpOp} {r r':R2} {g g':D->D->Option D} (ho:OpR X (Km op) r) (hr:ROk X.K r g) (ho':OpR X (Km op') r') (hr':ROk X.K r' g') (ha:SE X false os a ta fa) (hb:SE X false os b tb fb) (hc:SE X false os c tc fc)
  (hm:lastMarks [op,op'] [b,c]=false:=by with_unfolding_all rfl):SB X os (.Compare a [op,op'] [b,c] pos) (YI (tChain r r' ta tb tc)) (zI (wG g g' fa fb fc)):=⟨pt_chain ho ho' ha.pe hb.pe hc.pe hm,EOk.test (EOk.chain hr hr' ha.ok hb.ok hc.ok)⟩
def UOk (K:KC) (r:V->Hp->VK->Prop) (g:D->Option D):Prop:=∀ (H:Hp) (B:Kc->Prop) (x:V) (d1 d:D) (Q:VK),(∀ a,B a->∃ o,H a=some o)->Rep K H B d1 x->g d1=some d ->
 (∀ v H',zT H H'->Rep K H' B d v->Q v H')->r x H Q
theorem se_un {op:UnaryOp} {r:V->Hp->VK->Prop} {g:D->Option D} (ho:UnR X (unaryOp op) r) (hr:UOk X.K r g) (ha:SE X st os a ta fa):SE X st os (.UnaryOp op a pos) (tUn r ta) (f1 g fa) :=
 ⟨pe_un ho ha.pe,fun P6 P7 σ H ρ d Q m q k=>by
  obtain ⟨x,h1,h2⟩:=zc q
  refine ha.ok P6 P7 σ H ρ x _ m h1 fun v H1 s1 r1=>?_
  exact hr H1 _ v x d Q ((m.up s1).bb st) r1 h2 fun w' H3 s3 r3=>k w' H3 (s1.trans s3) r3⟩
theorem jC (h:SE X false os e t f) (he:∀ whole,isTrue e X.env whole=(do let v <- whole;standAt e.pos;holding [v] (truthy v)):=by intro _;rfl):SB X os e (tB t) (zI f):=⟨pt_val h.pe he,EOk.test h.ok⟩
theorem Jl (h:SB X os a tA ga):SB X os (.UnaryOp .Not a pos) (tNot tA) (Y0 ga):=⟨pt_not h.pt,fun P6 P7 σ H ρ b Q m q k=>by
 obtain ⟨x,h1,h2⟩:=map_some q
 subst h2
 exact h.ok P6 P7 σ H ρ x _ m h1 fun H' s=>k H' s⟩
theorem SW.sb (h:SW X os e tA ga):SB X os e tA ga:=⟨h.pw.pt,h.ok⟩
theorem jW (h:SB X os a tA ga):SW X os (.BoolOp .And [a] pos) tA ga:=⟨pw_and1 h.pt,h.ok⟩
theorem sw_or1 (h:SB X os a tA ga):SW X os (.BoolOp .Or [a] pos) tA ga:=⟨pw_or1 h.pt,h.ok⟩
theorem wg {Zc:List Kv} (ha:SB X os a tA ga) (hb:SW X os (.BoolOp .And (b::Zc) pos) tB' gb):SW X os (.BoolOp .And (a::b::Zc) pos) (tAnd tA tB') (J5 ga gb):=⟨pw_and ha.pt hb.pw,fun P6 P7 σ H ρ b Q m q k=>by
 obtain ⟨x,h1,h2⟩:=zc q
 refine ha.ok P6 P7 σ H ρ x _ m h1 fun H' s=>?_
 cases x with
 | true=>rw [KQ rfl] at h2 ⊢;exact hb.ok P6 P7 σ H' ρ b Q (m.up s) h2 fun H2 s2=>k H2 (s.trans s2)
 | false=>rw [KR Qi] at h2 ⊢;cases h2;exact k H' s⟩
theorem sw_or {Zc:List Kv} (ha:SB X os a tA ga) (hb:SW X os (.BoolOp .Or (b::Zc) pos) tB' gb):SW X os (.BoolOp .Or (a::b::Zc) pos) (tOr tA tB') (fOr ga gb):=⟨pw_or ha.pt hb.pw,fun P6 P7 σ H ρ b Q m q k=>by
 obtain ⟨x,h1,h2⟩:=zc q
 refine ha.ok P6 P7 σ H ρ x _ m h1 fun H' s=>?_
 cases x with
 | true=>rw [KQ rfl] at h2 ⊢;cases h2;exact k H' s
 | false=>rw [KR Qi] at h2 ⊢;exact hb.ok P6 P7 σ H' ρ b Q (m.up s) h2 fun H2 s2=>k H2 (s.trans s2)⟩
theorem se_one {op} (h:SE X st os a t f):SE X st os (.BoolOp op [a] pos) t f:=⟨pe_one h.pe,h.ok⟩
theorem se_and {Zc:List Kv} (ha:SE X st os a ta fa) (hb:SE X st os (.BoolOp .And (b::Zc) pos) tb fb):SE X st os (.BoolOp .And (a::b::Zc) pos) (tAndV ta tb) (fAndV fa fb):=⟨pe_and ha.pe hb.pe,fun P6 P7 σ H ρ d Q m q k=>by
 obtain ⟨x,h1,h2⟩:=zc q
 obtain ⟨y,h3,h4⟩:=zc h1
 refine ha.ok P6 P7 σ H ρ y _ m h3 fun v H' s r=>?_
 cases y <;> simp only [asB] at h4 <;> cases h4
 simp only [Rep] at r
 refine ⟨_,r,?_⟩
 cases x with
 | true=>rw [KQ rfl] at h2 ⊢;exact hb.ok P6 P7 σ H' ρ d Q (m.up s) h2 fun v H2 s2=>k v H2 (s.trans s2)
 | false=>rw [KR Qi] at h2 ⊢;cases h2;exact k _ H' s (by simp [Rep])⟩
theorem se_if (hc:SB X os c tA ga) (ha:SE X st os a ta fa) (hb:SE X st os b tb fb):SE X st os (.IfExp c a b pos) (tIf tA ta tb) (fIf ga fa fb):=⟨pe_ifExp hc.pt ha.pe hb.pe,fun P6 P7 σ H ρ d Q m q k=>by
 obtain ⟨x,h1,h2⟩:=zc q
 refine hc.ok P6 P7 σ H ρ x _ m h1 fun H' s=>?_
 cases x with
 | true=>rw [KQ rfl] at h2 ⊢;exact ha.ok P6 P7 σ H' ρ d Q (m.up s) h2 fun v H2 s2=>k v H2 (s.trans s2)
 | false=>rw [KR Qi] at h2 ⊢;exact hb.ok P6 P7 σ H' ρ d Q (m.up s) h2 fun v H2 s2=>k v H2 (s.trans s2)⟩
variable {es:List Kv} {tl:TA} {fl:Ev->Option (List D)}
theorem zA:SA X st os [] ZS zt:=⟨Zj,fun P6 P7 σ H ρ ds Q m q k=>by cases q;exact k [] H (.refl H) .nil⟩
theorem zg (ha:SE X st os e t f) (hr:SA X st os es tl fl) (hs:Ke (e::es) X.env=(false,Kz e X.env)::Ke es X.env:=by rfl):SA X st os (e::es) (zW t tl) (ze f fl):=⟨zM ha.pe hr.pa hs,fun P6 P7 σ H ρ ds Q m q k=>by
 obtain ⟨x,h1,h2⟩:=zc q
 obtain ⟨y,h3,h4⟩:=map_some h2
 subst h4
 refine ha.ok P6 P7 σ H ρ x _ m h1 fun v H1 s1 r1=>?_
 refine hr.ok P6 P7 σ H1 ρ y _ (m.up s1) h3 fun vs H2 s2 r2=>?_
 exact k _ H2 (s1.trans s2) (.cons (r1.up s2) r2)⟩
theorem ZI {x1} (h:SA X st os es tl fl):SE X st os (.Tuple es x1 pos) (tTup tl) (Zo fl):=⟨wv h.pa,fun P6 P7 σ H ρ d Q m q k=>by
 obtain ⟨ds,h1,h2⟩:=zc q
 unfold Wh at h2
 split at h2
 ·cases h2
  rename_i hl
  refine h.ok P6 P7 σ H ρ ds _ m h1 fun vs H1 s1 r1=>⟨by rw [r1.length];exact hl,fun p hp=>?_⟩
  refine k _ _ (s1.trans (zG hp)) ?_
  simp only [Rep]
  exact ⟨p,vs,rfl,.inl (.inl zw),r1.up (zG hp)⟩
 ·cases h2⟩
theorem ye (h:SA X true os es tl fl):SF X os (.List es pos) (tLst tl) (ZL fl):=⟨jd h.pa,fun P6 P7 σ H ρ d Q m q k=>by
 obtain ⟨ds,h1,h2⟩:=zc q
 unfold Wi at h2
 split at h2
 ·cases h2
  rename_i hl
  refine h.ok P6 P7 σ H ρ ds _ m h1 fun vs H1 s1 r1=>⟨by rw [r1.length];exact hl,fun p hp=>?_⟩
  exact k p _ _ (s1.trans (zG hp)) (s1.free hp) zw (zr.goes (.fresh hp (zG hp)) _ _ r1)
 ·cases h2⟩
def dIx (ds:List D) (d:D):Option D:=match d with | .int i=>atI ds i | _=>none
def fIx (fa:Ev->Option (List D)) (fb:Ev->Option D):Ev->Option D:=fun ρ=>(fa ρ).bind fun ds=>(fb ρ).bind fun i=>dIx ds i
theorem zr.atI {K:KC} {H:Hp} {B:Kc->Prop} {ds:List D} {vs:List V} {i:Int} {d:D} (h:zr K H B ds vs) (e:L2.atI ds i=some d):∃ v,L2.atI vs i=some v/\Rep K H B d v:=by
 unfold L2.atI at e ⊢
 rw [h.length]
 cases z:ixN ds.length i with
 | none=>rw [z] at e;cases e
 | some j =>
  rw [z] at e
  exact h.get e
theorem Z6 {ca:Ev->Option (List D)} (ha:SC X true os a ta ca) (hb:SE X true os b tb fb) (hs:Wy b:=by intro _ _;rfl) {K':KC} (hK:X.K=K':=by rfl):SE X st os (.Subscript a b pos) (tOp (rIxL K') ta tb) (fIx ca fb):=by
 subst hK
 exact ⟨wW j3 ha.pe hb.pe hs,fun P6 P7 σ H ρ d Q m q k=>by
 obtain ⟨ds,h1,h2⟩:=zc q
 obtain ⟨y,h3,h4⟩:=zc h2
 refine ha.ok P6 P7 σ H ρ ds _ m h1 fun p xs H1 s1 hq r1=>?_
 refine hb.ok P6 P7 σ H1 ρ y _ (m.up s1) h3 fun u H2 s2 r2=>?_
 cases y <;> simp only [dIx] at h4 <;> try (cases h4)
 simp only [Rep] at r2
 obtain ⟨v,q1,q2⟩:=(r1.up s2).atI h4
 exact ⟨p,xs,_,v,rfl,r2,s2.seq hq,q1,k v H2 (s1.trans s2) (Rep.bb q2)⟩⟩
theorem zC {ca:Ev->Option (List D)} (ha:SC X false os a ta ca) (hb:SE X true os b tb fb) (hs:Wy b:=by intro _ _;rfl) {K':KC} (hK:X.K=K':=by rfl):SE X st os (.Subscript a b pos) (tOp (rIxT K') ta tb) (fIx ca fb):=by
 subst hK
 exact ⟨wW ix_tup ha.pe hb.pe hs,fun P6 P7 σ H ρ d Q m q k=>by
 obtain ⟨ds,h1,h2⟩:=zc q
 obtain ⟨y,h3,h4⟩:=zc h2
 refine ha.ok P6 P7 σ H ρ ds _ m h1 fun p xs H1 s1 hq r1=>?_
 refine hb.ok P6 P7 σ H1 ρ y _ (m.up s1) h3 fun u H2 s2 r2=>?_
 cases y <;> simp only [dIx] at h4 <;> try (cases h4)
 simp only [Rep] at r2
 obtain ⟨v,q1,q2⟩:=(r1.up s2).atI h4
 exact ⟨p,xs,_,v,rfl,r2,SqT.same s2 hq,q1,k v H2 (s1.trans s2) (Rep.bb q2)⟩⟩
structure SO (X:Cx) (os:List Nat) (e:Option Kv) (t:TO) (f:Ev->Option (Option Int)):Prop where
 po:PO X e t
 ok:∀ (P6:Hp) (P7:Kc->Prop) (σ:St) (H:Hp) (ρ:Ev) (d:Option Int) (Q:Option Int->Hp->Prop),Md X.K P6 P7 os σ H ρ->f ρ=some d->(∀ H',zT H H'->Q d H')->t σ H Q
def asI:D->Option Int
 | .int i=>some i
 | _=>none
def fNo:Ev->Option (Option Int):=fun _=>some none
def YS (f:Ev->Option D):Ev->Option (Option Int):=fun ρ=>(f ρ).bind fun d=>(asI d).map some
theorem JP:SO X os none tNoPart fNo:=⟨po_none,fun P6 P7 σ H ρ d Q m q k=>by cases q;exact k H (.refl H)⟩
theorem JO (h:SE X false os e t f):SO X os (some e) (tPart t) (YS f):=⟨po_some h.pe,fun P6 P7 σ H ρ d Q m q k=>by
 obtain ⟨x,h1,h2⟩:=zc q
 obtain ⟨i,h3,h4⟩:=map_some h2
 subst h4
 refine h.ok P6 P7 σ H ρ x _ m h1 fun v H' s r=>?_
 cases x <;> simp only [asI] at h3 <;> cases h3
 simp only [Rep] at r
 exact ⟨_,r,k H' s⟩⟩
def cutD (ds:List D) (lo hi:Option Int):List D:=(ds.drop (HT.sIx ds.length 0 lo)).take (HT.sIx ds.length ds.length hi - HT.sIx ds.length 0 lo)
theorem zr.cut {K:KC} {H:Hp} {B:Kc->Prop} {ds:List D} {vs:List V} {lo hi:Option Int} (h:zr K H B ds vs):zr K H B (cutD ds lo hi) (gx vs lo hi):=by
 unfold cutD gx
 rw [h.length]
 exact (h.drop _).take _
def fCut (g:List D->D) (fa:Ev->Option (List D)) (fl fu:Ev->Option (Option Int)):Ev->Option D:=fun ρ=>(fa ρ).bind fun ds=>(fl ρ).bind fun lo=>(fu ρ).bind fun hi=>some (g (cutD ds lo hi))
end
end M
namespace L2
open PySem PySem.Spec PyProof.Rows
section
variable {X:Cx}
theorem iter_seq {k:Bool} {KJ:List (Kc×KA)} {s:Kb} {σ:St} {H:Hp} {p:Kc} {xs:List V} {E:Ka->Kb->Prop} {R:Ka->Kb->Prop} (hc:X.calm=true) (I:Inv X KJ σ H s) (hq:Sq k X.K H p xs)
  (h:∀ (KP:List Ka) (s₂:Kb) (fp wr:List Kc) (S:Nat->Kl->Prop),zY xs KP->Walks X.prog X.w X.A.in1 s.heap.objs.size fp wr KP.toArray.size (fun i v=>KP.toArray[i]?=some v) S->S 0 s₂.heap->(∀ b∈fp,b<s₂.heap.objs.size) ->
   (∀ h' tk,(∀ b o,b∉wr->s₂.heap.get? b=some o->h'.get? b=some o)->Inv X KJ σ H { s₂ with heap:=h',toks:=tk })->R (.ref s.heap.objs.size) s₂) :
  Ko (Ky X.prog X.w) X.A.in1 (pyIter (.ref p)) R E s:=by
 obtain ⟨KP,r,pl,hz⟩:=I.seq hq
 have hh:X.A.in1.handled=none:=I.ok.hd hc
 have hlt:p<s.heap.objs.size:=pl.lt
 have hne:p≠s.heap.objs.size:=Qu hlt
 have old:∀ (ob:KA) (h':Kl),(∀ b o,b∉[s.heap.objs.size]->(s.heap.push ob).get? b=some o->h'.get? b=some o)->∀ b o,s.heap.get? b=some o->h'.get? b=some o:=fun ob h' hk b o e =>
  hk b o (fun hm=>by
   have:b=s.heap.objs.size:=by simpa using hm
   exact absurd (this▸Qk e) (Pd _)) (Qb _ e)
 cases k with
 | true =>
  refine wpAny_pyIter_list pl (h KP _ [s.heap.objs.size,p] [s.heap.objs.size] _ r (Walks.list hh _ p hne KP.toArray) ⟨⟨_,Qp _ rfl,rfl,rfl⟩,Heap.IsList.at pl fun o e=>Qb _ e⟩ ?_ fun h' tk hk=>I.kept (old _ h' hk))
  intro b hb
  rw [QH]
  rcases Qc.mp hb with rfl | hb
  ·exact Q0 _
  ·have:b=p:=by simpa using hb
   subst this;exact Q1 hlt
 | false =>
  refine P4 pl (h KP _ [s.heap.objs.size,p] [s.heap.objs.size] _ r (Walks.tuple hh _ p hne KP.toArray) ⟨⟨_,Qp _ rfl,rfl,rfl⟩,Heap.IsTuple.at pl fun o e=>Qb _ e⟩ ?_ fun h' tk hk=>I.kept (old _ h' hk))
  intro b hb
  rw [QH]
  rcases Qc.mp hb with rfl | hb
  ·exact Q0 _
  ·have:b=p:=by simpa using hb
   subst this;exact Q1 hlt
theorem vals_int {ns:List Int} {KP:List Ka} (r:zY (ns.map V.int) KP) {i:Nat} {v:Ka} (h:KP.toArray[i]?=some v):∃ t,v=.int (ns.getD i 0) t:=by
 have hl:=r.length
 rw [Ql] at hl
 have h':KP[i]?=some v:=by simpa using h
 have hi:i<ns.length:=by have:=(Qm.mp h').1;omega
 obtain ⟨u,h1,h2⟩:=r.get (i:=i) (x:=.int ns[i]) (by simp [hi])
 rw [h'] at h1;cases h1
 obtain ⟨t,rfl⟩:=h2
 exact ⟨t,by simp [List.getD,hi]⟩
theorem WY (val:Nat->Int) (a:Int):∀ n,preSum (fun i=>if i=0 then a else val (i - 1)) (n+1)=a+preSum val n
 | 0=>by simp [preSum]
 | n+1=>by rw [preSum,WY val a n,preSum];simp;omega
theorem wU:∀ (ns:List Int),preSum (fun i=>ns.getD i 0) ns.length=ns.sum
 | []=>rfl
 | a::r=>by
  have e:(fun i=>(a::r).getD i 0)=fun i=>if i=0 then a else r.getD (i - 1) 0:=by
   funext i;cases i <;> simp [List.getD]
  rw [e,Qg,WY (fun j=>r.getD j 0) a,wU r,List.sum_cons]
theorem call_sumI (k:Bool) (hc:X.calm=true):J9 X (.builtin "sum") (fun xs H Q=>∃ (p:Kc) (ns:List Int),xs=[.ref p]/\Sq k X.K H p (ns.map V.int)/\Q (.int ns.sum) H):=by
 intro KJ s σ H xs us Q I r h
 obtain ⟨p,ns,rfl,hq,q⟩:=h
 obtain ⟨u,rfl,ru⟩:=vals1 r
 cases ru
 refine call_sum_walkG (iter_seq hc I hq fun KP s₂ fp wr S rv W st hfp fin=>?_)
 refine ⟨_,fp,wr,_,_,S,fun i=>ns.getD i 0,rfl,W,st,hfp,fun i v hv=>vals_int rv hv,fun h' tk t' hk=>?_⟩
 have hl:KP.toArray.size=ns.length:=by have:=rv.length;simpa using this.symm
 rw [hl,wU]
 exact ⟨.int ns.sum,H,fin h' tk hk,⟨_,rfl⟩,q⟩
def JJ:List String:=["int","bool","str","list","tuple","dict"]
theorem YH:∀ T∈JJ,typeOf (.type T)=pure (.type "type"):=by
 intro T h
 simp only [JJ,Qc,Qn,or_false] at h
 rcases h with rfl | rfl | rfl | rfl | rfl | rfl <;> rfl
theorem sub_tab:∀ Tx∈("NoneType"::JJ),∀ T∈JJ,isSubtype (.type Tx) (.type T)=pure (Tx == T||(Tx == "bool"&&T == "int")):=by
 intro Tx hx T h
 rw [isSubtype_type]
 simp only [JJ,Qc,Qn,or_false] at h hx
 rcases hx with rfl | rfl | rfl | rfl | rfl | rfl | rfl <;> rcases h with rfl | rfl | rfl | rfl | rfl | rfl <;> kernel_rfl
def TyN (K:KC) (H:Hp) (x:V) (n:String):Prop:=match x with
 | .non=>n="NoneType"
 | .bl _=>n="bool"
 | .int _=>n="int"
 | .str _=>n="str"
 | .ref p=>(n="list"/\∃ xs,SqL K H p xs)\/(n="tuple"/\∃ xs,SqT K H p xs)\/(n="dict"/\∃ KO,H p=some (.dK KO))
 | _=>False
theorem call_isi:J9 X (.builtin "isinstance") (fun xs H Q=>∃ x T n,xs=[x,.ty T]/\T∈JJ/\TyN X.K H x n/\Q (.bl (n == T||(n == "bool"&&T == "int"))) H):=by
 intro KJ s σ H xs us Q I r h
 obtain ⟨x,T,n,rfl,hT,hn,q⟩:=h
 obtain ⟨u,u',rfl,ru,ru'⟩:=vals2 r
 obtain rfl:u'=Value.type T:=ru'
 have fin:∀ tk,EP X KJ σ Q (.bool (n == T||(n == "bool"&&T == "int"))) { s with toks:=tk }:=fun tk=>⟨.bl _,H,I.tok tk,rfl,q⟩
 have nm:n∈("NoneType"::JJ):=by
  cases x with
  | non=>cases (show n=_ from hn);decide
  | bl b=>cases (show n=_ from hn);decide
  | int b=>cases (show n=_ from hn);decide
  | str b=>cases (show n=_ from hn);decide
  | ref p=>rcases hn with ⟨rfl,_⟩ | ⟨rfl,_⟩ | ⟨rfl,_⟩ <;> decide
  | _=>exact (show False from hn).elim
 have hs:=sub_tab n nm T hT
 have ty:s.TypeIs u n:=by
  cases x with
  | non=>cases (show n=_ from hn);cases ru;exact PySem.typeIs_none s
  | bl b=>cases (show n=_ from hn);cases ru;exact PySem.typeIs_bool s b
  | int b=>cases (show n=_ from hn);obtain ⟨t,rfl⟩:=ru;exact typeIs_int s b t
  | str b=>cases (show n=_ from hn);obtain ⟨t,rfl⟩:=ru;exact typeIs_str s b t
  | ref p =>
   cases ru
   rcases hn with ⟨rfl,xs,hq⟩ | ⟨rfl,xs,hq⟩ | ⟨rfl,KO,hk⟩
   ·obtain ⟨KP,_,pl,_⟩:=I.list hq;exact pl.isList.typeIs
   ·obtain ⟨KP,_,pl,_⟩:=I.tuple hq;exact pl.typeIs
   ·obtain ⟨_,_,_,_,o,_,_,e,ex,_⟩:=I.hok p _ hk;exact ⟨o,e,ex.1⟩
  | _=>exact (show False from hn).elim
 cases hb:(n == T||(n == "bool"&&T == "int")) with
 | true =>
  rw [hb] at hs
  have f:=fin s.toks
  rw [hb] at f
  exact call_isinstance (isinstance_true (YH T hT) hs) ⟨ty,f⟩
 | false =>
  rw [hb] at hs
  have f:=fin (s.toks+1)
  rw [hb] at f
  have hne:(Value.type n == Value.type T)=false:=by
   have e:(n == T)=false:=by cases z:(n == T) <;> simp [z] at hb ⊢
   have e':n≠T:=by simpa using e
   exact beq_eq_false_iff_ne.mpr fun z=>e' (by injection z)
  cases x with
  | non=>cases (show n=_ from hn);cases ru;exact call_isinstance (isinstance_false_none hne (YH T hT) hs) f
  | bl b=>cases (show n=_ from hn);cases ru;exact call_isinstance (isinstance_false_bool hne (YH T hT) hs) f
  | int b=>cases (show n=_ from hn);obtain ⟨t,rfl⟩:=ru;exact call_isinstance (isinstance_false_int hne (YH T hT) hs) f
  | str b=>cases (show n=_ from hn);obtain ⟨t,rfl⟩:=ru;exact call_isinstance (isinstance_false_str hne (YH T hT) hs) f
  | ref p =>
   cases ru
   rcases hn with ⟨rfl,_⟩ | ⟨rfl,_⟩ | ⟨rfl,_⟩
   ·obtain ⟨o,e,c⟩:=ty;exact call_isinstance (isinstance_false_list hne (YH T hT) hs) ⟨⟨o,e,c⟩,f⟩
   ·obtain ⟨o,e,c⟩:=ty;exact call_isinstance (isinstance_false_tuple hne (YH T hT) hs) ⟨⟨o,e,c⟩,f⟩
   ·obtain ⟨o,e,c⟩:=ty;exact call_isinstance (isinstance_false_dict hne (YH T hT) hs) ⟨⟨o,e,c⟩,f⟩
  | _=>exact (show False from hn).elim
def rCatS:R2:=fun x y H Q=>∃ l b xs zs,x=.ref l/\y=.ref b/\Rd H l (.lst xs)/\Rd H b (.lst zs)/\xs.length+zs.length<=Kg/\∀ p,H p=none->Q (.ref p) (upd H p (.lst (xs++zs)))
theorem op_catS:OpR X (binaryOp .Add) rCatS:=by
 intro KJ s σ H x y v u Q I rx ry h
 obtain ⟨l,b,xs,zs,rfl,rfl,hH,hB,hz,q⟩:=h
 cases rx
 cases ry
 obtain ⟨z,KP,n,r,e⟩:=hH.ok I.hok
 obtain ⟨z2,its2,n2,r2,e2⟩:=hB.ok I.hok
 have hl:=r.length
 have hl2:=r2.length
 refine PySem.P.add_list e e2 ?_ (by rw [Qj,Qj];omega)
 have ea:KP.toArray++its2.toArray=(KP++its2).toArray:=by simp
 rw [ea]
 exact ⟨.ref _,_,I.lnew (t':=s.toks) (r.append r2) (by rw [Qd];omega),rfl,q _ I.fresh⟩
theorem yk:OpR X (binaryOp .Mult) (rI IntMulOk fun i j=>.int (i*j)):=opI fun _ _ _ _ _ _ _ hc q=>mul_int q hc
def CDivB (i j:Int):Prop:=j≠0
theorem op_fdivP (hr:Room 34 X.A):OpR X (binaryOp .FloorDiv) (rI CDivB fun i j=>.int (i.fdiv j)):=by
 intro KJ s σ H x y v u Q I rx ry h
 obtain ⟨i,j,rfl,rfl,hc,q⟩:=h
 obtain ⟨t,rfl⟩:=rx
 obtain ⟨t',rfl⟩:=ry
 refine floordiv_int hc ⟨.int (i.fdiv j),H,I.tok _,⟨_,rfl⟩,q⟩ (.inr ?_)
 obtain ⟨e,l,h1,h2,h3,h4,h5⟩:=I.ok.top
 exact PylongRoom.of I.nolimit (by have:=hr.dp;show X.A.depth+100<_;omega) (SeerAt.of (I.mod.seer.keeps I.bk) I.ok.tree (by rw [I.ok.frames,h1]) h2 h3 h4 h5)
end
end L2
namespace M
open PySem PySem.Spec L2
open PySem.W (Frag)
def dI (g:Int->Int->D):D->D->Option D
 | .int i,.int j=>some (g i j)
 | _,_=>none
def dIc (C:Int->Int->Prop) (g:Int->Int->D):D->D->Option D
 | .int i,.int j=>open Classical in if C i j then some (g i j) else none
 | _,_=>none
section
variable {K:KC}
theorem WV {g:Int->Int->V} {g':Int->Int->D} (h:∀ H B i j,Rep K H B (g' i j) (g i j)):ROk K (rI0 g) (dI g'):=fun H B x y d1 d2 d Q hB r1 r2 e k=>by
 cases d1 <;> cases d2 <;> simp only [dI] at e <;> cases e
 simp only [Rep] at r1 r2
 exact ⟨_,_,r1,r2,k _ H (.refl H) (h _ _ _ _)⟩
theorem rok_I {C:Int->Int->Prop} {g:Int->Int->V} {g':Int->Int->D} (h:∀ H B i j,Rep K H B (g' i j) (g i j)):ROk K (rI C g) (dIc C g'):=fun H B x y d1 d2 d Q hB r1 r2 e k=>by
 cases d1 <;> cases d2 <;> simp only [dIc] at e <;> try (cases e;done)
 split at e
 ·rename_i hc
  cases e
  simp only [Rep] at r1 r2
  exact ⟨_,_,r1,r2,hc,k _ H (.refl H) (h _ _ _ _)⟩
 ·cases e
theorem yD {H:Hp} {B:Kc->Prop} {i:Int}:Rep K H B (.int i) (.int i):=by simp [Rep]
theorem YW {H:Hp} {B:Kc->Prop} {i:Bool}:Rep K H B (.bl i) (.bl i):=by simp [Rep]
abbrev Ze:=dI fun i j=>.int (i+j)
abbrev JB:=dI fun i j=>.int (i - j)
abbrev Yg:=dIc IntMulOk fun i j=>.int (i*j)
abbrev Y7:=dIc CDiv fun i j=>.int (i / j)
abbrev dDivP:=dIc CDivB fun i j=>.int (i.fdiv j)
abbrev yN:=dIc (fun _ j=>0<j) fun i j=>.int (i % j)
abbrev dLt:=dI fun i j=>.bl (decide (i<j))
abbrev dLe:=dI fun i j=>.bl (decide (i<=j))
abbrev dGt:=dI fun i j=>.bl (decide (j<i))
theorem zQ:ROk K (rI0 fun i j=>.int (i+j)) Ze:=WV fun _ _ _ _=>yD
theorem jb:ROk K (rI0 fun i j=>.int (i - j)) JB:=WV fun _ _ _ _=>yD
theorem yi:ROk K (rI IntMulOk fun i j=>.int (i*j)) Yg:=rok_I fun _ _ _ _=>yD
theorem yC:ROk K (rI CDiv fun i j=>.int (i / j)) Y7:=rok_I fun _ _ _ _=>yD
theorem rok_divP:ROk K (rI CDivB fun i j=>.int (i.fdiv j)) dDivP:=rok_I fun _ _ _ _=>yD
theorem ZB:ROk K (rI (fun _ j=>0<j) fun i j=>.int (i % j)) yN:=rok_I fun _ _ _ _=>yD
theorem rok_lt:ROk K (rI0 fun i j=>.bl (decide (i<j))) dLt:=WV fun _ _ _ _=>YW
theorem rok_le:ROk K (rI0 fun i j=>.bl (decide (i<=j))) dLe:=WV fun _ _ _ _=>YW
theorem WU:ROk K (rI0 fun i j=>.bl (decide (j<i))) dGt:=WV fun _ _ _ _=>YW
def eqS:D->D->Option Bool
 | .int i,.int j=>some (decide (i=j))
 | .bl i,.bl j=>some (decide (i=j))
 | .str i,.str j=>some (decide (i=j))
 | .non,.non=>some true
 | .non,.int _=>some false | .int _,.non=>some false | .non,.bl _=>some false | .bl _,.non=>some false | .non,.str _=>some false | .str _,.non=>some false
 | .int _,.str _=>some false | .str _,.int _=>some false | .bl _,.str _=>some false | .str _,.bl _=>some false
 | _,_=>none
def ZJ (x y:D):Option D:=(eqS x y).map .bl
def wI (x y:D):Option D:=(eqS x y).map fun b=>.bl (!b)
theorem eqS_v {H:Hp} {B:Kc->Prop} {d1 d2:D} {x y:V} {b:Bool} (r1:Rep K H B d1 x) (r2:Rep K H B d2 y) (e:eqS d1 d2=some b):scal x y=true/\decide (x=y)=b:=by
 cases d1 <;> cases d2 <;> simp only [eqS] at e <;> cases e <;> simp only [Rep] at r1 r2 <;> subst r1 <;> subst r2 <;> simp [scal]
theorem Zl:ROk K rEq ZJ:=fun H B x y d1 d2 d Q hB r1 r2 e k=>by
 obtain ⟨b,h1,rfl⟩:=map_some e
 obtain ⟨h2,h3⟩:=eqS_v r1 r2 h1
 exact ⟨h2,k _ H (.refl H) (by rw [h3];exact YW)⟩
theorem rok_neS:ROk K rNe wI:=fun H B x y d1 d2 d Q hB r1 r2 e k=>by
 obtain ⟨b,h1,rfl⟩:=map_some e
 obtain ⟨h2,h3⟩:=eqS_v r1 r2 h1
 exact ⟨h2,k _ H (.refl H) (by rw [h3];exact YW)⟩
def YA:D->Bool
 | .non=>true
 | _=>false
def dIsN (x y:D):Option D:=if YA y then some (.bl (YA x)) else none
def dNotN (x y:D):Option D:=if YA y then some (.bl (!YA x)) else none
theorem Wt {H:Hp} {B:Kc->Prop} {d:D} {x:V} (r:Rep K H B d x):decide (x=.non)=YA d:=by
 cases d <;> simp only [Rep] at r <;> first | (subst r;simp [YA];done) | (obtain ⟨rfl,_⟩:=r;simp [YA];done) | (obtain ⟨a,xs,rfl,_⟩:=r;simp [YA]) | (obtain ⟨a,rfl,_⟩:=r;simp [YA])
theorem rok_isN:ROk K (fun x y H Q=>y=.non/\Q (.bl (decide (x=.non))) H) dIsN:=fun H B x y d1 d2 d Q hB r1 r2 e k=>by
 unfold dIsN at e
 split at e
 ·cases e
  rename_i z
  have:=Wt r2
  rw [z] at this
  exact ⟨of_decide_eq_true this,k _ H (.refl H) (by rw [Wt r1];exact YW)⟩
 ·cases e
theorem rok_notN:ROk K (fun x y H Q=>y=.non/\Q (.bl (!decide (x=.non))) H) dNotN:=fun H B x y d1 d2 d Q hB r1 r2 e k=>by
 unfold dNotN at e
 split at e
 ·cases e
  rename_i z
  have:=Wt r2
  rw [z] at this
  exact ⟨of_decide_eq_true this,k _ H (.refl H) (by rw [Wt r1];exact YW)⟩
 ·cases e
def wH:D->Option D
 | .int i=>some (.int (-i))
 | _=>none
theorem jV:UOk K (rU fun i=>.int (-i)) wH:=fun H B x d1 d Q hB r e k=>by
 cases d1 <;> simp only [wH] at e <;> cases e
 simp only [Rep] at r
 exact ⟨_,r,k _ H (.refl H) yD⟩
def truD:D->Option Bool
 | .non=>some false
 | .bl b=>some b
 | .int i=>some (i != 0)
 | .lst ds=>some (!ds.isEmpty)
 | .tup ds=>some (!ds.isEmpty)
 | .dict ks _=>some (!ks.isEmpty)
 | .scr ns=>some (!ns.isEmpty)
 | .str _=>none
 | .adr _=>none
 | .kset _=>none
 | .tk _=>none
 | .pin _ _=>none
theorem zr.isEmpty {H:Hp} {B:Kc->Prop} {ds:List D} {vs:List V} (h:zr K H B ds vs):vs.isEmpty=ds.isEmpty:=by
 have:=h.length
 cases vs <;> cases ds <;> simp_all
end
def fTru (f:Ev->Option D):Ev->Option Bool:=fun ρ=>(f ρ).bind truD
section
variable {X:Cx} {st:Bool} {os:List Nat} {e a b c:Kv} {es:List Kv} {t ta tb tc:TE} {tl:TA} {f fa fb fc:Ev->Option D} {fl:Ev->Option (List D)} {pos p:KB} {x:Kw}
def Wg (fa fb:Ev->Option (List D)):Ev->Option D:=fun ρ=>(fa ρ).bind fun x=>(fb ρ).bind fun y=>Wi (x++y)
def asL:D->Option (List D)
 | .lst ds=>some ds
 | _=>none
structure SL (X:Cx) (os:List Nat) (e:Kv) (t:TE) (f:Ev->Option (List D)):Prop where
 pe:PE X e t
 ok:∀ (P6:Hp) (P7:Kc->Prop) (σ:St) (H:Hp) (ρ:Ev) (ds:List D) (Q:VK),Md X.K P6 P7 os σ H ρ->f ρ=some ds->(∀ a xs H',zT H H'->Rd H' a (.lst xs)->zr X.K H' (Bl P7 os σ) ds xs->Q (.ref a) H')->t σ H Q
def fL (f:Ev->Option D):Ev->Option (List D):=fun ρ=>(f ρ).bind asL
theorem SE.sl (h:SE X true os e t f):SL X os e t (fL f):=⟨h.pe,fun P6 P7 σ H ρ ds Q m q k=>by
 obtain ⟨x,h1,h2⟩:=zc q
 cases x <;> simp only [asL] at h2 <;> cases h2
 refine h.ok P6 P7 σ H ρ _ Q m h1 fun v H' s r=>?_
 simp only [Rep] at r
 obtain ⟨a,xs,rfl,hl,hr⟩:=r
 exact k a xs H' s hl.1 hr⟩
theorem SF.sl (h:SF X os e t f):SL X os e t (fL f):=SE.sl (SF.se h)
variable {la lb:Ev->Option (List D)}
theorem sf_cat (ha:SL X os a ta la) (hb:SL X os b tb lb):SF X os (.BinOp a .Add b pos) (tOp rCatS ta tb) (Wg la lb):=⟨wV op_catS ha.pe hb.pe,fun P6 P7 σ H ρ d Q m q k=>by
 obtain ⟨x,h1,h2⟩:=zc q
 obtain ⟨y,h3,h4⟩:=zc h2
 unfold Wi at h4
 split at h4
 ·rename_i hl
  cases h4
  refine ha.ok P6 P7 σ H ρ x _ m h1 fun p1 xs H1 s1 hq1 r1=>?_
  refine hb.ok P6 P7 σ H1 ρ y _ (m.up s1) h3 fun p2 ys H2 s2 hq2 r2=>?_
  refine ⟨p1,p2,xs,ys,rfl,rfl,Rd.same s2 hq1,hq2,by rw [r1.length,r2.length,<- Qd];exact hl,fun p' hp=>?_⟩
  exact k p' _ _ ((s1.trans s2).trans (zG hp)) ((s1.trans s2).free hp) zw (zr.goes (.fresh hp (zG hp)) _ _ ((r1.up s2).append r2))
 ·cases h4⟩
def dRep (ds:List D) (d:D):Option D:=match d with | .int k=>if -(2 ^ 63)<=k/\k<2 ^ 63/\ds.length*k.toNat<=Kg then some (.lst (List.replicate k.toNat ds).flatten) else none | _=>none
def fRep (fa:Ev->Option (List D)) (fb:Ev->Option D):Ev->Option D:=fun ρ=>(fa ρ).bind fun x=>(fb ρ).bind fun y=>dRep x y
theorem sf_rep {u:Ev->Option D} (ha:SF X os a ta u) (hb:SE X true os b tb fb):SF X os (.BinOp a .Mult b pos) (tOp rRep ta tb) (fRep (fL u) fb):=⟨wV op_rep ha.pe hb.pe,fun P6 P7 σ H ρ d Q m q k=>by
 obtain ⟨x,h1,h2⟩:=zc q
 obtain ⟨y,h3,h4⟩:=zc h2
 obtain ⟨z,h5,h6⟩:=zc h1
 cases z <;> simp only [asL] at h6 <;> cases h6
 cases y <;> simp only [dRep] at h4 <;> try (cases h4;done)
 split at h4
 ·rename_i hc
  cases h4
  refine ha.ok P6 P7 σ H ρ _ _ m h5 fun p1 o H1 s1 hn ho hw=>?_
  refine hb.ok P6 P7 σ H1 ρ _ _ (m.up s1) h3 fun v H2 s2 r2=>?_
  simp only [Rep] at r2
  cases o <;> simp only [Own] at hw
  refine ⟨p1,_,_,rfl,r2,s2 _ _ ho,hc.1,hc.2.1,by rw [zr.length hw];exact hc.2.2,fun p' hp=>?_⟩
  refine k p' _ _ ((s1.trans s2).trans (zG hp)) ((s1.trans s2).free hp) zw ?_
  have r1:zr X.K H1 (Bl P7 os σ) _ _:=zr.goes (.less (fun _ z=>.inl z) (.refl H1)) _ _ hw
  exact zr.goes (.fresh hp (zG hp)) _ _ ((r1.up s2).rep _)
 ·cases h4⟩
def spM (K:KC) (m:List D->Option D):Sp:=fun vs H Q _=>∃ (B:Kc->Prop) (ds:List D) (d:D),(∀ a,B a->∃ o,H a=some o)/\zr K H B ds vs/\m ds=some d/\∀ v H',zT H H'->Rep K H' B d v->Q v H'
theorem se_call {k:Nat} {fn:Kc} {fd:Kh} {ps:List Kw} {m:List D->Option D} (F:FnOk X.prog X.w X.K X.mg X.base CX0 k fn fd ps (spM X.K m)) (hr:Room k X.A) (hg:Gl X x) (hm:X.mg x=some (.ref fn)) (hk:keepIn X.K (.ref fn)=true) (hb:Yq X.K fd ps [])
  (ha:SA X st os (e::es) tl fl) (hdb:(x == ("__debug__":Kw))=false:=by decide) (he:Ke (e::es) X.env=(false,Kz e X.env)::Ke es X.env:=by rfl) (hpl:(Kq pos (Ke es X.env)).any (·.1)=false:=by rfl) {K':KC} (hK:X.K=K':=by rfl) :
  SE X st os (.Call (.Name x p) (e::es) [] pos) (jx (spM K' m) [] E0 tl) (fA m fl):=by
 subst hK
 exact ⟨Wr F hr hg hm hk hb .nil W1 ha.pa hdb he hpl,fun P6 P7 σ H ρ d Q M q kk=>by
 obtain ⟨ds,h1,h2⟩:=zc q
 refine ha.ok P6 P7 σ H ρ ds _ M h1 fun vs H1 s1 r1=>?_
 refine ⟨BB st P7 os σ,ds,d,(M.up s1).bb st,by rw [Pl];exact r1,h2,fun v H' s2 r2=>kk v H' (s1.trans s2) r2⟩⟩
def CaOk (K:KC) (r:List V->Hp->VK->Prop) (g:List D->Option D):Prop:=∀ (H:Hp) (B:Kc->Prop) (xs:List V) (ds:List D) (d:D) (Q:VK),(∀ a,B a->∃ o,H a=some o)->zr K H B ds xs->g ds=some d->(∀ v H',zT H H'->Rep K H' B d v->Q v H')->r xs H Q
theorem EOk.call {r:List V->Hp->VK->Prop} {g:List D->Option D} (hr:CaOk X.K r g) (ha:AOk X.K st os tl fl):EOk X.K st os (tCB r tl) (fA g fl):=fun P6 P7 σ H ρ d Q m q k=>by
 obtain ⟨ds,h1,h2⟩:=zc q
 refine ha P6 P7 σ H ρ ds _ m h1 fun vs H1 s1 r1=>?_
 exact hr H1 _ vs ds d Q ((m.up s1).bb st) r1 h2 fun v H' s2 r2=>k v H' (s1.trans s2) r2
theorem wo {T:String} {r:List V->Hp->VK->Prop} {g:List D->Option D} (hc:J9 X (.type T) r) (hr:CaOk X.K r g) (hg:Gl X x) (hm:X.mg x=none) (hv:bootBuiltins x=some (.type T)) (ha:SA X st os (e::es) tl fl) (hn:x≠"__name__":=by decide) (hdb:(x == ("__debug__":Kw))=false:=by decide)
  (he:Ke (e::es) X.env=(false,Kz e X.env)::Ke es X.env:=by rfl) (hpl:(Kq pos (Ke es X.env)).any (·.1)=false:=by rfl):SE X st os (.Call (.Name x p) (e::es) [] pos) (tCB r tl) (fA g fl):=⟨ww hc hg hm hv ha.pa hn hdb he hpl,EOk.call hr ha.ok⟩
def gAbs:List D->Option D
 | [.int i]=>some (.int (if i<0 then -i else i))
 | _=>none
def gk:List D->Option D
 | [.int i]=>some (.int i)
 | [.bl k]=>some (.int (if k then 1 else 0))
 | _=>none
theorem reps1 {K:KC} {H:Hp} {B:Kc->Prop} {d:D} {vs:List V} (h:zr K H B [d] vs):∃ v,vs=[v]/\Rep K H B d v:=by
 simp only [zr] at h
 obtain ⟨v,r,rfl,h1,rfl⟩:=h
 exact ⟨v,rfl,h1⟩
theorem gC {K:KC}:CaOk K (fun xs H Q=>(∃ i,xs=[.int i]/\Q (.int i) H)\/∃ k,xs=[.bl k]/\Q (.int (if k then 1 else 0)) H) gk:=fun H B xs ds d Q hB r e k=>by
 unfold gk at e
 split at e <;> cases e
 ·obtain ⟨v,rfl,h1⟩:=reps1 r
  simp only [Rep] at h1
  subst h1
  exact .inl ⟨_,rfl,k _ H (.refl H) yD⟩
 ·obtain ⟨v,rfl,h1⟩:=reps1 r
  simp only [Rep] at h1
  subst h1
  exact .inr ⟨_,rfl,k _ H (.refl H) yD⟩
def tyD:D->String
 | .non=>"NoneType" | .bl _=>"bool" | .int _=>"int" | .str _=>"str" | .lst _=>"list" | .tup _=>"tuple" | .dict _ _=>"dict" | .scr _=>"list" | .adr _=>"" | .kset _=>"" | .tk _=>"" | .pin _ d=>tyD d
def dIsi (T:String) (d:D):D:=.bl (tyD d == T||(tyD d == "bool"&&T == "int"))
def gj (T:String):D->Option D
 | .adr _=>none
 | .kset _=>none
 | .tk _=>none
 | .pin _ d=>gj T d
 | d=>some (dIsi T d)
def Plain:D->Prop
 | .adr _=>False
 | .kset _=>False
 | .tk _=>False
 | .pin _ d=>Plain d
 | _=>True
theorem gIsi_ {T:String}:∀ {d d':D},gj T d=some d'->Plain d/\d'=dIsi T d
 | .non,d',h | .bl _,d',h | .int _,d',h | .str _,d',h | .tup _,d',h | .lst _,d',h | .dict _ _,d',h | .scr _,d',h=>by simp only [gj] at h;cases h;exact ⟨trivial,rfl⟩
 | .adr _,d',h | .kset _,d',h | .tk _,d',h=>by simp only [gj] at h;cases h
 | .pin _ d,d',h=>by
  simp only [gj] at h
  obtain ⟨h1,h2⟩:=gIsi_ h
  exact ⟨h1,h2⟩
theorem tyN {K:KC} {H:Hp} {B:Kc->Prop}:∀ {d:D} {v:V},Plain d->Rep K H B d v->TyN K H v (tyD d)
 | .non,v,_,r=>by simp only [Rep] at r;subst r;rfl
 | .bl _,v,_,r=>by simp only [Rep] at r;subst r;rfl
 | .int _,v,_,r=>by simp only [Rep] at r;subst r;rfl
 | .str _,v,_,r=>by simp only [Rep] at r;subst r;rfl
 | .tup _,v,_,r=>by simp only [Rep] at r;obtain ⟨a,xs,rfl,hq,hr⟩:=r;exact .inr (.inl ⟨rfl,xs,hq⟩)
 | .lst _,v,_,r=>by simp only [Rep] at r;obtain ⟨a,xs,rfl,hq,hr⟩:=r;exact .inl ⟨rfl,xs,hq.sq⟩
 | .dict _ _,v,_,r=>by simp only [Rep] at r;obtain ⟨a,KO,rfl,hq,hk,hr⟩:=r;exact .inr (.inr ⟨rfl,KO,hq.1⟩)
 | .scr _,v,_,r=>by simp only [Rep] at r;obtain ⟨a,rfl,hq⟩:=r;exact .inl ⟨rfl,_,hq.sq⟩
 | .adr _,v,h,_=>h.elim
 | .kset _,v,h,_=>h.elim
 | .tk _,v,h,_=>h.elim
 | .pin _ d,v,h,r=>by simp only [Rep] at r;exact tyN (d:=d) h r.2
theorem se_isi {y:Kw} {T:String} {p':KB} (hg:Gl X "isinstance") (hm:X.mg "isinstance"=none) (hg2:Gl X y) (hm2:X.mg y=none) (hv2:bootBuiltins y=some (.type T)) (hT:T∈JJ) (ha:SE X false os a ta fa) (hn:y≠"__name__":=by decide) (hdb:(y == ("__debug__":Kw))=false:=by decide)
  (h1:Ke [a,.Name y p'] X.env=(false,Kz a X.env)::Ke [.Name y p'] X.env:=by rfl) (h2:Ke [.Name y p'] X.env=(false,Kz (.Name y p') X.env)::Ke [] X.env:=by rfl) (hpl:(Kq pos (Ke [.Name y p'] X.env)).any (·.1)=false:=by rfl) {K':KC} (hK:X.K=K':=by rfl) :
  SE X st os (.Call (.Name "isinstance" p) [a,.Name y p'] [] pos) (tCB (fun xs H Q=>∃ x T n,xs=[x,.ty T]/\T∈JJ/\TyN K' H x n/\Q (.bl (n == T||(n == "bool"&&T == "int"))) H) (zW ta (zW (tC (.ty T)) ZS))) (f1 (gj T) fa):=by
 subst hK
 exact
 ⟨jF call_isi hg hm PyProof.Rows.boot_isinstance (zM ha.pe (zM (pe_bltn (v:=.ty T) hg2 hm2 hv2 rfl hn hdb) Zj h2) h1) (by decide) (by decide) h1 hpl,fun P6 P7 σ H ρ d Q m q k=>by
  obtain ⟨x,h1,h2⟩:=zc q
  obtain ⟨h3,rfl⟩:=gIsi_ h2
  refine ha.ok P6 P7 σ H ρ x _ m h1 fun v H1 s1 r1=>?_
  exact ⟨v,T,tyD x,rfl,hT,tyN h3 r1,k _ H1 s1 YW⟩⟩
theorem EOk.callC {k:Bool} {r:List V->Hp->VK->Prop} {g:List D->Option D} {ca:Ev->Option (List D)}
  (hr:∀ (H:Hp) (B:Kc->Prop) (q:Kc) (xs:List V) (ds:List D) (d:D) (Q:VK),Sq k X.K H q xs->zr X.K H B ds xs->g ds=some d->(∀ v H',zT H H'->Rep X.K H' B d v->Q v H')->r [.ref q] H Q)
  (ha:COk X.K k os ta ca):EOk X.K st os (tCB r (zW ta ZS)) (fA g ca):=fun P6 P7 σ H ρ d Q m q kk=>by
 obtain ⟨ds,h1,h2⟩:=zc q
 refine ha P6 P7 σ H ρ ds _ m h1 fun a xs H1 s1 hq r1=>?_
 exact hr H1 (Bl P7 os σ) a xs ds d Q hq r1 h2 fun v H' s2 r2=>kk v H' (s1.trans s2) (Rep.bb r2)
variable {ca:Ev->Option (List D)} {k:Bool}
def j9 (ds:List D):Option D:=some (.int ds.length)
theorem jA (hg:Gl X "len") (hm:X.mg "len"=none) (ha:SC X k os a ta ca) (h1:Ke [a] X.env=(false,Kz a X.env)::Ke [] X.env:=by rfl) (hpl:(Kq pos (Ke [] X.env)).any (·.1)=false:=by rfl) {K':KC} (hK:X.K=K':=by rfl) :
  SE X st os (.Call (.Name "len" p) [a] [] pos) (tCB (fun xs H Q=>∃ p ys,xs=[.ref p]/\(SqL K' H p ys\/SqT K' H p ys)/\Q (.int ys.length) H) (zW ta ZS)) (fA j9 ca):=by
 subst hK
 exact
 ⟨jF jl hg hm PySem.boot_len (zM ha.pe Zj h1) (by decide) (by decide) h1 hpl,EOk.callC (k:=k) (fun H B q xs ds d Q hq r e kk=>by
  cases e
  refine ⟨q,xs,rfl,?_,kk _ H (.refl H) (by rw [r.length];exact yD)⟩
  cases k with
  | true=>exact .inl hq
  | false=>exact .inr hq) ha.ok⟩
def J1:List D->Option (List Int)
 | []=>some []
 | .int i::r=>(J1 r).map (i::·)
 | _::_=>none
theorem intsD_map (ns:List Int):J1 (ns.map .int)=some ns:=by
 induction ns with
 | nil=>rfl
 | cons n r ih=>simp [J1,ih]
theorem W2:∀ {ds:List D} {ns:List Int},J1 ds=some ns->ds=ns.map .int
 | [],ns,h=>by simp only [J1] at h;cases h;rfl
 | d::r,ns,h=>by
  cases d <;> simp only [J1] at h <;> try (cases h;done)
  obtain ⟨ms,h1,rfl⟩:=map_some h
  rw [W2 h1];rfl
def YZ (ds:List D):Option D:=(J1 ds).map fun ns=>.int ns.sum
theorem Jk (hc:X.calm=true) (hg:Gl X "sum") (hm:X.mg "sum"=none) (ha:SC X k os a ta ca) (h1:Ke [a] X.env=(false,Kz a X.env)::Ke [] X.env:=by rfl) (hpl:(Kq pos (Ke [] X.env)).any (·.1)=false:=by rfl) {K':KC} (hK:X.K=K':=by rfl) :
  SE X st os (.Call (.Name "sum" p) [a] [] pos) (tCB (fun xs H Q=>∃ (p:Kc) (ns:List Int),xs=[.ref p]/\Sq k K' H p (ns.map V.int)/\Q (.int ns.sum) H) (zW ta ZS)) (fA YZ ca):=by
 subst hK
 exact
 ⟨jF (call_sumI k hc) hg hm PyProof.Rows.boot_sum (zM ha.pe Zj h1) (by decide) (by decide) h1 hpl,EOk.callC (k:=k) (fun H B q xs ds d Q hq r e kk=>by
  obtain ⟨ns,h1,rfl⟩:=map_some e
  rw [W2 h1] at r
  rw [r.ints'] at hq
  exact ⟨q,ns,rfl,hq,kk _ H (.refl H) yD⟩) ha.ok⟩
def jk (ds:List D):Option D:=some (.tup ds)
theorem WR (hg:Gl X "tuple") (hm:X.mg "tuple"=none) (ha:SC X true os a ta ca) (h1:Ke [a] X.env=(false,Kz a X.env)::Ke [] X.env:=by rfl) (hpl:(Kq pos (Ke [] X.env)).any (·.1)=false:=by rfl) {K':KC} (hK:X.K=K':=by rfl) :
  SE X st os (.Call (.Name "tuple" p) [a] [] pos) (tCB (fun xs H Q=>∃ p ys,xs=[.ref p]/\((SqL K' H p ys/\∀ l,H l=none->Q (.ref l) (upd H l (.tup ys)))\/(SqT K' H p ys/\Q (.ref p) H))) (zW ta ZS)) (fA jk ca):=by
 subst hK
 exact
 ⟨ww call_tuple_of hg hm PyProof.Rows.boot_tuple (zM ha.pe Zj h1) (by decide) (by decide) h1 hpl,EOk.callC (k:=true) (fun H B q xs ds d Q hq r e kk=>by
  cases e
  refine ⟨q,xs,rfl,.inl ⟨hq,fun l hl=>kk _ _ (zG hl) ?_⟩⟩
  simp only [Rep]
  exact ⟨l,xs,rfl,.inl (.inl zw),r.up (zG hl)⟩) ha.ok⟩
theorem sf_list (hg:Gl X "list") (hm:X.mg "list"=none) (ha:SC X k os a ta ca) (h1:Ke [a] X.env=(false,Kz a X.env)::Ke [] X.env:=by rfl) (hpl:(Kq pos (Ke [] X.env)).any (·.1)=false:=by rfl) {K':KC} (hK:X.K=K':=by rfl) :
  SF X os (.Call (.Name "list" p) [a] [] pos) (tCB (fun xs H Q=>∃ p ys,xs=[.ref p]/\(SqL K' H p ys\/SqT K' H p ys)/\∀ l,H l=none->Q (.ref l) (upd H l (.lst ys))) (zW ta ZS)) (fA (fun ds=>some (.lst ds)) ca):=by
 subst hK
 exact
 ⟨ww call_list_of hg hm PyProof.Rows.boot_list (zM ha.pe Zj h1) (by decide) (by decide) h1 hpl,fun P6 P7 σ H ρ d Q m q kk=>by
  obtain ⟨ds,h1,h2⟩:=zc q
  cases h2
  refine ha.ok P6 P7 σ H ρ ds _ m h1 fun a xs H1 s1 hq r1=>⟨a,xs,rfl,?_,fun l hl=>?_⟩
  ·cases k with
   | true=>exact .inl hq
   | false=>exact .inr hq
  ·exact kk l _ _ (s1.trans (zG hl)) (s1.free hl) zw (zr.goes (.fresh hl (zG hl)) _ _ r1)⟩
end
def SqS (k:Bool) (K:KC) (H:Hp) (B:Kc->Prop) (a:Kc) (xs:List V):Prop:=match k with
 | true=>RL K H B a xs\/RS K H a xs
 | false=>SqT K H a xs
def Cn (s k:Bool) (K:KC) (H:Hp) (B:Kc->Prop) (a:Kc) (xs:List V):Prop:=match s with
 | true=>SqS k K H B a xs
 | false=>Sq k K H a xs
theorem Cn.sq {s k:Bool} {K:KC} {H:Hp} {B:Kc->Prop} {a:Kc} {xs:List V} (h:Cn s k K H B a xs):Sq k K H a xs:=by
 cases s with
 | false=>exact h
 | true =>
  cases k with
  | true=>exact h.elim RL.sq RS.sq
  | false=>exact h
theorem Cn.mv {k:Bool} {K:KC} {H H':Hp} {B B':Kc->Prop} {a:Kc} {xs:List V} (g:Goes H H' B B') (h:Cn true k K H B a xs):Cn true k K H' B' a xs:=by
 cases k with
 | true =>
  rcases h with h | h
  ·exact .inl (g.lst a xs h.1 h.2)
  ·rcases h with ⟨o,h⟩ | h
   ·exact .inr (.inl ⟨o,g.frz a o _ h⟩)
   ·exact .inr (.inr h)
 | false =>
  rcases h with h | h
  ·exact .inl (g.tup a xs h)
  ·exact .inr h
theorem Sq.same {k:Bool} {K:KC} {H H':Hp} {a:Kc} {xs:List V} (e:zT H H') (h:Sq k K H a xs):Sq k K H' a xs:=by
 cases k with
 | true=>exact e.seq h
 | false=>exact SqT.same e h
theorem Cn.up {s k:Bool} {K:KC} {H H':Hp} {B:Kc->Prop} {a:Kc} {xs:List V} (e:zT H H') (h:Cn s k K H B a xs):Cn s k K H' B a xs:=by
 cases s with
 | false=>exact Sq.same e h
 | true=>exact Cn.mv (.same e) h
structure SN (X:Cx) (s k:Bool) (os:List Nat) (e:Kv) (t:TE) (f:Ev->Option (List D)):Prop where
 pe:PE X e t
 ok:∀ (P6:Hp) (P7:Kc->Prop) (σ:St) (H:Hp) (ρ:Ev) (ds:List D) (Q:VK),Md X.K P6 P7 os σ H ρ->f ρ=some ds->(∀ a xs H',zT H H'->Cn s k X.K H' (Bl P7 os σ) a xs->zr X.K H' (Bl P7 os σ) ds xs->Q (.ref a) H')->t σ H Q
def Mv (H':Hp) (ok:Hp->(Kc->Prop)->Prop):Prop:=∀ n,H' n=none->∀ Ha Hb Ba Bb,Goes Ha Hb Ba Bb->(∀ b o,b≠n->Ha b=some o->Hb b=some o)->ok Ha Ba->ok Hb Bb
theorem Cn.split {s k:Bool} {K:KC} {H:Hp} {B:Kc->Prop} {a:Kc} {xs:List V} (h:Cn s k K H B a xs):∃ P:Hp->(Kc->Prop)->Prop,P H B/\(∀ H B,P H B->Sq k K H a xs)/\Mv H P/\(s=true->∀ Ha Hb Ba Bb,Goes Ha Hb Ba Bb->P Ha Ba->P Hb Bb):=by
 cases s with
 | true=>exact ⟨fun H B=>Cn true k K H B a xs,h,fun H B q=>q.sq,fun n hn Ha Hb Ba Bb g _ q=>q.mv g,fun _ Ha Hb Ba Bb g q=>q.mv g⟩
 | false =>
  have h':Sq k K H a xs:=h
  cases k with
  | true =>
   rcases h' with h' | h'
   ·refine ⟨fun H _=>Rd H a (.lst xs),h',fun H B q=>.inl q,fun n hn Ha Hb Ba Bb g kp q=>?_,fun z=>by cases z⟩
    have hne:a≠n:=fun e=>by subst e;rcases h' with h' | ⟨o,h'⟩ <;> (rw [hn] at h';cases h')
    rcases q with q | ⟨o,q⟩
    ·exact .inl (kp _ _ hne q)
    ·exact .inr ⟨o,kp _ _ hne q⟩
   ·exact ⟨fun _ _=>True,trivial,fun _ _ _=>.inr h',fun _ _ _ _ _ _ _ _ _=>trivial,fun z=>by cases z⟩
  | false =>
   rcases h' with h' | h'
   ·refine ⟨fun H _=>Rd H a (.tup xs),h',fun H B q=>.inl q,fun n hn Ha Hb Ba Bb g kp q=>g.tup _ _ q,fun z=>by cases z⟩
   ·exact ⟨fun _ _=>True,trivial,fun _ _ _=>.inr h',fun _ _ _ _ _ _ _ _ _=>trivial,fun z=>by cases z⟩
structure IW (K:KC) (J:It) (ds:List D) (ok:Hp->(Kc->Prop)->Prop):Prop where
 go:∀ H B (i:Nat) d,ok H B->ds[i]?=some d->J.go i H
 yld:∀ H B (i:Nat) d x H',ok H B->ds[i]?=some d->J.yld i H x H'->zT H H'/\Rep K H' B d x
 stop:∀ H B (i:Nat),ok H B->ds.length<=i->J.stop i H
def IOk (K:KC) (s:Bool) (os:List Nat) (wi:TI) (fi:Ev->Option (List D)):Prop :=
 ∀ (P6:Hp) (P7:Kc->Prop) (σ:St) (H:Hp) (ρ:Ev) (ds:List D) (R:It->Hp->Prop),Md K P6 P7 os σ H ρ->fi ρ=some ds ->
  (∀ (J:It) (H':Hp) (ok:Hp->(Kc->Prop)->Prop),zT H H'->IW K J ds ok->Mv H' ok->(s=true->∀ H H' B B',Goes H H' B B'->ok H B->ok H' B')->ok H' (Bl P7 os σ)->R J H')->wi σ H R
structure SI (X:Cx) (s:Bool) (os:List Nat) (tg iter:Kv) (wi:TI) (fi:Ev->Option (List D)):Prop where
 pi:PI X tg iter wi
 ok:IOk X.K s os wi fi
section
variable {X:Cx} {s k:Bool} {os:List Nat} {e a b tg:Kv} {t ta tb:TE} {f fa fb:Ev->Option D} {fl ca cb:Ev->Option (List D)} {pos p:KB}
theorem SE.sn (h:SE X true os e t f):SN X true k os e t (zj k f):=⟨h.pe,fun P6 P7 σ H ρ ds Q m q kk=>by
 obtain ⟨x,h1,h2⟩:=zc q
 refine h.ok P6 P7 σ H ρ _ Q m h1 fun v H' s r=>?_
 cases k with
 | true =>
  cases x <;> simp only [asK] at h2 <;> cases h2
  ·simp only [Rep] at r
   obtain ⟨a,xs,rfl,hl,hr⟩:=r
   exact kk a xs H' s (.inl hl) hr
  ·simp only [Rep] at r
   obtain ⟨a,rfl,hl⟩:=r
   exact kk a _ H' s (.inr hl) .ints
 | false =>
  cases x <;> simp only [asK] at h2 <;> cases h2
  simp only [Rep] at r
  obtain ⟨a,xs,rfl,hl,hr⟩:=r
  exact kk a xs H' s hl hr⟩
theorem SC.sn (h:SC X k os e t fl):SN X false k os e t fl:=⟨h.pe,fun P6 P7 σ H ρ ds Q m q kk=>h.ok P6 P7 σ H ρ ds Q m q fun a xs H' s hq r=>kk a xs H' s hq r⟩
theorem Ya (h:SN X s true os e t fl) {K':KC} (hK:X.K=K':=by rfl):SI X s os tg e (iList K' t) fl:=by
 subst hK
 exact ⟨pi_list h.pe,fun P6 P7 σ H ρ ds R m q kk=>by
 refine h.ok P6 P7 σ H ρ ds _ m q fun a xs H1 s1 hc r=>⟨a,rfl,⟨xs,hc.sq⟩,?_⟩
 obtain ⟨P,p0,psq,pmv,pst⟩:=hc.split
 refine kk _ H1 (fun H B=>P H B/\zr X.K H B ds xs) s1 ⟨fun H B i d ok e=>?_,fun H B i d x H' ok e y=>?_,fun H B i ok hl=>?_⟩ (fun n hn Ha Hb Ba Bb g kp ok=>⟨pmv n hn _ _ _ _ g kp ok.1,zr.goes g _ _ ok.2⟩) (fun hs H H' B B' g ok=>⟨pst hs _ _ _ _ g ok.1,zr.goes g _ _ ok.2⟩) ⟨p0,r⟩
 ·obtain ⟨v,h1,h2⟩:=ok.2.get e
  exact ⟨xs,v,psq _ _ ok.1,h1⟩
 ·obtain ⟨rfl,h1⟩:=y
  obtain ⟨v,h2,h3⟩:=ok.2.get e
  have:=h1 xs (psq _ _ ok.1)
  rw [h2] at this;cases this
  exact ⟨.refl _,h3⟩
 ·exact ⟨xs,psq _ _ ok.1,by rw [ok.2.length];exact hl⟩⟩
theorem si_tup (h:SN X s false os e t fl) {K':KC} (hK:X.K=K':=by rfl):SI X s os tg e (iTup K' t) fl:=by
 subst hK
 exact ⟨pi_tup h.pe,fun P6 P7 σ H ρ ds R m q kk=>by
 refine h.ok P6 P7 σ H ρ ds _ m q fun a xs H1 s1 hc r=>⟨a,rfl,⟨xs,hc.sq⟩,?_⟩
 obtain ⟨P,p0,psq,pmv,pst⟩:=hc.split
 refine kk _ H1 (fun H B=>P H B/\zr X.K H B ds xs) s1 ⟨fun H B i d ok e=>?_,fun H B i d x H' ok e y=>?_,fun H B i ok hl=>?_⟩ (fun n hn Ha Hb Ba Bb g kp ok=>⟨pmv n hn _ _ _ _ g kp ok.1,zr.goes g _ _ ok.2⟩) (fun hs H H' B B' g ok=>⟨pst hs _ _ _ _ g ok.1,zr.goes g _ _ ok.2⟩) ⟨p0,r⟩
 ·obtain ⟨v,h1,h2⟩:=ok.2.get e
  exact ⟨xs,v,psq _ _ ok.1,h1⟩
 ·obtain ⟨rfl,h1⟩:=y
  obtain ⟨v,h2,h3⟩:=ok.2.get e
  have:=h1 xs (psq _ _ ok.1)
  rw [h2] at this;cases this
  exact ⟨.refl _,h3⟩
 ·exact ⟨xs,psq _ _ ok.1,by rw [ok.2.length];exact hl⟩⟩
def yR (lo:Int) (n:Nat):List D:=(List.range n).map fun i=>.int (lo+(i:Nat))
theorem iw_range {K:KC} (lo:Int) (n:Nat):IW K (Itr lo n) (yR lo n) (fun _ _=>True):=by
 have hl:(yR lo n).length=n:=by simp [yR]
 refine ⟨fun H B i d _ e=>?_,fun H B i d x H' _ e y=>?_,fun H B i _ h=>?_⟩
 ·have:=(Qm.mp e).1
  rw [hl] at this;exact this
 ·obtain ⟨rfl,rfl⟩:=y
  have hi:i<n:=by have:=(Qm.mp e).1;rw [hl] at this;exact this
  simp [yR,hi] at e
  subst e
  exact ⟨.refl _,yD⟩
 ·rw [hl] at h;exact h
def jQ (fa:Ev->Option D):Ev->Option (List D):=fun ρ=>(fa ρ).bind fun d=>(asI d).bind fun j=>if -(2 ^ 62)<=j/\j<2 ^ 62 then some (yR 0 j.toNat) else none
theorem gH {K:KC} {H:Hp} {B:Kc->Prop} {d:D} {v:V} {i:Int} (r:Rep K H B d v) (e:asI d=some i):v=.int i:=by
 cases d <;> simp only [asI] at e <;> cases e
 simpa [Rep] using r
theorem wm (hg:Gl X "range") (hm:X.mg "range"=none) (ha:SE X false os a ta fa) (h1:Ke [a] X.env=(false,Kz a X.env)::Ke [] X.env:=by rfl) (hs:Ke [a] X.env=[(false,Kz a X.env)]:=by rfl) :
  SI X s os tg (.Call (.Name "range" p) [a] [] pos) (iRng1 (zW ta ZS)) (jQ fa):=⟨pi_range1 hg hm (zM ha.pe Zj h1) hs,fun P6 P7 σ H ρ ds R m q kk=>by
 obtain ⟨x,h1,h2⟩:=zc q
 obtain ⟨j,h3,h4⟩:=zc h2
 split at h4
 ·cases h4
  rename_i hb
  refine ha.ok P6 P7 σ H ρ x _ m h1 fun v H1 s1 r=>?_
  have:=gH r h3
  subst this
  exact ⟨j,rfl,hb.1,hb.2,kk _ H1 _ s1 (iw_range 0 _) (fun _ _ _ _ _ _ _ _ _=>trivial) (fun _ _ _ _ _ _ _=>trivial) trivial⟩
 ·cases h4⟩
def zipD (xs ys:List D):List D:=List.zipWith (fun x y=>.tup [x,y]) xs ys
def fZip (ca cb:Ev->Option (List D)):Ev->Option (List D):=fun ρ=>(ca ρ).bind fun xs=>(cb ρ).map fun ys=>zipD xs ys
theorem si_zip {j1 j2:Bool} {elts:List Kv} {kk:Nat} {pp:KB} (hg:Gl X "zip") (hm:X.mg "zip"=none) (ha:SN X s j1 os a ta ca) (hb:SN X s j2 os b tb cb) (h1:Ke [a,b] X.env=(false,Kz a X.env)::Ke [b] X.env:=by rfl) (h2:Ke [b] X.env=(false,Kz b X.env)::Ke [] X.env:=by rfl)
  (hs:Ke [a,b] X.env=[(false,Kz a X.env),(false,Kz b X.env)]:=by rfl) (hs2:Ke [b] X.env=[(false,Kz b X.env)]:=by rfl) {K':KC} (hK:X.K=K':=by rfl) :
  SI X s os (.Tuple elts kk pp) (.Call (.Name "zip" p) [a,b] [] pos) (iZip j1 j2 K' (zW ta (zW tb ZS))) (fZip ca cb):=by
 subst hK
 exact ⟨pi_zip j1 j2 hg hm (zM ha.pe (zM hb.pe Zj h2) h1) hs hs2,fun P6 P7 σ H ρ ds R m q kk=>by
 obtain ⟨dx,h1,h2⟩:=zc q
 obtain ⟨dy,h3,rfl⟩:=map_some h2
 refine ha.ok P6 P7 σ H ρ dx _ m h1 fun a xs H1 s1 hc1 r1=>?_
 refine hb.ok P6 P7 σ H1 ρ dy _ (m.up s1) h3 fun b ys H2 s2 hc2 r2=>?_
 have hc1':=hc1.up s2
 have r1':=r1.up s2
 refine ⟨a,b,rfl,⟨xs,hc1'.sq⟩,⟨ys,hc2.sq⟩,?_⟩
 obtain ⟨P,p0,psq,pmv,pst⟩:=hc1'.split
 obtain ⟨P2,p02,psq2,pmv2,pst2⟩:=hc2.split
 refine kk _ H2 (fun H B=>(P H B/\zr X.K H B dx xs)/\P2 H B/\zr X.K H B dy ys) (s1.trans s2) ⟨fun H B i d ok e=>?_,fun H B i d x H' ok e y=>?_,fun H B i ok hl=>?_⟩
  (fun n hn Ha Hb Ba Bb g kp ok=>⟨⟨pmv n hn _ _ _ _ g kp ok.1.1,zr.goes g _ _ ok.1.2⟩,pmv2 n hn _ _ _ _ g kp ok.2.1,zr.goes g _ _ ok.2.2⟩) (fun hs H H' B B' g ok=>⟨⟨pst hs _ _ _ _ g ok.1.1,zr.goes g _ _ ok.1.2⟩,pst2 hs _ _ _ _ g ok.2.1,zr.goes g _ _ ok.2.2⟩) ⟨⟨p0,r1'⟩,p02,r2⟩
 ·have:=(Qm.mp e).1
  simp only [zipD,PY] at this
  obtain ⟨u,h5,_⟩:=ok.1.2.get (i:=i) (d:=dx[i]) (by simp [show i<dx.length by omega])
  obtain ⟨v,h6,_⟩:=ok.2.2.get (i:=i) (d:=dy[i]) (by simp [show i<dy.length by omega])
  exact ⟨xs,ys,u,v,psq _ _ ok.1.1,psq2 _ _ ok.2.1,h5,h6⟩
 ·have hi:=(Qm.mp e).1
  simp only [zipD,PY] at hi
  obtain ⟨u,h5,h5'⟩:=ok.1.2.get (i:=i) (d:=dx[i]) (by simp [show i<dx.length by omega])
  obtain ⟨v,h6,h6'⟩:=ok.2.2.get (i:=i) (d:=dy[i]) (by simp [show i<dy.length by omega])
  obtain ⟨q',x1,y1,rfl,hn,rfl,hx,hy⟩:=y
  have e1:=hx xs (psq _ _ ok.1.1)
  have e2:=hy ys (psq2 _ _ ok.2.1)
  rw [h5] at e1;cases e1
  rw [h6] at e2;cases e2
  have e3:d=.tup [dx[i],dy[i]]:=by
   simp only [zipD] at e
   rw [Px] at e
   simp [show i<dx.length by omega,show i<dy.length by omega] at e
   exact e.symm
  subst e3
  refine ⟨zG hn,?_⟩
  simp only [Rep]
  exact ⟨q',_,rfl,.inl (.inl zw),(zr.cons h5' (.one h6')).up (zG hn)⟩
 ·simp only [zipD,PY] at hl
  exact ⟨xs,ys,psq _ _ ok.1.1,psq2 _ _ ok.2.1,by rw [ok.1.2.length,ok.2.2.length];omega⟩⟩
end
def GOk (K:KC) (os:List Nat) (g:TG) (u:D->Ev->Option Ev):Prop:=∀ (P6:Hp) (P7:Kc->Prop) (σ:St) (H:Hp) (ρ ρ':Ev) (d:D) (v:V) (Q:St->Hp->Prop),Md K P6 P7 os σ H ρ->Rep K H (Bl P7 os σ) d v->u d ρ=some ρ' ->
 (∀ σ',σ'.length=σ.length->(∀ i∈os,σ'[i]?=σ[i]?)->Md K P6 P7 os σ' H ρ'->Q σ' H)->g v σ H Q
structure SG (X:Cx) (os:List Nat) (tg:Kv) (g:TG) (u:D->Ev->Option Ev):Prop where
 pg:PG X tg g
 ok:GOk X.K os g u
structure SGs (X:Cx) (os:List Nat) (ts:List Kv) (g:TGs) (n:Nat) (u:List D->Ev->Option Ev):Prop where
 pg:PGs X ts g
 len:∀ ds ρ ρ',u ds ρ=some ρ'->ds.length=n
 ok:∀ (P6:Hp) (P7:Kc->Prop) (σ:St) (H:Hp) (ρ ρ':Ev) (ds:List D) (vs:List V) (Q:St->Hp->Prop),Md X.K P6 P7 os σ H ρ->zr X.K H (Bl P7 os σ) ds vs->u ds ρ=some ρ' ->
  (∀ σ',σ'.length=σ.length->(∀ i∈os,σ'[i]?=σ[i]?)->Md X.K P6 P7 os σ' H ρ'->Q σ' H)->g vs σ H Q
def zP (i:Nat):D->Ev->Option Ev:=fun d ρ=>some (ρ.set i (some d))
def wf:List D->Ev->Option Ev
 | [],ρ=>some ρ
 | _::_,_=>none
def yr (u:D->Ev->Option Ev) (us:List D->Ev->Option Ev):List D->Ev->Option Ev
 | [],_=>none
 | d::ds,ρ=>(u d ρ).bind fun ρ'=>us ds ρ'
def wd (us:List D->Ev->Option Ev):D->Ev->Option Ev:=fun d ρ=>(asK false d).bind fun ds=>us ds ρ
def uLst (us:List D->Ev->Option Ev):D->Ev->Option Ev:=fun d ρ=>(asK true d).bind fun ds=>us ds ρ
section
variable {X:Cx} {os:List Nat} {pos:KB}
theorem bl_eq {P7:Kc->Prop} {σ σ':St} (h:∀ i∈os,σ'[i]?=σ[i]?):Bl P7 os σ'=Bl P7 os σ:=by
 funext a
 unfold Bl
 apply propext
 constructor
 ·rintro (z | ⟨i,hi,e⟩)
  ·exact .inl z
  ·exact .inr ⟨i,hi,by rw [<- h i hi];exact e⟩
 ·rintro (z | ⟨i,hi,e⟩)
  ·exact .inl z
  ·exact .inr ⟨i,hi,by rw [h i hi];exact e⟩
theorem sg_name {i:Nat} {x:Kw} (hN:X.N.Nodup) (hi:X.N[i]?=some x) (hx:Loc X.env.scope x) (ho:i∉os:=by decide) (hf:X.fn x=true\/X.env.scope.names.lookup x=some .local:=by first | exact .inl rfl | exact .inr rfl | assumption):SG X os (.Name x pos) (ZM i) (zP i) :=
 ⟨pg_name hN hi hx hf,fun P6 P7 σ H ρ ρ' d v Q m r e k=>by
  cases e
  refine k _ (by rw [Qo]) (fun j hj=>zd fun z=>ho (z▸hj)) (m.put (fun j hj=>⟨hj,fun z=>ho (z▸hj)⟩) (fun j hj=>.inl hj) r)⟩
theorem jX:SGs X os [] gNil 0 wf:=⟨pgs_nil,fun ds ρ ρ' e=>(by cases ds <;> first | rfl | cases e),fun P6 P7 σ H ρ ρ' ds vs Q m r e k=>by
 cases ds with
 | nil=>cases e;simp only [zr] at r;exact ⟨r,k σ rfl (fun _ _=>rfl) m⟩
 | cons a r=>cases e⟩
theorem yn {e:Kv} {es:List Kv} {t:TG} {u:TGs} {n:Nat} {f:D->Ev->Option Ev} {fs:List D->Ev->Option Ev} (h1:SG X os e t f) (h2:SGs X os es u n fs)
  (hs:(assignEach (e::es) X.env).map (·.2)=assign e X.env::(assignEach es X.env).map (·.2):=by rfl):SGs X os (e::es) (gCons t u) (n+1) (yr f fs):=⟨pgs_cons h1.pg h2.pg hs,fun ds ρ ρ' e=>(by
 cases ds with
 | nil=>cases e
 | cons a r =>
  obtain ⟨x,_,q⟩:=zc e
  rw [Qg,h2.len _ _ _ q]),fun P6 P7 σ H ρ ρ' ds vs Q m r e k=>by
 cases ds with
 | nil=>cases e
 | cons d ds =>
  obtain ⟨ρ1,q1,q2⟩:=zc e
  simp only [zr] at r
  obtain ⟨v,vr,rfl,r1,r2⟩:=r
  refine ⟨v,vr,rfl,h1.ok P6 P7 σ H ρ ρ1 d v _ m r1 q1 fun σ1 l1 a1 m1=>?_⟩
  refine h2.ok P6 P7 σ1 H ρ1 ρ' ds vr _ m1 (by rw [bl_eq a1];exact r2) q2 fun σ2 l2 a2 m2=>?_
  exact k σ2 (l2.trans l1) (fun i hi=>(a2 i hi).trans (a1 i hi)) m2⟩
theorem wn {es:List Kv} {k:Nat} {t:TGs} {n:Nat} {fs:List D->Ev->Option Ev} (hc:X.calm=true) (h:SGs X os es t n fs) (hn:(assignEach es X.env).length=n:=by rfl) (hst:(assignEach es X.env).findIdx? (·.1)=none:=by rfl) {K':KC} (hK:X.K=K':=by rfl) :
  SG X os (.Tuple es k pos) (gTup K' n t) (wd fs):=by
 subst hK
 exact ⟨pg_tup hc h.pg hn hst,fun P6 P7 σ H ρ ρ' d v Q m r e kk=>by
 obtain ⟨ds,q1,q2⟩:=zc e
 cases d <;> simp only [asK] at q1 <;> cases q1
 simp only [Rep] at r
 obtain ⟨a,xs,rfl,hq,hr⟩:=r
 exact ⟨a,xs,rfl,hq,by rw [hr.length,h.len _ _ _ q2],h.ok P6 P7 σ H ρ ρ' ds xs Q m hr q2 kk⟩⟩
end
def Yh (u:D->Ev->Option Ev) (c:Ev->Option Bool) (e:Ev->Option D):List D->Ev->Option (List D)
 | [],_=>some []
 | d::ds,ρ=>(u d ρ).bind fun ρ1=>(c ρ1).bind fun b=>if b then (e ρ1).bind fun x=>(Yh u c e ds ρ1).map (x::·) else Yh u c e ds ρ1
def ZX (k:Nat) (fi:Ev->Option (List D)) (u:D->Ev->Option Ev) (c:Ev->Option Bool) (e:Ev->Option D):Ev->Option D:=fun ρ=>(fi ρ).bind fun ds=>(Yh u c e ds (ρ++List.replicate k none)).bind Wi
structure SPF (X:Cx) (os:List Nat) (ifs:List Kv) (t:TT) (f:Ev->Option Bool):Prop where
 pf:PF X ifs t
 ok:TOk X.K os t f
def Yn:Ev->Option Bool:=fun _=>some true
theorem Yj {X:Cx} {os:List Nat}:SPF X os [] tYes Yn:=⟨pf_nil,fun P6 P7 σ H ρ b Q m q k=>by cases q;exact k H (.refl H)⟩
theorem spf_one {X:Cx} {os:List Nat} {c:Kv} {t:TT} {f:Ev->Option Bool} (h:SB X os c t f):SPF X os [c] t f:=⟨pf_one h.pt,h.ok⟩
section
variable {K:KC} {os:List Nat}
theorem yQ {α:Type} {l r:List α} {i:Nat} {x:α} (h:l[i]?=some x):(l++r)[i]?=some x:=by
 rw [QO (Qm.mp h).1];exact h
theorem Md.extend {P6 H:Hp} {P7:Kc->Prop} {σ:St} {ρ:Ev} (m:Md K P6 P7 os σ H ρ) (k:Nat) {D':Kc} (hn:H D'=none) :
  Md K P6 (fun b=>P7 b\/b=D') os (σ++List.replicate k none) (upd H D' (.lst [])) (ρ++List.replicate k none):=by
 have hs:zT H (upd H D' (.lst [])):=zG hn
 have osl:∀ i∈os,(σ++List.replicate k none)[i]?=σ[i]?:=fun i hi=>by
  obtain ⟨a,o,d,h1,_⟩:=m.own i hi
  rw [yQ h1,h1]
 have nown:∀ i∈os,σ[i]?≠some (some (.ref D')):=fun i hi e=>by
  obtain ⟨a,o,d,h1,_,h3,_⟩:=m.own i hi
  rw [e] at h1;cases h1;rw [hn] at h3;cases h3
 have less:∀ b,Bl (fun b=>P7 b\/b=D') os (σ++List.replicate k none) b->Bl P7 os σ b\/b=D':=fun b z=>by
  rcases z with (z | z) | ⟨i,hi,e⟩
  ·exact .inl (.inl z)
  ·exact .inr z
  ·rw [osl i hi] at e;exact .inl (.inr ⟨i,hi,e⟩)
 have g:Goes H (upd H D' (.lst [])) (Bl P7 os σ) (Bl (fun b=>P7 b\/b=D') os (σ++List.replicate k none)):=by
  have g1:=Goes.fresh (B:=Bl P7 os σ) hn hs
  exact ⟨g1.tup,fun b xs q n=>⟨(g1.lst b xs q n).1,fun z=>(g1.lst b xs q n).2 (less b z)⟩,fun b xs q n=>⟨(g1.dct b xs q n).1,fun z=>(g1.dct b xs q n).2 (less b z)⟩,g1.frz,g1.tkt⟩
 refine ⟨m.grow.trans hs,fun a z=>?_,by rw [Qd,Qd,m.len];simp,fun i d q n=>?_,fun i hi=>?_,fun i j a h1 h2 e1 e2=>?_⟩
 ·rcases z with z | rfl
  ·obtain ⟨o,q⟩:=m.blk a z;exact ⟨o,hs _ _ q⟩
  ·exact ⟨_,zw⟩
 ·by_cases hl:i<ρ.length
  ·rw [QO hl] at q
   obtain ⟨v,h1,h2⟩:=m.sh i d q n
   exact ⟨v,yQ h1,Rep.goes g _ _ h2⟩
  ·rw [QW (by omega),Pv] at q
   split at q <;> cases q
 ·obtain ⟨a,o,d,h1,h2,h3,h4,h5⟩:=m.own i hi
  exact ⟨a,o,d,by rw [osl i hi];exact h1,yQ h2,hs _ _ h3,⟨h4.1,fun z=>z.elim h4.2 fun z=>nown i hi (z▸h1)⟩,h5.goes g⟩
 ·rw [osl i h1] at e1;rw [osl j h2] at e2
  exact m.sep i j a h1 h2 e1 e2
theorem fok_comp {s:Bool} {k:Nat} {wi:TI} {g:TG} {tc:TT} {te:TE} {fi:Ev->Option (List D)} {u:D->Ev->Option Ev} {c:Ev->Option Bool} {e:Ev->Option D} (hi:IOk K s os wi fi) (hg:GOk K os g u) (hc:TOk K os tc c) (he:EOk K true os te e) :
  FOk K os (wO k wi g tc te) (ZX k fi u c e):=fun P6 P7 σ H ρ d Q m q kk=>by
 obtain ⟨ds,h1,h2⟩:=zc q
 obtain ⟨es,h3,h4⟩:=zc h2
 unfold Wi at h4
 split at h4
 case isFalse=>cases h4
 rename_i hsz
 cases h4
 refine hi P6 P7 σ H ρ ds _ m h1 fun J H1 ok s1 W up _ ok1=>?_
 intro D' hD
 have m1:=m.up s1
 have mE:=m1.extend k hD
 have ok2:ok (upd H1 D' (.lst [])) (fun b=>Bl P7 os σ b\/b=D'):=up D' hD _ _ _ _ (.fresh hD (zG hD)) (fun b o _ q=>zG hD _ _ q) ok1
 refine ⟨fun i mm ys σ' H'=>mm=ds.length - i/\i<=ds.length/\∃ ρ' done Zc,Md K P6 (fun b=>P7 b\/b=D') os σ' H' ρ'/\(∀ j∈os,σ'[j]?=(σ++List.replicate k none)[j]?)/\H' D'=some (.lst ys) /\
  ok H' (fun b=>Bl P7 os σ b\/b=D')/\zT H1 H'/\zr K H' (Bl (fun b=>P7 b\/b=D') os σ') done ys/\Yh u c e (ds.drop i) ρ'=some Zc/\es=done++Zc,⟨ds.length,by simp,Q4 _,_,[],es,mE,fun _ _=>rfl,zw,ok2,zG hD,.nil,by simpa using h3,rfl⟩,?_⟩
 rintro i mm ys σ' H' ⟨rfl,hile,ρ',done,Zc,mM,ag,hDl,okH,sm,rd,hcomp,hes⟩
 refine ⟨hDl,?_⟩
 have hH0:P6 D'=none:=(m.grow.trans s1).free hD
 have osl:∀ j∈os,σ'[j]?=σ[j]?:=fun j hj=>by
  rw [ag j hj]
  obtain ⟨a,o,d,q1,_⟩:=m.own j hj
  rw [yQ q1,q1]
 have blE:∀ b,Bl (fun b=>P7 b\/b=D') os σ' b↔(Bl P7 os σ b\/b=D'):=fun b=>by
  constructor
  ·rintro ((z | z) | ⟨j,hj,q⟩)
   ·exact .inl (.inl z)
   ·exact .inr z
   ·rw [osl j hj] at q;exact .inl (.inr ⟨j,hj,q⟩)
  ·rintro ((z | ⟨j,hj,q⟩) | z)
   ·exact .inl (.inl z)
   ·exact .inr ⟨j,hj,by rw [osl j hj];exact q⟩
   ·exact .inl (.inr z)
 have blF:Bl (fun b=>P7 b\/b=D') os σ'=fun b=>Bl P7 os σ b\/b=D':=funext fun b=>propext (blE b)
 by_cases hlt:i<ds.length
 ·right
  have hd:ds[i]?=some ds[i]:=by simp [hlt]
  refine ⟨W.go _ _ i _ okH hd,fun x H2 y=>?_⟩
  obtain ⟨s2,rx⟩:=W.yld _ _ i _ x H2 okH hd y
  rw [Pr hlt] at hcomp
  simp only [Yh] at hcomp
  obtain ⟨ρ1,q1,q2⟩:=zc hcomp
  obtain ⟨bb,q3,q4⟩:=zc q2
  have mM2:=mM.up s2
  have rx':Rep K H2 (Bl (fun b=>P7 b\/b=D') os σ') ds[i] x:=by rw [blF];exact rx
  have okUp:∀ Hb,zT H' Hb->ok Hb (fun b=>Bl P7 os σ b\/b=D'):=fun Hb sb=>up D' hD _ _ _ _ (.same sb) (fun b o _ q=>sb _ _ q) okH
  refine hg P6 _ σ' H2 ρ' ρ1 ds[i] x _ mM2 rx' q1 fun σ3 l3 a3 m3=>?_
  refine hc P6 _ σ3 H2 ρ1 bb _ m3 q3 fun H4 s4=>?_
  have m4:=m3.up s4
  cases bb with
  | true =>
   rw [KQ rfl] at q4 ⊢
   obtain ⟨z,q5,q6⟩:=zc q4
   obtain ⟨rest',q7,rfl⟩:=map_some q6
   refine he P6 _ σ3 H4 ρ1 z _ m4 q5 fun v H5 s5 r5=>?_
   have m5:=m4.up s5
   have hDl5:H5 D'=some (.lst ys):=s5 _ _ (s4 _ _ (s2 _ _ hDl))
   have hlen:ys.length=done.length:=rd.length
   have hlt':ys.length<Kg:=by
    rw [hes] at hsz
    simp only [Qd,Qg] at hsz
    omega
   have ble:Bl (fun b=>P7 b\/b=D') os σ3=Bl (fun b=>P7 b\/b=D') os σ':=bl_eq a3
   have g6:Goes H5 (upd H5 D' (.lst (ys++[v]))) (Bl (fun b=>P7 b\/b=D') os σ3) (Bl (fun b=>P7 b\/b=D') os σ3):=.write (.inl (.inr rfl)) hDl5 trivial
   refine ⟨hDl5,hlt',ds.length - (i+1),by omega,rfl,hlt,ρ1,done++[z],rest',m5.upB (.inr rfl) hH0 hDl5 trivial,fun j hj=>(a3 j hj).trans (ag j hj),zw,?_,?_,?_,q7,?_⟩
   ·have g7:Goes H5 (upd H5 D' (.lst (ys++[v]))) (fun b=>Bl P7 os σ b\/b=D') (fun b=>Bl P7 os σ b\/b=D'):=.write (.inr rfl) hDl5 trivial
    exact up D' hD _ _ _ _ g7 (fun b o hb q=>by rw [zv hb];exact q) (okUp H5 ((s2.trans s4).trans s5))
   ·intro b o q
    by_cases hb:b=D'
    ·subst hb;rw [hD] at q;cases q
    ·rw [zv hb];exact s5 _ _ (s4 _ _ (s2 _ _ (sm _ _ q)))
   ·refine zr.goes g6 _ _ (zr.append ?_ (.one r5))
    rw [ble]
    exact rd.up ((s2.trans s4).trans s5)
   ·rw [hes];simp
  | false =>
   rw [KR Qi] at q4 ⊢
   refine ⟨ds.length - (i+1),by omega,rfl,hlt,ρ1,done,Zc,m4,fun j hj=>(a3 j hj).trans (ag j hj),s4 _ _ (s2 _ _ hDl),okUp H4 (s2.trans s4),sm.trans (s2.trans s4),?_,q4,hes⟩
   rw [bl_eq a3]
   exact rd.up (s2.trans s4)
 ·left
  have hi':i=ds.length:=by omega
  subst hi'
  refine ⟨W.stop _ _ _ okH (Qh _),?_⟩
  rw [Pq] at hcomp
  cases hcomp
  rw [Pl] at hes
  subst hes
  refine kk D' _ H' (s1.trans sm) (s1.free hD) hDl ?_
  simp only [Own]
  refine zr.goes ⟨fun _ _ q=>q,fun b xs q n=>⟨q,fun z=>n ((blE b).mpr z)⟩,fun b xs q n=>⟨q,fun z=>n ((blE b).mpr z)⟩,fun _ _ _ q=>q,fun _ _ q=>q⟩ _ _ rd
end
inductive Out where
 | nx (ρ:Ev) | rt (d:D) | bk (ρ:Ev) | ct (ρ:Ev)
def FR (K:KC) (H H':Hp) (B:Kc->Prop) (d:D) (v:V):Prop :=
 (∃ a o,v=.ref a/\H a=none/\H' a=some o/\Own K H' (fun b=>B b\/b=a) o d)\/(d.flat=true/\Rep K H' B d v) \/
 ∃ (b:Kc) (x:Kw) (as:List Kc),v=.ref b/\d=.tup (.str x::as.map fun _=>.lst [])/\as.Nodup/\(∀ a∈as,H a=none/\H' a=some (.lst []))/\H' b=some (.tup (.str x::as.map V.ref))
theorem JT {K:KC} {H H':Hp} {B:Kc->Prop} (hB:∀ a,B a->∃ o,H a=some o):∀ {as:List Kc},(∀ a∈as,H a=none/\H' a=some (.lst []))->zr K H' B (as.map fun _=>D.lst []) (as.map V.ref)
 | [],_=>.nil
 | a::as,h=>.cons (by
   obtain ⟨h1,h2⟩:=h a Qt
   simp only [Rep]
   exact ⟨a,[],rfl,⟨.inl h2,fun z=>by obtain ⟨o,q⟩:=hB a z;rw [h1] at q;cases q⟩,.nil⟩) (JT hB fun x hx=>h x (Qe _ hx))
theorem FR.back {K:KC} {P6 H H':Hp} {B:Kc->Prop} {d:D} {v:V} (hs:zT P6 H) (h:FR K H H' B d v):FR K P6 H' B d v:=by
 rcases h with ⟨a,o,e,hn,q⟩ | q | ⟨b,x,as,h1,h2,h3,h4,h5⟩
 ·exact .inl ⟨a,o,e,hs.free hn,q⟩
 ·exact .inr (.inl q)
 ·exact .inr (.inr ⟨b,x,as,h1,h2,h3,fun a ha=>⟨hs.free (h4 a ha).1,(h4 a ha).2⟩,h5⟩)
def RtOk (K:KC) (fr:Bool) (P6 H:Hp) (P7:Kc->Prop) (d:D) (v:V):Prop:=match fr with
 | true=>FR K P6 H P7 d v
 | false=>Rep K H P7 d v
def EndOk (K:KC) (fr:Bool) (P6:Hp) (P7:Kc->Prop) (os' ol:List Nat) (E:Ends):Out->Prop
 | .nx ρ=>∀ σ H,Md K P6 P7 os' σ H ρ->E.nx σ H
 | .rt d=>∀ v H,zT P6 H->(∀ a,P7 a->∃ o,H a=some o)->RtOk K fr P6 H P7 d v->E.rt v H
 | .bk ρ=>∀ σ H,Md K P6 P7 ol σ H ρ->E.bk σ H
 | .ct ρ=>∀ σ H,Md K P6 P7 ol σ H ρ->E.ct σ H
def SOk (K:KC) (fr:Bool) (os os' ol:List Nat) (t:TS) (m:Ev->Option Out):Prop :=
 ∀ (P6:Hp) (P7:Kc->Prop) (σ:St) (H:Hp) (ρ:Ev) (o:Out) (E:Ends),Md K P6 P7 os σ H ρ->m ρ=some o->EndOk K fr P6 P7 os' ol E o->t E σ H
structure SS (X:Cx) (fr:Bool) (os os' ol:List Nat) (st:Kx) (t:TS) (m:Ev->Option Out):Prop where
 ps:PS X st t
 ok:SOk X.K fr os os' ol t m
structure SSs (X:Cx) (fr:Bool) (os os' ol:List Nat) (st:List Kx) (t:TS) (m:Ev->Option Out):Prop where
 ps:PSs X st t
 ok:SOk X.K fr os os' ol t m
def yt:Ev->Option Out:=fun ρ=>some (.nx ρ)
def Zf (m1 m2:Ev->Option Out):Ev->Option Out:=fun ρ=>(m1 ρ).bind fun o=>match o with
 | .nx ρ'=>m2 ρ'
 | o=>some o
def Z1 (f:Ev->Option D):Ev->Option Out:=fun ρ=>(f ρ).map .rt
def mRetN:Ev->Option Out:=fun _=>some (.rt .non)
def Zx (i:Nat) (f:Ev->Option D):Ev->Option Out:=fun ρ=>(f ρ).map fun d=>.nx (ρ.set i (some d))
def mNew (i:Nat) (f:Ev->Option D):Ev->Option Out:=fun ρ=>(f ρ).bind fun d=>if i<ρ.length then some (.nx (ρ.set i (some d))) else none
def mAsg (u:D->Ev->Option Ev) (f:Ev->Option D):Ev->Option Out:=fun ρ=>(f ρ).bind fun d=>(u d ρ).map .nx
def mIf (c:Ev->Option Bool) (m1 m2:Ev->Option Out):Ev->Option Out:=fun ρ=>(c ρ).bind fun b=>if b then m1 ρ else m2 ρ
def mDrop (f:Ev->Option D):Ev->Option Out:=fun ρ=>(f ρ).map fun _=>.nx ρ
def mUpd (i:Nat) (g:List D->D->Option (List D)) (f:Ev->Option D):Ev->Option Out:=fun ρ=>(f ρ).bind fun d=>(ρ[i]?.join).bind fun x=>(asL x).bind fun ds=>(g ds d).map fun ds'=>.nx (ρ.set i (some (.lst ds')))
def YR (ds:List D) (d:D):Option (List D):=if ds.length<Kg then some (ds++[d]) else none
def mSetIx (i:Nat) (f fi:Ev->Option D):Ev->Option Out:=fun ρ=>(f ρ).bind fun d=>(ρ[i]?.join).bind fun x=>(asL x).bind fun ds=>(fi ρ).bind fun k=>(asI k).bind fun k=>(ixN ds.length k).map fun j=>.nx (ρ.set i (some (.lst (ds.set j d))))
def jN (u:D->Ev->Option Ev) (b:Ev->Option Out):List D->Ev->Option Out
 | [],ρ=>some (.nx ρ)
 | d::ds,ρ=>(u d ρ).bind fun ρ1=>(b ρ1).bind fun o=>match o with
  | .nx ρ2=>jN u b ds ρ2
  | .ct ρ2=>jN u b ds ρ2
  | .bk ρ2=>some (.nx ρ2)
  | .rt d=>some (.rt d)
def mFor (fi:Ev->Option (List D)) (u:D->Ev->Option Ev) (b:Ev->Option Out):Ev->Option Out:=fun ρ=>(fi ρ).bind fun ds=>jN u b ds ρ
section
variable {X:Cx} {fr:Bool} {os o1 os' os2 ol:List Nat} {st:Kx} {Zc sts sts2:List Kx} {t u:TS} {m m1 m2:Ev->Option Out} {e a tg:Kv} {te ta:TE} {f fa:Ev->Option D} {pos:KB}
theorem ZN:SSs X fr os os ol [] wN yt:=⟨JU,fun P6 P7 σ H ρ o E m q k=>by cases q;exact k σ H m⟩
theorem zJ (h:SS X fr os os' ol st t m):SSs X fr os os' ol [st] t m:=⟨Yb h.ps,h.ok⟩
theorem SOk.seq {K:KC} (h1:SOk K fr os o1 ol t m1) (h2:SOk K fr o1 os' ol u m2):SOk K fr os os' ol (y9 t u) (Zf m1 m2):=fun P6 P7 σ H ρ o E m q k=>by
 obtain ⟨o',q1,q2⟩:=zc q
 refine h1 P6 P7 σ H ρ o' _ m q1 ?_
 cases o' with
 | nx ρ'=>exact fun σ' H' m'=>h2 P6 P7 σ' H' ρ' o E m' q2 k
 | rt d=>cases q2;exact k
 | bk ρ'=>cases q2;exact k
 | ct ρ'=>cases q2;exact k
theorem zx (h1:SS X fr os o1 ol st t m1) (h2:SSs X fr o1 os' ol Zc u m2):SSs X fr os os' ol (st::Zc) (y9 t u) (Zf m1 m2):=⟨Zw h1.ps h2.ps,SOk.seq h1.ok h2.ok⟩
theorem ZQ (h:SE X false os e te f):SS X false os os' ol (.Return (some e) pos) (WH te) (Z1 f):=⟨Jp h.pe,fun P6 P7 σ H ρ o E mm q k=>by
 obtain ⟨d,h1,rfl⟩:=map_some q
 exact h.ok P6 P7 σ H ρ d _ mm h1 fun v H' s r=>k v H' ((mm.up s).grow) (mm.up s).blk r⟩
theorem jy (h:SE X false os e te f):SS X true os os' ol (.Return (some e) pos) (WH te) (Z1 (Yo f)):=⟨Jp h.pe,fun P6 P7 σ H ρ o E mm q k=>by
 obtain ⟨d,h1,rfl⟩:=map_some q
 obtain ⟨x,h2,h3⟩:=zc h1
 split at h3
 ·rename_i hf
  cases h3
  exact h.ok P6 P7 σ H ρ _ _ mm h2 fun v H' s r=>k v H' ((mm.up s).grow) (mm.up s).blk (.inr (.inl ⟨hf,r⟩))
 ·cases h3⟩
structure SR (X:Cx) (st:Bool) (os:List Nat) (e:Kv) (t:TE) (f:Ev->Option D):Prop where
 pe:PE X e t
 ok:∀ (P6:Hp) (P7:Kc->Prop) (σ:St) (H:Hp) (ρ:Ev) (d:D) (Q:VK),Md X.K P6 P7 os σ H ρ->f ρ=some d->(∀ v H',zT H H'->FR X.K H H' (BB st P7 os σ) d v->Q v H')->t σ H Q
def isLs:D->Bool
 | .lst _=>true
 | .dict _ _=>true
 | _=>false
def wC:D->Bool
 | .lst ds=>Z5 ds
 | .dict _ ds=>Z5 ds
 | _=>false
def mNewR (i:Nat) (f:Ev->Option D):Ev->Option Out:=fun ρ=>(f ρ).bind fun d=>if i<ρ.length/\isLs d=true then some (.nx (ρ.set i (some d))) else none
def mNewRW (i:Nat) (f:Ev->Option D):Ev->Option Out:=fun ρ=>(f ρ).bind fun d=>if i<ρ.length/\wC d=true then some (.nx (ρ.set i (some d))) else none
theorem SOk.set {K:KC} {i:Nat} (h:EOk K true os te f) (hs:∀ j∈os',j∈os/\j≠i) (hs2:∀ j∈os,j∈os'\/j=i):SOk K fr os os' ol (yJ te (ZM i)) (Zx i f):=fun P6 P7 σ H ρ o E mm q k=>by
 obtain ⟨d,h1,rfl⟩:=map_some q
 exact h P6 P7 σ H ρ d _ mm h1 fun v H' s r=>k _ H' ((mm.up s).put hs hs2 r)
theorem Zi {i:Nat} {x:Kw} {pos':KB} (hN:X.N.Nodup) (hi:X.N[i]?=some x) (hx:Loc X.env.scope x) (h:SE X true os e te f) (hs:∀ j∈os',j∈os/\j≠i:=by decide) (hs2:∀ j∈os,j∈os'\/j=i:=by decide)
  (hsw:Kt e (some (.Name x pos')) pos.line X.env=pure false:=by rfl) (hf:X.fn x=true\/X.env.scope.names.lookup x=some .local:=by first | exact .inl rfl | exact .inr rfl | assumption) :
  SS X fr os os' ol (.Assign [.Name x pos'] e pos) (yJ te (ZM i)) (Zx i f):=⟨Yi hN hi hx h.pe hsw hf,SOk.set h.ok hs hs2⟩
theorem SOk.new {K:KC} {i:Nat} (h:FOk K os te f) (hs:∀ j∈os',j=i\/(j∈os/\j≠i)) (hs2:∀ j∈os,j∈os'\/j=i) (hm:i∈os'):SOk K fr os os' ol (yJ te (ZM i)) (mNew i f):=fun P6 P7 σ H ρ o E mm q k=>by
 obtain ⟨d,h1,h2⟩:=zc q
 split at h2
 ·rename_i hi
  cases h2
  exact h P6 P7 σ H ρ d _ mm h1 fun a u H' s hn ho hw=>k _ H' (mm.putNew hi hs hs2 hm s hn ho hw)
 ·cases h2
theorem ss_new {i:Nat} {x:Kw} {pos':KB} (hN:X.N.Nodup) (hi:X.N[i]?=some x) (hx:Loc X.env.scope x) (h:SF X os e te f) (hs:∀ j∈os',j=i\/(j∈os/\j≠i):=by decide) (hs2:∀ j∈os,j∈os'\/j=i:=by decide) (hm:i∈os':=by decide)
  (hsw:Kt e (some (.Name x pos')) pos.line X.env=pure false:=by rfl) (hf:X.fn x=true\/X.env.scope.names.lookup x=some .local:=by first | exact .inl rfl | exact .inr rfl | assumption) :
  SS X fr os os' ol (.Assign [.Name x pos'] e pos) (yJ te (ZM i)) (mNew i f):=⟨Yi hN hi hx h.pe hsw hf,SOk.new h.ok hs hs2 hm⟩
theorem FOk.eok {K:KC} {b:Bool} (h:FOk K os te f):EOk K b os te f:=fun P6 P7 σ H ρ d Q m q k=>h P6 P7 σ H ρ d Q m q fun a o H' s hn ho hw=>k _ _ s (Rep.bb (hw.rep ho (m.ntracked hn)))
theorem ss_setC {i:Nat} (hp:PS X st (yJ te (ZM i))) (h:FOk X.K os te f) (hs:∀ j∈os',j∈os/\j≠i:=by decide) (hs2:∀ j∈os,j∈os'\/j=i:=by decide):SS X fr os os' ol st (yJ te (ZM i)) (Zx i f):=⟨hp,SOk.set h.eok hs hs2⟩
theorem ss_asg {g:TG} {u:D->Ev->Option Ev} (h:SE X true os e te f) (hg:SG X os tg g u) (hs:swapsWithSole [tg] e pos.line X.env=pure false:=by rfl) (hw:swappedStores [tg] e X.env=pure none:=by rfl)
  (h1:(assignEach [tg] X.env).map (·.2)=[assign tg X.env]:=by rfl):SS X fr os os ol (.Assign [tg] e pos) (yJ te g) (mAsg u f):=⟨ps_asg h.pe hg.pg hs hw h1,fun P6 P7 σ H ρ o E mm q k=>by
 obtain ⟨d,h1,h2⟩:=zc q
 obtain ⟨ρ',h3,rfl⟩:=map_some h2
 exact h.ok P6 P7 σ H ρ d _ mm h1 fun v H' s r=>hg.ok P6 P7 σ H' ρ ρ' d v _ (mm.up s) r h3 fun σ' _ _ m'=>k σ' H' m'⟩
theorem Yz {α:Type} {ρ:List (Option α)} {i:Nat} {d:α} (q:ρ[i]?.join=some d):ρ[i]?=some (some d):=by
 cases z:ρ[i]? with
 | none=>rw [z] at q;cases q
 | some o=>rw [z] at q;cases o <;> simp at q;rw [q]
theorem pe_append {i:Nat} {x:Kw} {p apos cpos:KB} (he:PE X e te) (hN:X.N[i]?=some x:=by rfl) (hv:Vis X.env.scope x:=by first | exact Or.inl rfl | exact Or.inr (Or.inl rfl) | exact Or.inr (Or.inr rfl)) (hd:(x == ("__debug__":Kw))=false:=by decide)
  (hcd:(x == ("__classdict__":Kw))=false:=by decide) (hs1:Ke [e] X.env=(false,Kz e X.env)::Ke [] X.env:=by rfl)
  (hbase:Kp (.Name x p) "append" X.env (Kz (.Name x p) X.env)=Kz (.Name x p) X.env:=by rfl)
  (hfew:((Kq cpos (Ke [e] X.env)).all (fun x=>!x.1)&&(Kr cpos (Ks [] X.env)).all (fun x=>x.1.isSome)
   && decide ([e].length+([]:List Keyword).length+(if ([]:List Keyword).isEmpty then 0 else 1)<30))=true:=by rfl)
  (hline:(apos.endLine == cpos.line)=true:=by rfl) (hplain:(Kq cpos (Ke [] X.env)).any (·.1)=false:=by rfl):PE X (.Call (.Attribute (.Name x p) "append" apos) [e] [] cpos) (tBM X.K "list" yP (ZA i) (zW te ZS)) :=
 W0 KI PySem.F.slot_list_append PySem.F.type_list_append Yw (pv i hN hv hd hcd) (zM he Zj hs1) hbase hfew hline hs1 hplain
theorem wj {i:Nat} {x:Kw} {p apos:KB} (h:SE X true os e te f) (ho:i∈os:=by decide) (hN:X.N[i]?=some x:=by rfl) (hv:Vis X.env.scope x:=by first | exact Or.inl rfl | exact Or.inr (Or.inl rfl) | exact Or.inr (Or.inr rfl)) (hd:(x == ("__debug__":Kw))=false:=by decide)
  (hcd:(x == ("__classdict__":Kw))=false:=by decide) {cpos:KB} (hs1:Ke [e] X.env=(false,Kz e X.env)::Ke [] X.env:=by rfl)
  (hbase:Kp (.Name x p) "append" X.env (Kz (.Name x p) X.env)=Kz (.Name x p) X.env:=by rfl)
  (hfew:((Kq cpos (Ke [e] X.env)).all (fun x=>!x.1)&&(Kr cpos (Ks [] X.env)).all (fun x=>x.1.isSome)
   && decide ([e].length+([]:List Keyword).length+(if ([]:List Keyword).isEmpty then 0 else 1)<30))=true:=by rfl)
  (hline:(apos.endLine == cpos.line)=true:=by rfl) (hplain:(Kq cpos (Ke [] X.env)).any (·.1)=false:=by rfl) (hs:Kt (.Call (.Attribute (.Name x p) "append" apos) [e] [] cpos) none pos.line X.env=pure false:=by rfl) :
  SS X fr os os ol (.Expr (.Call (.Attribute (.Name x p) "append" apos) [e] [] cpos) pos) (YJ (tBM X.K "list" yP (ZA i) (zW te ZS))) (mUpd i YR f):=⟨YN (pe_append h.pe hN hv hd hcd hs1 hbase hfew hline hplain) hs,fun P6 P7 σ H ρ o E mm q k=>by
 obtain ⟨d,h1,h2⟩:=zc q
 obtain ⟨y,h3,h4⟩:=zc h2
 obtain ⟨ds,h5,h6⟩:=zc h4
 obtain ⟨ds',h7,rfl⟩:=map_some h6
 unfold YR at h7
 split at h7
 case isFalse=>cases h7
 rename_i hl
 cases h7
 cases y <;> simp only [asL] at h5 <;> cases h5
 obtain ⟨a,ob,d',q1,q2,q3,q4,q5⟩:=mm.own i ho
 have h3':=Yz h3
 rw [h3'] at q2;cases q2
 cases ob <;> simp only [Own] at q5
 refine ⟨.ref a,q1,.inl ⟨rfl,_,.inl (.inl q3)⟩,?_⟩
 refine h.ok P6 P7 σ H ρ d _ mm h1 fun v H' s r=>?_
 have m':=mm.up s
 have q5':=zr.up s q5
 refine ⟨a,_,v,rfl,rfl,s _ _ q3,by rw [q5.length];exact hl,k σ _ ?_⟩
 exact m'.write ho q1 (o:=.lst _) (d:=.lst _) (by simp only [Own];exact q5'.append (.one r))⟩
theorem yG {c:Kv} {a b:List Kx} {tc:TT} {g:Ev->Option Bool} (hc:SB X os c tc g) (ha:SSs X fr os os' ol a t m1) (hb:SSs X fr os os' ol b u m2):SS X fr os os' ol (.If c a b pos) (tIfS tc t u) (mIf g m1 m2):=⟨ps_if hc.pt ha.ps hb.ps,fun P6 P7 σ H ρ o E mm q k=>by
 obtain ⟨d,h1,h2⟩:=zc q
 refine hc.ok P6 P7 σ H ρ d _ mm h1 fun H' s=>?_
 cases d with
 | true=>rw [KQ rfl] at h2 ⊢;exact ha.ok P6 P7 σ H' ρ o E (mm.up s) h2 k
 | false=>rw [KR Qi] at h2 ⊢;exact hb.ok P6 P7 σ H' ρ o E (mm.up s) h2 k⟩
theorem EndOk.shallow {K:KC} {fr:Bool} {P6 H₁:Hp} {P7:Kc->Prop} {os' ol:List Nat} {E:Ends} {o:Out} (hs:zT P6 H₁) (h:EndOk K fr P6 P7 os' ol E o):EndOk K fr H₁ P7 os' ol E o:=by
 cases o with
 | nx ρ=>exact fun σ H m=>h σ H (m.shallow hs)
 | rt d=>exact fun v H s b r=>h v H (hs.trans s) b (by
   cases fr with
   | false=>exact r
   | true =>
    exact FR.back hs r)
 | bk ρ=>exact fun σ H m=>h σ H (m.shallow hs)
 | ct ρ=>exact fun σ H m=>h σ H (m.shallow hs)
theorem Jj {iter:Kv} {body:List Kx} {wi:TI} {g:TG} {tb:TS} {fi:Ev->Option (List D)} {ug:D->Ev->Option Ev} (hc:X.calm=true) (hi:SI X true os tg iter wi fi) (hg:SG X os tg g ug) (hb:SSs X fr os os os body tb m)
  (hp:PassesOwn (Ky X.prog X.w) X.A X.env X.xe:=by exact PassesOwn.never) (hs:∀ x,foldedSetIterable iter X.env x=pure x:=by intro _;rfl):SS X fr os os ol (.For tg iter body [] pos) (tFor wi g tb) (mFor fi ug m):=⟨ps_for hp hc hi.pi hg.pg hb.ps hs,fun P6 P7 σ H ρ o E mm q k=>by
 obtain ⟨ds,h1,h2⟩:=zc q
 refine hi.ok P6 P7 σ H ρ ds _ mm h1 fun J H1 ok s1 W up mv ok1=>?_
 have m1:=mm.up s1
 have mD:=m1.deep
 have okB:=mv rfl _ _ _ _ m1.goDown ok1
 have k':=k.shallow m1.sub
 refine ⟨fun i n σ' H'=>n=ds.length - i/\i<=ds.length/\∃ ρ',Md X.K (jv H1 os σ) P7 os σ' H' ρ'/\jN ug m (ds.drop i) ρ'=some o,⟨ds.length,by simp,Q4 _,ρ,mD,by simpa using h2⟩,?_⟩
 rintro i n σ' H' ⟨rfl,hile,ρ',mM,hf⟩
 have okN:=mv rfl _ _ _ _ mM.goUp okB
 by_cases hlt:i<ds.length
 ·right
  have hd:ds[i]?=some ds[i]:=by simp [hlt]
  rw [Pr hlt] at hf
  simp only [jN] at hf
  obtain ⟨ρ1,q1,q2⟩:=zc hf
  obtain ⟨o',q3,q4⟩:=zc q2
  refine ⟨W.go _ _ i _ okN hd,fun σ2 H2=>∃ ρ2,Md X.K (jv H1 os σ) P7 os σ2 H2 ρ2/\jN ug m (ds.drop (i+1)) ρ2=some o,fun σ2 H2 ⟨ρ2,m2,f2⟩=>⟨ds.length - (i+1),by omega,rfl,hlt,ρ2,m2,f2⟩,fun x H2 y=>?_⟩
  obtain ⟨s2,rx⟩:=W.yld _ _ i _ x H2 okN hd y
  refine hg.ok _ P7 σ' H2 ρ' ρ1 ds[i] x _ (mM.up s2) rx q1 fun σ3 l3 a3 m3=>?_
  refine hb.ok _ P7 σ3 H2 ρ1 o' _ m3 q3 ?_
  cases o' with
  | nx ρ2=>exact fun σ4 H4 m4=>⟨ρ2,m4,q4⟩
  | ct ρ2=>exact fun σ4 H4 m4=>⟨ρ2,m4,q4⟩
  | bk ρ2=>cases q4;exact fun σ4 H4 m4=>k' σ4 H4 m4
  | rt d=>cases q4;exact k'
 ·left
  have hi':i=ds.length:=by omega
  subst hi'
  rw [Pq] at hf
  cases hf
  exact ⟨W.stop _ _ _ okN (Qh _),k' σ' H' mM⟩⟩
end
def Zh (n:Nat) (ds:List D):Ev:=ds.map some++List.replicate (n - ds.length) none
def outD:Out->Option D
 | .nx _=>some .non
 | .rt d=>some d
 | _=>none
def yg (k n:Nat) (m:Ev->Option Out):List D->Option D:=fun ds=>if ds.length=k then (m (Zh n ds)).bind outD else none
section
variable {P:Ki} {w:Kk} {K:KC} {mg:Kw->Option Ka} {base:Kl}
theorem JY {H:Hp} {B:Kc->Prop} {N:List Kw} {ds:List D} {vs:List V} (hB:∀ a,B a->∃ o,H a=some o) (r:zr K H B ds vs):Md K H B [] (L2.yM N vs) H (Zh N.length ds):=by
 have hl:=r.length
 refine ⟨.refl H,hB,by simp [L2.yM,Zh,hl],fun i d q _=>?_,fun i hi=>(nomatch hi),fun i j a hi=>(nomatch hi)⟩
 have hb:Bl B [] (L2.yM N vs)=B:=by funext a;unfold Bl;apply propext;exact ⟨fun z=>z.elim id fun ⟨i,hi,_⟩=>(nomatch hi),.inl⟩
 rw [hb]
 unfold Zh at q
 unfold L2.yM
 by_cases hi:i<ds.length
 ·rw [QO (by simpa using hi),QE] at q
  obtain ⟨v,h1,h2⟩:=r.get (i:=i) (d:=ds[i]) (by simp [hi])
  have:d=ds[i]:=by simp [hi] at q;exact q.symm
  subst this
  exact ⟨v,by rw [QO (by simp;omega),QE,h1];rfl,h2⟩
 ·rw [QW (by simp;omega),Pv] at q
  split at q <;> cases q
def spF (K:KC) (m:List D->Option D):Sp:=fun vs H Q _=>∃ (B:Kc->Prop) (ds:List D) (d:D),(∀ a,B a->∃ o,H a=some o)/\zr K H B ds vs/\m ds=some d/\∀ v H',zT H H'->FR K H H' B d v->Q v H'
theorem fn_ok {x qual:Kw} {st:Kx} {f:Kc} {fd:Kh} {N ps:List Kw} {k:Nat} {m:Ev->Option Out} (F:Fun K x qual st f fd) (S:FnScope N ps (zO st))
  (hbody:∀ (cdv:Ka) (A:Kj) (outer:List Env) (s:Kb) (H:Hp) (E:XK),Room k (A.deeper (PyProof.Rows.envOfC qual (zO st) s.heap.objs.size f cdv)) ->
   ∃ t os',SSs (gw CX0 P w K mg base N qual (zO st) f cdv A outer s H E).nox false [] os' [] (ZK st) t m):FnOk P w K mg base CX0 (k+1) f fd ps (spM K (yg ps.length N.length m)):=by
 refine F.ok S (fun vs H Q E h=>?_) (fun cdv A outer s H vs Q E hr h=>?_)
 ·obtain ⟨B,ds,d,hB,r,q,_⟩:=h
  unfold yg at q
  split at q
  ·rw [r.length];assumption
  ·cases q
 ·obtain ⟨B,ds,d,hB,r,q,kk⟩:=h
  unfold yg at q
  split at q
  case isFalse=>cases q
  obtain ⟨o,q1,q2⟩:=zc q
  obtain ⟨t,os',hS⟩:=hbody cdv A outer s H E hr
  refine ⟨t,hS.ps,hS.ok H B (L2.yM N vs) H (Zh N.length ds) o _ (JY hB r) q1 ?_⟩
  cases o with
  | nx ρ=>simp only [outD] at q2;cases q2;exact fun σ' H' m'=>kk _ H' m'.grow (by simp [Rep])
  | rt d'=>simp only [outD] at q2;cases q2;exact fun v H' s _ r'=>kk v H' s r'
  | bk ρ=>cases q2
  | ct ρ=>cases q2
theorem fn_okF {x qual:Kw} {st:Kx} {f:Kc} {fd:Kh} {N ps:List Kw} {k:Nat} {m:Ev->Option Out} (F:Fun K x qual st f fd) (S:FnScope N ps (zO st))
  (hbody:∀ (cdv:Ka) (A:Kj) (outer:List Env) (s:Kb) (H:Hp) (E:XK),Room k (A.deeper (PyProof.Rows.envOfC qual (zO st) s.heap.objs.size f cdv)) ->
   ∃ t os',SSs (gw CX0 P w K mg base N qual (zO st) f cdv A outer s H E).nox true [] os' [] (ZK st) t m):FnOk P w K mg base CX0 (k+1) f fd ps (spF K (yg ps.length N.length m)):=by
 refine F.ok S (fun vs H Q E h=>?_) (fun cdv A outer s H vs Q E hr h=>?_)
 ·obtain ⟨B,ds,d,hB,r,q,_⟩:=h
  unfold yg at q
  split at q
  ·rw [r.length];assumption
  ·cases q
 ·obtain ⟨B,ds,d,hB,r,q,kk⟩:=h
  unfold yg at q
  split at q
  case isFalse=>cases q
  obtain ⟨o,q1,q2⟩:=zc q
  obtain ⟨t,os',hS⟩:=hbody cdv A outer s H E hr
  refine ⟨t,hS.ps,hS.ok H B (L2.yM N vs) H (Zh N.length ds) o _ (JY hB r) q1 ?_⟩
  cases o with
  | nx ρ=>simp only [outD] at q2;cases q2;exact fun σ' H' m'=>kk _ H' m'.grow (.inr (.inl ⟨rfl,by simp [Rep]⟩))
  | rt d'=>simp only [outD] at q2;cases q2;exact fun v H' s _ r'=>kk v H' s r'
  | bk ρ=>cases q2
  | ct ρ=>cases q2
theorem sr_call {X:Cx} {st:Bool} {os:List Nat} {e:Kv} {es:List Kv} {tl:TA} {fl:Ev->Option (List D)} {pos p:KB} {x:Kw} {k:Nat} {fn:Kc} {fd:Kh} {ps:List Kw} {m:List D->Option D} (F:FnOk X.prog X.w X.K X.mg X.base CX0 k fn fd ps (spF X.K m)) (hr:Room k X.A) (hg:Gl X x) (hm:X.mg x=some (.ref fn)) (hk:keepIn X.K (.ref fn)=true) (hb:Yq X.K fd ps [])
  (ha:SA X st os (e::es) tl fl) (hdb:(x == ("__debug__":Kw))=false:=by decide) (he:Ke (e::es) X.env=(false,Kz e X.env)::Ke es X.env:=by rfl) (hpl:(Kq pos (Ke es X.env)).any (·.1)=false:=by rfl) :
  SR X st os (.Call (.Name x p) (e::es) [] pos) (jx (spF X.K m) [] E0 tl) (fA m fl):=⟨Wr F hr hg hm hk hb .nil W1 ha.pa hdb he hpl,fun P6 P7 σ H ρ d Q M q kk=>by
 obtain ⟨ds,h1,h2⟩:=zc q
 refine ha.ok P6 P7 σ H ρ ds _ M h1 fun vs H1 s1 r1=>?_
 refine ⟨BB st P7 os σ,ds,d,(M.up s1).bb st,by rw [Pl];exact r1,h2,fun v H' s2 r2=>kk v H' (s1.trans s2) (r2.back s1)⟩⟩
end
end M
namespace L2
open PySem PySem.Spec PyProof.Rows
section
variable {prog:Ki} {w:Kk} {A:Kj} {E:Ka->Kb->Prop} {s:Kb}
end
section
variable {X:Cx} {pos:KB}
end
end L2
namespace M
open PySem PySem.Spec L2
open PySem.W (Frag)
section
variable {X:Cx} {os:List Nat} {pos:KB}
theorem compOk_of {X:Cx} {scope:Scope} {own N':List Kw} {k:Nat} (h:(decide (scope.kind=.function)&&scope.names.all (fun y=>(!(y.2 == .local)||scope.names.lookup y.1 == some .local)&&(!(y.2 == .cell)||scope.names.lookup y.1 == some .cell) &&
  (!(y.2 == .free)||((X.env.scope.names.lookup y.1 == some .cell||X.env.scope.names.lookup y.1 == some .free)&&!own.contains y.1)))&&decide (N'.length=X.N.length+k) &&
  (List.range X.N.length).all (fun i=>match N'[i]? with | some x=>scope.names.lookup x == none||(X.N[i]? == some x&&scope.names.lookup x == some .free) | none=>true))=true):CompOk X scope own N' k:=by
 simp only [QI,List.all_eq_true,decide_eq_true_eq,Bool.or_eq_true,Bool.not_eq_true',beq_iff_eq,List.mem_range] at h
 obtain ⟨⟨⟨h1,h2⟩,h3⟩,h4⟩:=h
 refine ⟨h1,fun y hy e=>?_,fun y hy e=>?_,fun y hy e=>?_,fun y hy e=>?_,h3,fun i x hi e=>?_⟩
 ·rcases (h2 y hy).1.1 with z | z
  ·rw [e] at z;simp at z
  ·exact z
 ·rcases (h2 y hy).1.2 with z | z
  ·rw [e] at z;simp at z
  ·exact z
 ·rcases (h2 y hy).2 with z | z
  ·rw [e] at z;simp at z
  ·exact z.1
 ·rcases (h2 y hy).2 with z | z
  ·rw [e] at z;simp at z
  ·exact z.2
 ·have q:=h4 i hi
  rw [e] at q
  simpa using q
end
theorem law_end {l:PySem.W.OpenLaw} {m:List D->Option D} {K:KC} {H:Hp} {a:Kc} {ns:List Int} (hO:Only H) (hq:SqL K H a (ns.map V.int)) (hm:m [.scr ns]=some (.bl true)) :
  spM K m [.ref a] H (fun v _=>v=.bl true) (fun _ _ _=>False):=by
 refine ⟨fun _=>False,[.scr ns],.bl true,fun _ z=>z.elim,.one ?_,hm,fun v H' _ r=>by simpa [Rep] using r⟩
 simp only [Rep]
 refine ⟨a,rfl,?_⟩
 rcases hq with hq | hq
 ·rcases hq with hq | hq
  ·rcases hO a with z | ⟨o,xs,z⟩ <;> (rw [z] at hq;cases hq)
  ·exact .inl hq
 ·exact .inr hq
section
variable {X:Cx} {fr:Bool} {os os' ol:List Nat} {pos:KB} {s:Bool} {scope:Scope} {own N':List Kw} {k:Nat} {elt target iter:Kv} {ifs:List Kv} {wi:TI} {g:TG} {tc:TT} {te:TE} {fi:Ev->Option (List D)} {u:D->Ev->Option Ev} {cf:Ev->Option Bool} {e:Ev->Option D}
theorem sf_comp (c:CompOk X scope own N' k) (hc:X.calm=true) (hi:SI X s os target iter wi fi) (hg:∀ s₂ H₂ fp C,SG (ZC X scope own N' s₂ H₂ fp C) os target g u) (ht:∀ s₂ H₂ fp C,SPF (ZC X scope own N' s₂ H₂ fp C) os ifs tc cf)
  (he:∀ s₂ H₂ fp C,SE (ZC X scope own N' s₂ H₂ fp C) true os elt te e) (hs:∀ x,foldedSetIterable iter X.env x=pure x:=by intro _;rfl):SF X os (.ListComp elt [⟨target,iter,ifs,0⟩] scope pos) (wO k wi g tc te) (ZX k fi u cf e) :=
 ⟨pe_comp c hc hi.pi (fun a b c d=>(hg a b c d).pg) (fun a b c d=>(ht a b c d).pf) (fun a b c d=>(he a b c d).pe) hs,fok_comp hi.ok (hg X.s₀ X.P6 [] 0).ok (ht X.s₀ X.P6 [] 0).ok (he X.s₀ X.P6 [] 0).ok⟩
theorem ss_setComp {i:Nat} {x:Kw} {pos' spos:KB} (hN:X.N.Nodup) (hix:X.N[i]?=some x) (hx:X.env.scope.names.lookup x=some .local) (c:CompOk X scope own N' k) (hc:X.calm=true) (hi:SI X s os target iter wi fi) (hg:∀ s₂ H₂ fp C,SG (ZC X scope own N' s₂ H₂ fp C) os target g u) (ht:∀ s₂ H₂ fp C,SPF (ZC X scope own N' s₂ H₂ fp C) os ifs tc cf)
  (he:∀ s₂ H₂ fp C,SE (ZC X scope own N' s₂ H₂ fp C) true os elt te e) (hsw:Kt (.ListComp elt [⟨target,iter,ifs,0⟩] scope pos) (some (.Name x pos')) spos.line X.env=pure true:=by rfl)
  (h1:∀ j∈os',j∈os/\j≠i:=by decide) (h2:∀ j∈os,j∈os'\/j=i:=by decide) (hs:∀ x,foldedSetIterable iter X.env x=pure x:=by intro _;rfl) :
  SS X fr os os' ol (.Assign [.Name x pos'] (.ListComp elt [⟨target,iter,ifs,0⟩] scope pos) spos) (yJ (wO k wi g tc te) (ZM i)) (Zx i (ZX k fi u cf e)) :=
 ss_setC (ps_setComp hN hix hx c hc hi.pi (fun a b c d=>(hg a b c d).pg) (fun a b c d=>(ht a b c d).pf) (fun a b c d=>(he a b c d).pe) hsw hs) (fok_comp hi.ok (hg X.s₀ X.P6 [] 0).ok (ht X.s₀ X.P6 [] 0).ok (he X.s₀ X.P6 [] 0).ok) h1 h2
end
open PySem L2
section
variable {ρ:Ev} {f fa fb fc:Ev->Option D} {fl ca cb:Ev->Option (List D)} {g g':D->D->Option D} {c c1 c2:Ev->Option Bool} {m m1 m2:Ev->Option Out} {i k n:Nat} {d:D} {ds:List D} {u:D->Ev->Option Ev} {us:List D->Ev->Option Ev} {h:D->Option D} {gl:List D->Option D}
@[simp] theorem fVar_:zb i ρ=ρ[i]?.join:=rfl
@[simp] theorem fC_:fC d ρ=some d:=rfl
@[simp] theorem f1_:f1 h fa ρ=(fa ρ).bind h:=rfl
@[simp] theorem f2_:f2 g fa fb ρ=(fa ρ).bind fun x=>(fb ρ).bind fun y=>g x y:=rfl
@[simp] theorem fSeq_ {b:Bool}:zj b fa ρ=(fa ρ).bind (asK b):=rfl
@[simp] theorem fFlat_:Yo fa ρ=(fa ρ).bind fun d=>if d.flat then some d else none:=rfl
@[simp] theorem fTest_:zI fa ρ=(fa ρ).bind asB:=rfl
@[simp] theorem fTru_:fTru fa ρ=(fa ρ).bind truD:=rfl
@[simp] theorem fAnd_:J5 c1 c2 ρ=(c1 ρ).bind fun c=>if c then c2 ρ else some false:=rfl
@[simp] theorem fOr_:fOr c1 c2 ρ=(c1 ρ).bind fun c=>if c then some true else c2 ρ:=rfl
@[simp] theorem fNot_:Y0 c ρ=(c ρ).map (!·):=rfl
@[simp] theorem fAndV_:fAndV fa fb ρ=((fa ρ).bind asB).bind fun c=>if c then fb ρ else some (.bl false):=rfl
@[simp] theorem fOrV_:fOrV fa fb ρ=((fa ρ).bind asB).bind fun c=>if c then some (.bl true) else fb ρ:=rfl
@[simp] theorem fNotV_:fNotV fa ρ=((fa ρ).bind asB).map fun c=>.bl (!c):=rfl
@[simp] theorem fIf_:fIf c fa fb ρ=(c ρ).bind fun c=>if c then fa ρ else fb ρ:=rfl
@[simp] theorem fChain_:wG g g' fa fb fc ρ=(fa ρ).bind fun x=>(fb ρ).bind fun y=>((g x y).bind asB).bind fun c=>if c then (fc ρ).bind fun z=>g' y z else some (.bl false):=rfl
@[simp] theorem fNil_:zt ρ=some []:=rfl
@[simp] theorem ZR:ze fa fl ρ=(fa ρ).bind fun x=>(fl ρ).map (x::·):=rfl
@[simp] theorem fLst_:ZL fl ρ=(fl ρ).bind Wi:=rfl
@[simp] theorem fTup_:Zo fl ρ=(fl ρ).bind Wh:=rfl
@[simp] theorem fA_:fA gl fl ρ=(fl ρ).bind gl:=rfl
@[simp] theorem fIx_:fIx fl fb ρ=(fl ρ).bind fun ds=>(fb ρ).bind fun i=>dIx ds i:=rfl
@[simp] theorem fL_:fL fa ρ=(fa ρ).bind asL:=rfl
@[simp] theorem fCat_:Wg ca cb ρ=(ca ρ).bind fun x=>(cb ρ).bind fun y=>Wi (x++y):=rfl
theorem fRep_:fRep fl fb ρ=(fl ρ).bind fun x=>(fb ρ).bind fun y=>dRep x y:=rfl
@[simp] theorem fNo_:fNo ρ=some none:=rfl
@[simp] theorem fPart_:YS fa ρ=(fa ρ).bind fun d=>(asI d).map some:=rfl
@[simp] theorem fCut_ {w:List D->D} {f1 f2:Ev->Option (Option Int)}:fCut w fl f1 f2 ρ=(fl ρ).bind fun ds=>(f1 ρ).bind fun lo=>(f2 ρ).bind fun hi=>some (w (cutD ds lo hi)):=rfl
theorem fRng1_:jQ fa ρ=(fa ρ).bind fun d=>(asI d).bind fun j=>if -(2 ^ 62)<=j/\j<2 ^ 62 then some (yR 0 j.toNat) else none:=rfl
@[simp] theorem fZip_:fZip ca cb ρ=(ca ρ).bind fun xs=>(cb ρ).map fun ys=>zipD xs ys:=rfl
@[simp] theorem gt {e:Ev->Option D}:ZX k fl u c e ρ=(fl ρ).bind fun ds=>(Yh u c e ds (ρ++List.replicate k none)).bind Wi:=rfl
@[simp] theorem fYes_:Yn ρ=some true:=rfl
@[simp] theorem jw:zP i d ρ=some (ρ.set i (some d)):=rfl
@[simp] theorem uTup_:wd us d ρ=(asK false d).bind fun ds=>us ds ρ:=rfl
@[simp] theorem uLst_:uLst us d ρ=(asK true d).bind fun ds=>us ds ρ:=rfl
@[simp] theorem uNil_:wf [] ρ=some ρ:=rfl
@[simp] theorem uCons_:yr u us (d::ds) ρ=(u d ρ).bind fun ρ'=>us ds ρ':=rfl
@[simp] theorem Z2:yt ρ=some (.nx ρ):=rfl
@[simp] theorem Jc:Z1 f ρ=(f ρ).map .rt:=rfl
@[simp] theorem mRetN_:mRetN ρ=some (.rt .non):=rfl
@[simp] theorem mSet_:Zx i f ρ=(f ρ).map fun d=>.nx (ρ.set i (some d)):=rfl
@[simp] theorem mNew_:mNew i f ρ=(f ρ).bind fun d=>if i<ρ.length then some (.nx (ρ.set i (some d))) else none:=rfl
@[simp] theorem mAsg_:mAsg u f ρ=(f ρ).bind fun d=>(u d ρ).map .nx:=rfl
@[simp] theorem mIf_:mIf c m1 m2 ρ=(c ρ).bind fun b=>if b then m1 ρ else m2 ρ:=rfl
@[simp] theorem mDrop_:mDrop f ρ=(f ρ).map fun _=>.nx ρ:=rfl
@[simp] theorem W8:mFor fl u m ρ=(fl ρ).bind fun ds=>jN u m ds ρ:=rfl
@[simp] theorem mUpd_ {w:List D->D->Option (List D)}:mUpd i w f ρ=(f ρ).bind fun d=>(ρ[i]?.join).bind fun x=>(asL x).bind fun ds=>(w ds d).map fun ds'=>.nx (ρ.set i (some (.lst ds'))):=rfl
@[simp] theorem mSetIx_ {fi:Ev->Option D}:mSetIx i f fi ρ=(f ρ).bind fun d=>(ρ[i]?.join).bind fun x=>(asL x).bind fun ds=>(fi ρ).bind fun k=>(asI k).bind fun k=>(ixN ds.length k).map fun j=>.nx (ρ.set i (some (.lst (ds.set j d)))):=rfl
@[simp] theorem asK_t {ds:List D}:asK true (.lst ds)=some ds:=rfl
@[simp] theorem asK_s {ns:List Int}:asK true (.scr ns)=some (ns.map .int):=rfl
@[simp] theorem asK_f {ds:List D}:asK false (.tup ds)=some ds:=rfl
@[simp] theorem asL_ {ds:List D}:asL (.lst ds)=some ds:=rfl
@[simp] theorem asB_ {b:Bool}:asB (.bl b)=some b:=rfl
@[simp] theorem asI_ {j:Int}:asI (.int j)=some j:=rfl
@[simp] theorem dI_ {w:Int->Int->D} {a b:Int}:dI w (.int a) (.int b)=some (w a b):=rfl
theorem dIc_ {C:Int->Int->Prop} {w:Int->Int->D} {a b:Int} (hc:C a b):dIc C w (.int a) (.int b)=some (w a b):=by unfold dIc;exact KQ hc
@[simp] theorem yz {a b:Int} (hc:IntMulOk a b):Yg (.int a) (.int b)=some (.int (a*b)):=dIc_ hc
@[simp] theorem Z4 {a b:Int} (hc:0<b):yN (.int a) (.int b)=some (.int (a % b)):=dIc_ (C:=fun _ j=>0<j) hc
@[simp] theorem Ys {a b:Int} (h0:0<b) (h1:b<1073741824):Y7 (.int a) (.int b)=some (.int (a / b)):=dIc_ (C:=CDiv) ⟨h0,h1⟩
theorem dDivP_s {a b:Int} (h:CDivB a b):dDivP (.int a) (.int b)=some (.int (a.fdiv b)):=dIc_ h
@[simp] theorem dNeg_ {a:Int}:wH (.int a)=some (.int (-a)):=rfl
@[simp] theorem jR {a b:Int}:ZJ (.int a) (.int b)=some (.bl (decide (a=b))):=rfl
@[simp] theorem dNeS_ {a b:Int}:wI (.int a) (.int b)=some (.bl (!decide (a=b))):=rfl
@[simp high] theorem dEqS_self {a:Int}:ZJ (.int a) (.int a)=some (.bl true):=by rw [jR,KS rfl]
@[simp high] theorem dNeS_self {a:Int}:wI (.int a) (.int a)=some (.bl false):=by rw [dNeS_,KS rfl];rfl
@[simp] theorem dIx_ {a:Int}:dIx ds (.int a)=atI ds a:=rfl
@[simp] theorem gLen_:j9 ds=some (.int ds.length):=rfl
@[simp] theorem gTuple_:jk ds=some (.tup ds):=rfl
@[simp] theorem gSum_ {ns:List Int}:YZ (ns.map .int)=some (.int ns.sum):=by simp [YZ,intsD_map]
@[simp] theorem gIntB {b:Bool}:gk [.bl b]=some (.int (if b then 1 else 0)):=rfl
@[simp] theorem gIntI {b:Int}:gk [.int b]=some (.int b):=rfl
@[simp] theorem gAbs_ {b:Int}:gAbs [.int b]=some (.int (if b<0 then -b else b)):=rfl
@[simp] theorem dIsi_i {T:String} {a:Int}:dIsi T (.int a)=.bl ("int" == T||("int" == "bool"&&T == "int")):=rfl
@[simp] theorem flat_int {a:Int}:D.flat (.int a)=true:=rfl
@[simp] theorem flat_bl {a:Bool}:D.flat (.bl a)=true:=rfl
theorem W9 (h:ds.length<Kg):YR ds d=some (ds++[d]):=by unfold YR;exact KQ h
theorem Jg (h:ds.length<=Kg):Wi ds=some (.lst ds):=by unfold Wi;exact KQ h
theorem dTup_ (h:ds.length<=Kg):Wh ds=some (.tup ds):=by unfold Wh;exact KQ h
theorem yA {n:Nat} (h:n<=1000000):n<=Kg:=Qv h (by decide)
theorem JQ {n:Nat} (h:n<=1000000):n<Kg:=Q7 h (by decide)
theorem wX {ds:List D} {d:D} (hl:ds.length=k) (h:m (Zh n ds)=some (.rt d)):yg k n m ds=some d:=by
 unfold yg;rw [KQ hl,h];rfl
theorem forD_inv (I:Nat->Ev->Prop):∀ (ds:List D) (i0:Nat) (ρ:Ev),I i0 ρ->(∀ (i:Nat) d ρ,ds[i]?=some d->I (i0+i) ρ->∃ ρ1,u d ρ=some ρ1/\∃ ρ2,m ρ1=some (.nx ρ2)/\I (i0+i+1) ρ2)->∃ ρ',jN u m ds ρ=some (.nx ρ')/\I (i0+ds.length) ρ'
 | [],i0,ρ,h0,_=>⟨ρ,rfl,h0⟩
 | d::ds,i0,ρ,h0,hs=>by
  obtain ⟨ρ1,h1,ρ2,h2,h3⟩:=hs 0 d ρ (by simp) h0
  obtain ⟨ρ',h4,h5⟩:=forD_inv I ds (i0+1) ρ2 h3 fun i d' ρ hd hi=>by
   have:=hs (i+1) d' ρ (by simpa using hd) (by rw [show i0+(i+1)=i0+1+i by omega];exact hi)
   rw [show i0+(i+1)+1=i0+1+i+1 by omega] at this
   exact this
  refine ⟨ρ',?_,by rw [Qg,show i0+(ds.length+1)=i0+1+ds.length by omega];exact h5⟩
  rw [jN,h1,oB,h2,oB]
  exact h4
theorem compD_at {e:Ev->Option D} (I:Ev->Prop) (R:Nat->D->Prop):∀ (ds:List D) (i0:Nat) (ρ:Ev),I ρ->(∀ (i:Nat) d ρ,ds[i]?=some d->I ρ->∃ ρ1,u d ρ=some ρ1/\c ρ1=some true/\(∃ x,e ρ1=some x/\R (i0+i) x)/\I ρ1) ->
  ∃ xs,Yh u c e ds ρ=some xs/\xs.length=ds.length/\∀ (i:Nat) x,xs[i]?=some x->R (i0+i) x
 | [],i0,ρ,_,_=>⟨[],rfl,rfl,fun i x h=>by simp at h⟩
 | d::ds,i0,ρ,h0,hs=>by
  obtain ⟨ρ1,h1,h2,⟨x,h3,h5⟩,h4⟩:=hs 0 d ρ (by simp) h0
  obtain ⟨xs,q1,q2,q3⟩:=compD_at I R ds (i0+1) ρ1 h4 fun i d' ρ hd hi=>by
   have:=hs (i+1) d' ρ (by simpa using hd) hi
   rw [show i0+(i+1)=i0+1+i by omega] at this
   exact this
  refine ⟨x::xs,by rw [Yh,h1,oB,h2,oB,KQ rfl,h3,oB,q1];rfl,by simp [q2],fun i y hy=>?_⟩
  cases i with
  | zero=>simp at hy;subst hy;exact h5
  | succ i=>rw [show i0+(i+1)=i0+1+i by omega];exact q3 i y (by simpa using hy)
theorem Jo {lo:Int} {n i:Nat} {d:D} (h:(yR lo n)[i]?=some d):i<n/\d=.int (lo+(i:Nat)):=by
 unfold yR at h
 rw [QE] at h
 by_cases hi:i<n
 ·simp [hi] at h;exact ⟨hi,h.symm⟩
 ·simp [hi] at h
@[simp] theorem YX {lo:Int} {n:Nat}:(yR lo n).length=n:=by simp [yR]
theorem Wx {ns:List Int} {i:Int} (h0:0<=i) (h1:i<ns.length):atI (ns.map D.int) i=some (.int (ns.getD i.toNat 0)):=by
 have e:=zB (xs:=ns.map D.int) (j:=i.toNat) (v:=.int (ns.getD i.toNat 0)) (by
  rw [QE]
  have hi:i.toNat<ns.length:=by omega
  simp [hi,List.getD])
 rwa [show ((i.toNat:Nat):Int)=i by omega] at e
end
def Wo {α:Type} (o:Option α) (P:α->Prop):Prop:=∃ x,o=some x/\P x
theorem Wo.eq {α:Type} {o:Option α} {y:α} (h:Wo o (·=y)):o=some y:=let ⟨x,e,p⟩:=h;p▸e
section
variable {α β:Type} {P:α->Prop} {Q:β->Prop} {x:α} {o:Option α} {g:α->Option β} {w:α->β}
@[simp] theorem zV:Wo (some x) P↔P x:=⟨fun ⟨y,e,p⟩=>by cases e;exact p,fun p=>⟨x,rfl,p⟩⟩
@[simp] theorem wo_none:Wo (none:Option α) P↔False:=⟨fun ⟨y,e,p⟩=>(by cases e),False.elim⟩
@[simp] theorem Wn:Wo (o.bind g) Q↔Wo o fun x=>Wo (g x) Q:=by
 cases o with
 | none=>simp
 | some x=>simp
@[simp] theorem wo_guard {c:Prop} [Decidable c] {a:Option α}:Wo (if c then a else none) P↔c/\Wo a P:=by
 split <;> simp_all
end
section
variable {P:D->Prop} {R:List D->Prop} {T:Out->Prop} {a b:Int} {ds:List D} {d:D} {ρ:Ev} {m m1 m2:Ev->Option Out}
theorem p62:(2:Int) ^ 62=4611686018427387904:=by decide
@[simp] theorem wo_rng1 {fa:Ev->Option D}:Wo (jQ fa ρ) R↔Wo (fa ρ) fun d=>Wo (asI d) fun j=>(-4611686018427387904<=j/\j<4611686018427387904)/\R (yR 0 j.toNat):=by
 rw [fRng1_,Wn,<- p62]
 simp only [Wn,wo_guard,zV]
def gJ (m:Ev->Option Out) (T:Out->Prop):Out->Prop
 | .nx ρ=>Wo (m ρ) T
 | o=>T o
@[simp] theorem zy:gJ m T (.nx ρ)=Wo (m ρ) T:=rfl
@[simp] theorem then_rt:gJ m T (.rt d)=T (.rt d):=rfl
@[simp] theorem then_bk:gJ m T (.bk ρ)=T (.bk ρ):=rfl
@[simp] theorem then_ct:gJ m T (.ct ρ)=T (.ct ρ):=rfl
@[simp] theorem zF:Wo (Zf m1 m2 ρ) T↔Wo (m1 ρ) (gJ m2 T):=by
 unfold Zf
 cases h:m1 ρ with
 | none=>simp
 | some o=>cases o <;> simp [gJ]
def Wl (P:D->Prop):Out->Prop
 | .nx _=>P .non
 | .rt d=>P d
 | _=>False
@[simp] theorem back_rt:Wl P (.rt d)=P d:=rfl
@[simp] theorem back_nx:Wl P (.nx ρ)=P .non:=rfl
theorem yZ {k n:Nat}:Wo (yg k n m ds) P↔ds.length=k/\Wo (m (Zh n ds)) (Wl P):=by
 unfold yg
 split
 ·rename_i h
  simp only [h,true_and,Wn]
  cases m (Zh n ds) with
  | none=>simp
  | some o=>cases o <;> simp [outD,Wl]
 ·simp_all
def Wj (u:D->Ev->Option Ev) (m:Ev->Option Out) (ds:List D) (T:Out->Prop):Out->Prop
 | .nx ρ=>Wo (jN u m ds ρ) T
 | .ct ρ=>Wo (jN u m ds ρ) T
 | .bk ρ=>T (.nx ρ)
 | .rt d=>T (.rt d)
@[simp] theorem turn_nx {u:D->Ev->Option Ev}:Wj u m ds T (.nx ρ)=Wo (jN u m ds ρ) T:=rfl
@[simp] theorem turn_ct {u:D->Ev->Option Ev}:Wj u m ds T (.ct ρ)=Wo (jN u m ds ρ) T:=rfl
@[simp] theorem turn_bk {u:D->Ev->Option Ev}:Wj u m ds T (.bk ρ)=T (.nx ρ):=rfl
@[simp] theorem turn_rt {u:D->Ev->Option Ev}:Wj u m ds T (.rt d)=T (.rt d):=rfl
theorem Jh {u:D->Ev->Option Ev} {ds:List D} (I:Nat->Ev->Prop) (h0:I 0 ρ) (hs:∀ (i:Nat) d ρ,ds[i]?=some d->I i ρ->Wo (u d ρ) fun ρ1=>Wo (m ρ1) fun o=>match o with
  | .nx ρ2=>I (i+1) ρ2
  | .ct ρ2=>I (i+1) ρ2
  | .bk ρ2=>T (.nx ρ2)
  | .rt r=>T (.rt r)) (hd:∀ ρ,I ds.length ρ->T (.nx ρ)):Wo (jN u m ds ρ) T:=by
 suffices ∀ (es:List D) (k:Nat) (ρ:Ev),ds=ds.take k++es->k+es.length=ds.length->I k ρ->Wo (jN u m es ρ) T from this ds 0 ρ (by simp) (by simp) h0
 intro es
 induction es with
 | nil =>
  intro k ρ _ hl hi
  simp only [Qy,Nat.add_zero] at hl
  subst hl
  simp [jN,hd ρ hi]
 | cons d es ih =>
  intro k ρ he hl hi
  have hk:ds[k]?=some d:=by
   have h1:(ds.take k).length=k:=by rw [Pp];simp at hl;omega
   rw [he,QW (by omega),h1];simp
  have he':ds=ds.take (k+1)++es:=by
   have h2:=List.take_append_drop (k+1) ds
   have h3:ds.drop (k+1)=es:=by
    have h1:(ds.take k).length=k:=by rw [Pp];simp at hl;omega
    have:ds.drop k=d::es:=by
     conv=>lhs;rw [he]
     rw [List.drop_append,h1];simp
    rw [<- List.drop_drop,this];simp
   rw [h3] at h2;exact h2.symm
  obtain ⟨ρ1,e1,o,e2,p⟩:=hs k d ρ hk hi
  simp only [jN,e1,e2,oB]
  cases o with
  | nx ρ2=>exact ih (k+1) ρ2 he' (by simp at hl ⊢;omega) p
  | ct ρ2=>exact ih (k+1) ρ2 he' (by simp at hl ⊢;omega) p
  | bk ρ2=>simpa using p
  | rt r=>simpa using p
variable {u:D->Ev->Option Ev} {c:Ev->Option Bool} {e:Ev->Option D}
theorem wo_compAt (I:Ev->Prop) (F:Nat->D->Prop) (h0:I ρ) (hs:∀ (i:Nat) d ρ,ds[i]?=some d->I ρ->Wo (u d ρ) fun ρ1=>c ρ1=some true/\Wo (e ρ1) (F i)/\I ρ1) (hd:∀ xs,xs.length=ds.length->(∀ (i:Nat) x,xs[i]?=some x->F i x)->R xs):Wo (Yh u c e ds ρ) R:=by
 obtain ⟨xs,q1,q2,q3⟩:=compD_at I F ds 0 ρ h0 fun i d ρ h1 h2=>(by
  obtain ⟨ρ1,a1,a2,a3,a4⟩:=hs i d ρ h1 h2
  exact ⟨ρ1,a1,a2,by rw [QK];exact a3,a4⟩)
 exact ⟨xs,q1,hd xs q2 fun i x h=>by have:=q3 i x h;rwa [QK] at this⟩
end
theorem JX {a b:Int} (h1:-(2 ^ 64)<a) (h2:a<2 ^ 64):IntMulOk a b:=.of_left (intBits_le_64 h1 h2)
theorem mulB {a b:Int} {n k:Nat} (h1:a.natAbs<2 ^ n) (h2:b.natAbs<2 ^ k) (h:n+k<=134217728):IntMulOk a b:=.of_le (PySem.intBits_le_iff.mpr h1) (PySem.intBits_le_iff.mpr h2) h
theorem cutD_from {ds:List D} (k:Nat):cutD ds (some (k:Int)) none=ds.drop k:=by
 unfold cutD
 rw [HT.sIx_nat,HT.sIx_none]
 by_cases h2:k<=ds.length
 ·rw [PH h2,PQ (by simp)]
 ·rw [PM (by omega),List.drop_eq_nil_of_le (by omega:ds.length<=k),Pq];simp
theorem cutD_to {ds:List D} (k:Nat):cutD ds none (some (k:Int))=ds.take k:=by
 unfold cutD
 rw [HT.sIx_nat,HT.sIx_none]
 simp only [List.drop_zero,Nat.sub_zero]
 by_cases h2:k<=ds.length
 ·rw [PH h2]
 ·rw [PM (by omega),List.take_length,PQ (by omega)]
theorem YV {d0:D}:∀ n:Nat,(List.replicate n [d0]).flatten=List.replicate n d0
 | 0=>rfl
 | n+1=>by rw [QJ,QX,YV n];rfl
end M
namespace L2
open PySem PySem.Spec PyProof.Rows
def ItrD (lo:Int) (n:Nat):It:=⟨fun i _=>i<n,fun i H x H'=>H'=H/\x=.int (lo - i),fun i _=>n<=i⟩
theorem turn_rangeD {P:Ki} {w:Kk} {K:KC} {tg:Kv} (it:Kc) (lo:Int) (n:Nat):Wj P w K tg (ItrD lo n) [it] it (fun i h=>IsRangeIter h it (lo+(i:Nat)*(-1)) ((n:Int) - (i:Nat)) (-1)) where
 mem:=by simp
 obj:=fun i h st b hb=>by
  have e:b=it:=by simpa using hb
  subst e
  exact ⟨_,st,fun v z=>by
   have z':Data.fields _=Data.cell v:=z
   cases z'⟩
 keep:=fun i h h' st k=>k it (by simp) _ st
 item:=by
  intro X hP hw hK hc i KJ s σ H E I hf st hg
  subst hP hw hK
  obtain ⟨f0,f1,f2,f3,f4,f5⟩:=hf it (by simp)
  have W:=Walks.range (prog:=X.prog) (w:=X.w) (I.ok.hd hc) it lo (-1) n
  refine W.item i s _ _ hg st fun v h' tk hv st' kk=>?_
  obtain ⟨t,rfl⟩:=hv
  have I1:Inv X KJ σ H { s with heap:=h',toks:=tk }:=I.turned (fun b o hb e=>kk b o (by simpa using hb) e) f0 f1 f3 f4 f5
  refine ⟨_,rfl,go_of (s:={ s with heap:=h',toks:=tk }) (n:="range_iterator") st' rfl rfl (by decide) ⟨.int (lo - i),H,I1,⟨t,?_⟩,⟨rfl,rfl⟩,st',fun b hb=>(hf b hb).1⟩⟩
  rw [show lo - (i:Int)=lo+(i:Int)*(-1) by omega]
 done:=by
  intro X hP hw hK hc i KJ s σ H E I hf st hg
  subst hP hw hK
  obtain ⟨f0,f1,f2,f3,f4,f5⟩:=hf it (by simp)
  exact wpAny_pyNext_range_end (I.ok.hd hc) st (by have:n<=i:=hg;omega) fun h' eb=>⟨rfl,I.turned (t':=s.toks) (fun b o hb e=>eb b o hb e) f0 f1 f3 f4 f5⟩
 self:=fun _ _ _ _ _ st h=>wpAny_pyIter_rangeiter st h
section
variable {X:Cx} {tg:Kv}
def iRngD (ta:TA):TI:=fun σ H R=>ta σ H fun vs H1=>∃ i j:Int,vs=[.int i,.int j,.int (-1)]/\(-(2 ^ 62)<=i/\i<2 ^ 62/\-(2 ^ 62)<=j/\j<2 ^ 62)/\R (ItrD i (i - j).toNat) H1
theorem pi_rangeD {a b c:Kv} {ta:TA} {p pos:KB} (hg:Gl X "range") (hm:X.mg "range"=none) (ha:PA X [a,b,c] ta) (hs:Ke [a,b,c] X.env=[(false,Kz a X.env),(false,Kz b X.env),(false,Kz c X.env)]:=by rfl) (hs2:Ke [b,c] X.env=[(false,Kz b X.env),(false,Kz c X.env)]:=by rfl) :
  PI X tg (.Call (.Name "range" p) [a,b,c] [] pos) (iRngD ta):=by
 intro KJ s σ H R I h
 refine Call_ (jL I hg hm boot_range (KH (thn (ha pos KJ s σ H _ I h) fun us s1 ⟨vs,H1,I1,r1,q1⟩=>?_) (by rw [hs,hs2]) (by rw [hs2];rfl)))
 obtain ⟨i,j,e,⟨q1,q2,q3,q4⟩,q⟩:=q1
 subst e
 cases r1 with
 | cons r rr =>
  cases rr with
  | cons r' rr =>
   cases rr with
   | cons r'' rr =>
    cases rr
    obtain ⟨t,rfl⟩:=r
    obtain ⟨t',rfl⟩:=r'
    obtain ⟨t'',rfl⟩:=r''
    refine call_range_3 (by decide) ?_
    refine wpAny_pyIter_range (IsRange.new ..) (PySem.W.small_down q1 q2 q3 q4) ?_
    have I2:∀ (ob:KA) (tk:Nat),Inv X KJ σ H1 { s1 with heap:=s1.heap.push ob,toks:=tk }:=fun ob tk=>I1.kept fun b o e=>Qb _ e
    refine ⟨_,[_],_,_,H1,rfl,(I2 _ _).kept (t':=_) fun b o e=>Qb _ e,turn_rangeD _ i (i - j).toNat,?_,fun b hb=>?_,q⟩
    ·have e1:i+((0:Nat):Int)*(-1)=i:=by simp
     have e2:(((i - j).toNat:Nat):Int) - ((0:Nat):Int)=Builtin.Range.rangeSize i j (-1):=by rw [PySem.W.rangeSize_downNat];simp
     show IsRangeIter _ _ (i+((0:Nat):Int)*(-1)) ((((i - j).toNat:Nat):Int) - ((0:Nat):Int)) (-1)
     rw [e1,e2]
     exact Qp _ rfl
    ·have e:=Qs.mp hb
     subst e
     exact (I2 _ _).fpOk (Qh _) ((I2 _ _).hok.fresh (Qh _))
end
section
variable {X:Cx}
def rCatA (K:KC):R2:=fun x y H Q=>∃ a b xs ys,x=.ref a/\y=.ref b/\SqT K H a xs/\SqT K H b ys/\xs.length+ys.length<=Kg/\(xs=[]->Q (.ref b) H) /\
 (xs≠[]->ys=[]->Q (.ref a) H)/\(xs≠[]->ys≠[]->∀ p,H p=none->Q (.ref p) (upd H p (.tup (xs++ys))))
theorem op_catA {K':KC} (hK:X.K=K':=by rfl):OpR X (binaryOp .Add) (rCatA K'):=by
 subst hK
 intro KJ s σ H x y v u Q I rx ry h
 obtain ⟨a,b,xs,ys,rfl,rfl,ha,hb,hz,q0,q1,q2⟩:=h
 by_cases hx:xs=[]
 ·cases rx
  cases ry
  obtain ⟨KP,r1,p1,_⟩:=I.tuple ha
  obtain ⟨its2,r2,p2,_⟩:=I.tuple hb
  obtain ⟨⟨cls,dd,data,sl⟩,ho,hc,n,hd⟩:=id p1
  obtain ⟨⟨cls2,dd2,data2,sl2⟩,ho2,hc2,n2,hd2⟩:=id p2
  simp only at hc hd hc2 hd2
  subst hc hd hc2 hd2
  have he:KP=[]:=r1.nil_iff.mpr hx
  exact concat_meets ⟨_,ho,rfl⟩ ⟨_,ho2,rfl⟩ noFill_tuple_add seq_tuple_add PySem.F.slot_tuple_add PySem.F.entry_tuple_add (PySem.F.args_tuple_add_2 _ _)
   (tuple_addW0 a b KP.toArray its2.toArray n n2 dd dd2 sl sl2 (by simp [he])) ⟨ho,ho2,⟨.ref b,H,I,rfl,q0 hx⟩⟩
 ·exact op_catT KJ s σ H _ _ v u Q I rx ry ⟨a,b,xs,ys,rfl,rfl,ha,hb,hx,hz,q1 hx,q2 hx⟩
end
end L2
namespace M
open PySem PySem.Spec L2
open PySem.W (Frag)
def YL (lo:Int) (n:Nat):List D:=(List.range n).map fun i=>.int (lo - (i:Nat))
@[simp] theorem Yy {lo:Int} {n:Nat}:(YL lo n).length=n:=by simp [YL]
theorem YK {lo:Int} {n i:Nat} {d:D} (h:(YL lo n)[i]?=some d):i<n/\d=.int (lo - (i:Nat)):=by
 unfold YL at h
 rw [QE] at h
 by_cases hi:i<n
 ·simp [hi] at h;exact ⟨hi,h.symm⟩
 ·simp [hi] at h
theorem iw_rangeD {K:KC} (lo:Int) (n:Nat):IW K (ItrD lo n) (YL lo n) (fun _ _=>True):=by
 refine ⟨fun H B i d _ e=>(YK e).1,fun H B i d x H' _ e y=>?_,fun H B i _ h=>by rw [Yy] at h;exact h⟩
 obtain ⟨rfl,rfl⟩:=y
 obtain ⟨_,rfl⟩:=YK e
 exact ⟨.refl _,yD⟩
def gm (fa fb:Ev->Option D):Ev->Option (List D):=fun ρ=>(fa ρ).bind fun d=>(fb ρ).bind fun d'=>(asI d).bind fun i=>(asI d').bind fun j=>if -(2 ^ 62)<=i/\i<2 ^ 62/\-(2 ^ 62)<=j/\j<2 ^ 62 then some (YL i (i - j).toNat) else none
section
variable {X:Cx} {fr st s:Bool} {os os' ol:List Nat} {tg e a b:Kv} {t ta tb te:TE} {f fa fb:Ev->Option D} {pos p:KB}
theorem si_rangeD {jj:Nat} {p1 p2:KB} (hg:Gl X "range") (hm:X.mg "range"=none) (ha:SE X false os a ta fa) (hb:SE X false os b tb fb)
  (h1:Ke [a,b,.UnaryOp .USub (.Constant (.int 1) jj p1) p2] X.env=(false,Kz a X.env)::Ke [b,.UnaryOp .USub (.Constant (.int 1) jj p1) p2] X.env:=by rfl)
  (h2:Ke [b,.UnaryOp .USub (.Constant (.int 1) jj p1) p2] X.env=(false,Kz b X.env)::Ke [.UnaryOp .USub (.Constant (.int 1) jj p1) p2] X.env:=by rfl)
  (h3:Ke [.UnaryOp .USub (.Constant (.int 1) jj p1) p2] X.env=(false,Kz (.UnaryOp .USub (.Constant (.int 1) jj p1) p2) X.env)::Ke [] X.env:=by rfl)
  (hs:Ke [a,b,.UnaryOp .USub (.Constant (.int 1) jj p1) p2] X.env=[(false,Kz a X.env),(false,Kz b X.env),(false,Kz (.UnaryOp .USub (.Constant (.int 1) jj p1) p2) X.env)]:=by rfl)
  (hs2:Ke [b,.UnaryOp .USub (.Constant (.int 1) jj p1) p2] X.env=[(false,Kz b X.env),(false,Kz (.UnaryOp .USub (.Constant (.int 1) jj p1) p2) X.env)]:=by rfl) :
  SI X s os tg (.Call (.Name "range" p) [a,b,.UnaryOp .USub (.Constant (.int 1) jj p1) p2] [] pos) (iRngD (zW ta (zW tb (zW (tUn (rU fun i=>.int (-i)) (tC (.int 1))) ZS)))) (gm fa fb) :=
 ⟨pi_rangeD hg hm (zM ha.pe (zM hb.pe (zM (pe_un YU yj) Zj h3) h2) h1) hs hs2,fun P6 P7 σ H ρ ds R m q kk=>by
 obtain ⟨x,h1,h2⟩:=zc q
 obtain ⟨y,h3,h4⟩:=zc h2
 obtain ⟨i,h5,h6⟩:=zc h4
 obtain ⟨j,h7,h8⟩:=zc h6
 split at h8
 ·cases h8
  rename_i hc
  refine ha.ok P6 P7 σ H ρ x _ m h1 fun v H1 s1 r=>?_
  refine hb.ok P6 P7 σ H1 ρ y _ (m.up s1) h3 fun v' H2 s2 r2=>?_
  have e1:=gH r h5
  have e2:=gH r2 h7
  subst e1;subst e2
  exact ⟨1,rfl,i,j,rfl,hc,kk _ H2 _ (s1.trans s2) (iw_rangeD i _) (fun _ _ _ _ _ _ _ _ _=>trivial) (fun _ _ _ _ _ _ _=>trivial) trivial⟩
 ·cases h8⟩
def YT (fa:Ev->Option (List D)) (fl fu:Ev->Option (Option Int)):Ev->Option D:=fun ρ=>(fa ρ).bind fun ds=>(fl ρ).bind fun lo=>(fu ρ).bind fun hi=>if HT.sIx ds.length 0 lo=0/\HT.sIx ds.length ds.length hi=ds.length then none else some (.tup (cutD ds lo hi))
theorem JR {ca:Ev->Option (List D)} {lo hi:Option Kv} {t1 t2:TO} {g1 g2:Ev->Option (Option Int)} {p2:KB} (ha:SC X false os a ta ca) (hl:SO X os lo t1 g1) (hu:SO X os hi t2 g2) {K':KC} (hK:X.K=K':=by rfl) :
  SE X st os (.Subscript a (.Slice lo hi none p2) pos) (tSl (rSlT K') ta t1 t2) (YT ca g1 g2):=by
 subst hK
 exact ⟨pe_slice sl_tup ha.pe hl.po hu.po,fun P6 P7 σ H ρ d Q m q k=>by
 obtain ⟨ds,h1,h2⟩:=zc q
 obtain ⟨l,h3,h4⟩:=zc h2
 obtain ⟨u,h5,h6⟩:=zc h4
 split at h6
 ·cases h6
 rename_i hne
 cases h6
 refine ha.ok P6 P7 σ H ρ ds _ m h1 fun p xs H1 s1 hq r1=>?_
 refine hl.ok P6 P7 σ H1 ρ l _ (m.up s1) h3 fun H2 s2=>?_
 refine hu.ok P6 P7 σ H2 ρ u _ (m.up (s1.trans s2)) h5 fun H3 s3=>?_
 refine ⟨p,xs,rfl,SqT.same (s2.trans s3) hq,by rw [r1.length];exact hne,fun p' hp=>?_⟩
 refine k _ _ (((s1.trans s2).trans s3).trans (zG hp)) (Rep.bb ?_)
 simp only [Rep]
 exact ⟨p',_,rfl,.inl (.inl zw),(zr.cut (r1.up (s2.trans s3))).up (zG hp)⟩⟩
end
def J4 (fa fb:Ev->Option D):Ev->Option D:=fun ρ=>(zj false fa ρ).bind fun x=>(zj false fb ρ).bind fun y=>Wh (x++y)
@[simp] theorem fCatT_ {fa fb:Ev->Option D} {ρ:Ev}:J4 fa fb ρ=(zj false fa ρ).bind fun x=>(zj false fb ρ).bind fun y=>Wh (x++y):=rfl
theorem se_catA {X:Cx} {st:Bool} {os:List Nat} {a b:Kv} {ta tb:TE} {fa fb:Ev->Option D} {pos:KB} (ha:SE X true os a ta fa) (hb:SE X true os b tb fb) {K':KC} (hK:X.K=K':=by rfl):SE X st os (.BinOp a .Add b pos) (tOp (rCatA K') ta tb) (J4 fa fb):=by
 subst hK
 exact ⟨wV op_catA ha.pe hb.pe,fun P6 P7 σ H ρ d Q m q k=>by
 obtain ⟨x,h1,h2⟩:=zc q
 obtain ⟨y,h3,h4⟩:=zc h2
 unfold Wh at h4
 split at h4
 ·rename_i hl
  cases h4
  refine (SE.seq (k:=false) ha).ok P6 P7 σ H ρ x _ m h1 fun p1 xs H1 s1 hq1 r1=>?_
  refine (SE.seq (k:=false) hb).ok P6 P7 σ H1 ρ y _ (m.up s1) h3 fun p2 ys H2 s2 hq2 r2=>?_
  have e1:=r1.length
  have e2:=r2.length
  refine ⟨p1,p2,xs,ys,rfl,rfl,SqT.same s2 hq1,hq2,?_,fun z=>?_,fun _ z=>?_,fun _ _ p' hp=>?_⟩
  ·rw [e1,e2,<- Qd];exact hl
  ·subst z
   have:x=[]:=List.length_eq_zero_iff.mp e1.symm
   subst this
   refine k _ H2 (s1.trans s2) (Rep.bb ?_)
   simp only [Rep,Ps]
   exact ⟨p2,ys,rfl,hq2,r2⟩
  ·subst z
   have:y=[]:=List.length_eq_zero_iff.mp e2.symm
   subst this
   refine k _ H2 (s1.trans s2) (Rep.bb ?_)
   simp only [Rep,Pl]
   exact ⟨p1,xs,rfl,SqT.same s2 hq1,r1.up s2⟩
  ·refine k _ _ ((s1.trans s2).trans (zG hp)) (Rep.bb ?_)
   simp only [Rep]
   exact ⟨p',_,rfl,.inl (.inl zw),((r1.up s2).append r2).up (zG hp)⟩
 ·cases h4⟩
mutual
def ya:D->PyData
 | .non=>.none
 | .bl b=>.bool b
 | .int i=>.int i
 | .str x=>.str x
 | .tup ds=>.tuple (yv ds)
 | .lst ds=>.list (yv ds)
 | .dict _ _=>.dict []
 | .scr ns=>.list (ns.map .int)
 | .adr _=>.dict []
 | .kset _=>.dict []
 | .tk _=>.dict []
 | .pin _ _=>.dict []
def yv:List D->List PyData
 | []=>[]
 | d::ds=>ya d::yv ds
end
def eqD (x y:D):Bool:=PyData.eqv (ya x) (ya y)
def j8 (x:D):Bool:=SeqAt.shaped (ya x)
def dEqD (x y:D):Option D:=if j8 x=true/\j8 y=true then some (.bl (eqD x y)) else none
def dNeD (x y:D):Option D:=if j8 x=true/\j8 y=true then some (.bl (!eqD x y)) else none
section
variable {X:Cx} {KJ:List (Kc×KA)} {σ:St} {H:Hp} {s:Kb} {B:Kc->Prop}
theorem readsInts (h:Kl):∀ {ns:List Int} {us:List Ka},zY (ns.map V.int) us->∃ as,ReadsAll h us (ns.map PyData.int) as
 | [],_,.nil=>⟨_,.nil⟩
 | n::r,_,.cons q t=>by
  obtain ⟨tk,rfl⟩:=q
  obtain ⟨as,z⟩:=readsInts h t
  exact ⟨_,.cons (.int n tk) z⟩
mutual
theorem Rep.reads (I:Inv X KJ σ H s):∀ (d:D) (v:V) (u:Ka),(ya d).canLay0=true->Rep X.K H B d v->Zu v u->∃ as,Reads s.heap u (ya d) as
 | .non,v,u,_,h,r=>by simp only [Rep] at h;subst h;cases r;exact ⟨_,.none⟩
 | .bl b,v,u,_,h,r=>by simp only [Rep] at h;subst h;cases r;exact ⟨_,.bool b⟩
 | .int i,v,u,_,h,r=>by simp only [Rep] at h;subst h;obtain ⟨t,rfl⟩:=r;exact ⟨_,.int i t⟩
 | .str x,v,u,_,h,r=>by simp only [Rep] at h;subst h;obtain ⟨t,rfl⟩:=r;exact ⟨_,.str x t⟩
 | .tup ds,v,u,c,h,r=>by
  simp only [Rep] at h
  obtain ⟨a,xs,rfl,hq,hr⟩:=h
  cases r
  obtain ⟨KP,rv,ht,_⟩:=I.tuple hq
  obtain ⟨o,e1,e2,n,e3⟩:=ht
  obtain ⟨as,z⟩:=zr.reads I ds xs KP (by simpa [ya,PyData.canLay0] using c) hr rv
  exact ⟨as,.tuple e1 e2 e3 z⟩
 | .lst ds,v,u,c,h,r=>by
  simp only [Rep] at h
  obtain ⟨a,xs,rfl,hq,hr⟩:=h
  cases r
  obtain ⟨KP,rv,ht,_⟩:=I.list hq.sq
  obtain ⟨o,n,e1,e2,_,e3⟩:=ht
  obtain ⟨as,z⟩:=zr.reads I ds xs KP (by simpa [ya,PyData.canLay0] using c) hr rv
  exact ⟨_,.list e1 e2 e3 z⟩
 | .dict ks ds,v,u,c,h,r=>by simp [ya,PyData.canLay0] at c
 | .scr ns,v,u,c,h,r=>by
  simp only [Rep] at h
  obtain ⟨a,rfl,hq⟩:=h
  cases r
  obtain ⟨KP,rv,ht,_⟩:=I.list hq.sq
  obtain ⟨o,n,e1,e2,_,e3⟩:=ht
  obtain ⟨as,z⟩:=readsInts s.heap rv
  exact ⟨_,.list e1 e2 e3 z⟩
 | .adr a,v,u,c,h,r=>by simp [ya,PyData.canLay0] at c
 | .kset a,v,u,c,h,r=>by simp [ya,PyData.canLay0] at c
 | .tk a,v,u,c,h,r=>by simp [ya,PyData.canLay0] at c
 | .pin a d,v,u,c,h,r=>by simp [ya,PyData.canLay0] at c
theorem zr.reads (I:Inv X KJ σ H s):∀ (ds:List D) (vs:List V) (us:List Ka),PyData.canLayAll0 (yv ds)=true->zr X.K H B ds vs->zY vs us->∃ as,ReadsAll s.heap us (yv ds) as
 | [],vs,us,_,h,r=>by simp only [zr] at h;subst h;cases r;exact ⟨_,.nil⟩
 | d::ds,vs,us,c,h,r=>by
  simp only [zr] at h
  obtain ⟨v,vr,rfl,h1,h2⟩:=h
  simp only [yv,PyData.canLayAll0,QI] at c
  cases r with
  | cons q t =>
   obtain ⟨as,z⟩:=Rep.reads I d v _ c.1 h1 q
   obtain ⟨bs,y⟩:=zr.reads I ds vr _ c.2 h2 t
   exact ⟨_,.cons z y⟩
end
def rEqD (K:KC) (neg:Bool):R2:=fun x y H Q=>∃ (B:Kc->Prop) (d1 d2:D),Rep K H B d1 x/\Rep K H B d2 y/\j8 d1=true/\j8 d2=true/\Q (.bl (if neg then !eqD d1 d2 else eqD d1 d2)) H
theorem op_eqD {k:Nat} (hr:Room k X.A) {K':KC} (hK:X.K=K':=by rfl):OpR X (Km .Eq) (rEqD K' false):=by
 subst hK
 intro KJ s σ H x y v u Q I rx ry h
 obtain ⟨B,d1,d2,h1,h2,o1,o2,q⟩:=h
 obtain ⟨as,r1⟩:=Rep.reads I d1 x v (SeqAt.canLay_of_shaped o1) h1 rx
 obtain ⟨bs,r2⟩:=Rep.reads I d2 y u (SeqAt.canLay_of_shaped o2) h2 ry
 exact PyProof.Rows.eq_dataH r1 r2 o1 o2 hr.units ⟨.bl _,H,I,rfl,q⟩
theorem op_neD {k:Nat} (hr:Room k X.A) {K':KC} (hK:X.K=K':=by rfl):OpR X (Km .NotEq) (rEqD K' true):=by
 subst hK
 intro KJ s σ H x y v u Q I rx ry h
 obtain ⟨B,d1,d2,h1,h2,o1,o2,q⟩:=h
 obtain ⟨as,r1⟩:=Rep.reads I d1 x v (SeqAt.canLay_of_shaped o1) h1 rx
 obtain ⟨bs,r2⟩:=Rep.reads I d2 y u (SeqAt.canLay_of_shaped o2) h2 ry
 exact PyProof.Rows.ne_dataH r1 r2 o1 o2 hr.units ⟨.bl _,H,I,rfl,q⟩
theorem rok_eqD {K:KC}:ROk K (rEqD K false) dEqD:=fun H B x y d1 d2 d Q hB r1 r2 e k=>by
 unfold dEqD at e
 split at e
 ·rename_i hc
  cases e
  exact ⟨B,d1,d2,r1,r2,hc.1,hc.2,k _ H (.refl H) YW⟩
 ·cases e
theorem rok_neD {K:KC}:ROk K (rEqD K true) dNeD:=fun H B x y d1 d2 d Q hB r1 r2 e k=>by
 unfold dNeD at e
 split at e
 ·rename_i hc
  cases e
  exact ⟨B,d1,d2,r1,r2,hc.1,hc.2,k _ H (.refl H) YW⟩
 ·cases e
end
theorem eqD_self {x:D} (h:j8 x=true):eqD x x=true:=SeqAt.eqv_refl _ (SeqAt.canLay_of_shaped h)
@[simp] theorem fCutT_ {fl:Ev->Option (List D)} {f1 f2:Ev->Option (Option Int)} {ρ:Ev}:YT fl f1 f2 ρ=(fl ρ).bind fun ds=>(f1 ρ).bind fun lo=>(f2 ρ).bind fun hi=>if HT.sIx ds.length 0 lo=0/\HT.sIx ds.length ds.length hi=ds.length then none else some (.tup (cutD ds lo hi)):=rfl
@[simp] theorem mNewR_ {i:Nat} {f:Ev->Option D} {ρ:Ev}:mNewR i f ρ=(f ρ).bind fun d=>if i<ρ.length/\isLs d=true then some (.nx (ρ.set i (some d))) else none:=rfl
@[simp] theorem mNewRW_ {i:Nat} {f:Ev->Option D} {ρ:Ev}:mNewRW i f ρ=(f ρ).bind fun d=>if i<ρ.length/\wC d=true then some (.nx (ρ.set i (some d))) else none:=rfl
@[simp] theorem isLs_ {ds:List D}:isLs (.lst ds)=true:=rfl
@[simp] theorem itemsFlat_ {ds:List D}:wC (.lst ds)=Z5 ds:=rfl
theorem Jx (ns:List Int):Z5 (ns.map .int)=true:=by
 induction ns with
 | nil=>rfl
 | cons n r ih=>simp [Z5,ih]
@[simp] theorem flat_non:D.flat .non=true:=rfl
@[simp] theorem dIsN_ {x:D}:dIsN x .non=some (.bl (YA x)):=rfl
@[simp] theorem dNotN_ {x:D}:dNotN x .non=some (.bl (!YA x)):=rfl
@[simp] theorem isNon_l {ds:List D}:YA (.lst ds)=false:=rfl
@[simp] theorem isNon_t {ds:List D}:YA (.tup ds)=false:=rfl
@[simp] theorem isNon_n:YA .non=true:=rfl
@[simp] theorem dIsi_l {T:String} {ds:List D}:dIsi T (.lst ds)=.bl ("list" == T||("list" == "bool"&&T == "int")):=rfl
@[simp] theorem dIsi_n {T:String}:dIsi T .non=.bl ("NoneType" == T||("NoneType" == "bool"&&T == "int")):=rfl
@[simp] theorem dIsi_t {T:String} {ds:List D}:dIsi T (.tup ds)=.bl ("tuple" == T||("tuple" == "bool"&&T == "int")):=rfl
open PySem L2
abbrev lstI (xs:List Int):D:=.lst (xs.map .int)
def YO (w:Int->Int->Int):D->D
 | .tup [.int x,.int y]=>.int (w x y)
 | _=>.non
@[simp] theorem pairD_ {w:Int->Int->Int} {x y:Int}:YO w (.tup [.int x,.int y])=.int (w x y):=rfl
def intD (g:Int->Int):D->D
 | .int j=>.int (g j)
 | _=>.non
@[simp] theorem intD_ {g:Int->Int} {x:Int}:intD g (.int x)=.int (g x):=rfl
def row (S:List (List Int)) (k:Nat):List Int:=S.getD k []
section
variable {ρ:Ev} {T:Out->Prop} {i:Nat} {f fa fb:Ev->Option D} {c c1 c2:Ev->Option Bool} {m1 m2:Ev->Option Out} {x y d:D} {ds ds':List D} {g:List D->Option D} {h:D->D->Option D} {fl:Ev->Option (List D)} {P:D->Prop}
theorem yf (e:f ρ=some d) (k:T (.nx (ρ.set i (some d)))):Wo (Zx i f ρ) T:=by rw [mSet_,e];exact ⟨_,rfl,k⟩
theorem upd_ {w:List D->D->Option (List D)} (e:f ρ=some d) (ex:ρ[i]?.join=some (.lst ds)) (hw:w ds d=some ds') (k:T (.nx (ρ.set i (some (.lst ds'))))):Wo (mUpd i w f ρ) T:=by rw [mUpd_,e,ex,oB,oB,asL_,oB,hw];exact ⟨_,rfl,k⟩
theorem fA2 (h1:fa ρ=some x) (h2:fb ρ=some y) (e:g [x,y]=some d):fA g (ze fa (ze fb zt)) ρ=some d:=by rw [fA_,ZR,h1,oB,ZR,h2];exact e
theorem f2v (h1:fa ρ=some x) (h2:fb ρ=some y) (e:h x y=some d):f2 h fa fb ρ=some d:=by rw [f2_,h1,oB,h2];exact e
theorem Zp {k:Int} (h1:fl ρ=some ds) (h2:fb ρ=some (.int k)) (e:atI ds k=some d):fIx fl fb ρ=some d:=by rw [fIx_,h1,oB,h2];exact e
theorem Zv {b:Bool} (e:f ρ=some (.bl b)):zI f ρ=some b:=by rw [fTest_,e];rfl
theorem not_t (e:c ρ=some true):Y0 c ρ=some false:=by rw [fNot_,e];rfl
theorem Jt (e:c ρ=some false) (k:Wo (m2 ρ) T):Wo (mIf c m1 m2 ρ) T:=by rw [mIf_,e];exact k
theorem andV_t (e1:fa ρ=some (.bl true)) (e2:fb ρ=some d):fAndV fa fb ρ=some d:=by rw [fAndV_,e1];exact e2
theorem Jn (e:f ρ=some d) (k:P d):Wo (Z1 f ρ) (Wl P):=by rw [Jc,e];exact ⟨_,rfl,k⟩
theorem tupL (e:f ρ=some (.lst ds)):fA jk (zj true f) ρ=some (.tup ds):=by rw [fA_,fSeq_,e];rfl
theorem tup1_ (e:f ρ=some d):Zo (ze f zt) ρ=some (.tup [d]):=by rw [fTup_,ZR,e];exact dTup_ (yA (by simp))
theorem catT_ {xs ys:List D} (h1:fa ρ=some (.tup xs)) (h2:fb ρ=some (.tup ys)) (hl:xs.length+ys.length<=1000000):J4 fa fb ρ=some (.tup (xs++ys)):=by
 rw [fCatT_,fSeq_,h1,oB,asK_f,oB,fSeq_,h2,oB,asK_f,oB]
 exact dTup_ (yA (by rw [Qd];exact hl))
theorem cutTo_ {k:Nat} (hl:fl ρ=some ds) (e:f ρ=some (.int (k:Nat))) (hk:k<ds.length):YT fl fNo (YS f) ρ=some (.tup (ds.take k)):=by
 rw [fCutT_,hl,oB,fNo_,oB,fPart_,e,oB,asI_,Option.map_some,oB,KR,cutD_to]
 rw [HT.sIx_nat];omega
theorem gy {k:Nat} (hl:fl ρ=some ds) (e:f ρ=some (.int (k:Nat))) (hk:0<k) (h0:0<ds.length):YT fl (YS f) fNo ρ=some (.tup (ds.drop k)):=by
 rw [fCutT_,hl,oB,fPart_,e,oB,asI_,Option.map_some,oB,fNo_,oB,KR,cutD_from]
 rw [HT.sIx_nat];omega
theorem ZH (e:f ρ=some (.tup ds)):zj false f ρ=some ds:=by rw [fSeq_,e];rfl
theorem yB (e:f ρ=some (.lst ds)):zj true f ρ=some ds:=by rw [fSeq_,e];rfl
theorem fA1 (h1:fa ρ=some x) (e:g [x]=some d):fA g (ze fa zt) ρ=some d:=by rw [fA_,ZR,h1];exact e
theorem fA3 {fc:Ev->Option D} {z:D} (h1:fa ρ=some x) (h2:fb ρ=some y) (h3:fc ρ=some z) (e:g [x,y,z]=some d):fA g (ze fa (ze fb (ze fc zt))) ρ=some d:=by rw [fA_,ZR,h1,oB,ZR,h2,oB,ZR,h3];exact e
theorem fA4 {fc fd:Ev->Option D} {z t:D} (h1:fa ρ=some x) (h2:fb ρ=some y) (h3:fc ρ=some z) (h4:fd ρ=some t) (e:g [x,y,z,t]=some d):fA g (ze fa (ze fb (ze fc (ze fd zt)))) ρ=some d:=by rw [fA_,ZR,h1,oB,ZR,h2,oB,ZR,h3,oB,ZR,h4];exact e
theorem f1v {h1:D->Option D} (e1:fa ρ=some x) (e:h1 x=some d):f1 h1 fa ρ=some d:=by rw [f1_,e1];exact e
theorem new_ (e:f ρ=some d) (hi:i<ρ.length) (k:T (.nx (ρ.set i (some d)))):Wo (mNew i f ρ) T:=by rw [mNew_,e];exact ⟨_,KQ hi,k⟩
theorem Jf (e:f ρ=some d) (h:d.flat=true):Yo f ρ=some d:=by rw [fFlat_,e,oB,KQ h]
theorem ixN_nat {n k:Nat} (h:k<n):ixN n (k:Int)=some k:=by unfold ixN;rw [KQ (by omega),KQ (by omega)];simp
end
section
variable {X:Cx} {fr:Bool} {os ol:List Nat} {pos:KB}
end
end M
namespace L2
open PySem PySem.Spec PyProof.Rows
section
variable {X:Cx} {KJ:List (Kc×KA)} {σ:St} {H H':Hp} {s:Kb}
end
end L2
namespace L2
open PySem PySem.Spec PyProof.Rows
section
variable {X:Cx}
end
end L2
namespace L2
open PySem PySem.Spec PyProof.Rows
section
variable {X:Cx} {e:Kv} {te:TE} {g:Kw} {p p' kp pos:KB} {k:Nat} {f:Kc} {fd:Kh} {p1:Kw} {sp:Sp}
end
end L2
namespace M
open PySem PySem.Spec L2
open PySem.W (Frag)
theorem zr.of_at {K:KC} {H:Hp} {B:Kc->Prop}:∀ {ds:List D} {vs:List V},ds.length=vs.length->(∀ (i:Nat) d v,ds[i]?=some d->vs[i]?=some v->Rep K H B d v)->zr K H B ds vs
 | [],vs,hl,h=>by cases vs with | nil=>exact .nil | cons _ _=>simp at hl
 | d::ds,vs,hl,h=>by
  cases vs with
  | nil=>simp at hl
  | cons v vs=>exact .cons (h 0 d v rfl rfl) (zr.of_at (by simpa using hl) fun i d' v' h1 h2=>h (i+1) d' v' (by simpa using h1) (by simpa using h2))
section
variable {X:Cx} {os:List Nat} {a:Kv} {ta:TE} {ca:Ev->Option (List D)} {p pos p' kp:KB} {g:Kw} {k:Nat} {fn:Kc} {fd:Kh} {p1:Kw} {m:List D->Option D}
end
end M
namespace L2
open PySem PySem.Spec PyProof.Rows
section
variable {X:Cx}
end
end L2
namespace M
open PySem PySem.Spec L2
open PySem.W (Frag)
section
variable {X:Cx} {s:Bool} {os:List Nat} {a:Kv} {ta:TE} {ca:Ev->Option (List D)} {p pos:KB}
end
section
variable {X:Cx} {fr:Bool} {os ol:List Nat} {e ek:Kv} {te tk:TE} {f fk:Ev->Option D} {pos:KB}
end
end M
namespace EV
open PySem L2 M
theorem wT {T:Out->Prop} {f:Ev->Option D} {ρ:Ev} {d:D} (e:f ρ=some d) (k:T (.rt d)):Wo (Z1 f ρ) T:=by rw [Jc,e];exact ⟨_,rfl,k⟩
section
variable {ρ:Ev} {fa fb:Ev->Option (List D)}
theorem catv {xs ys:List D} (h1:fa ρ=some xs) (h2:fb ρ=some ys) (hl:xs.length+ys.length<=1000000):Wg fa fb ρ=some (.lst (xs++ys)):=by
 rw [fCat_,h1,oB,h2,oB]
 exact Jg (yA (by rw [Qd];exact hl))
theorem lv {f:Ev->Option D} {xs:List D} (h:f ρ=some (.lst xs)):fL f ρ=some xs:=by rw [fL_,h];rfl
theorem jI {f:Ev->Option D} {d:D} (e:f ρ=some d):ZL (ze f zt) ρ=some (.lst [d]):=by rw [fLst_,ZR,e];exact Jg (yA (by simp))
end
theorem ints_at:∀ {l:List D} {P:Nat->Int->Prop},(∀ (i:Nat) x,l[i]?=some x->∃ v,x=.int v/\P i v)->∃ vs:List Int,l=vs.map .int/\vs.length=l.length/\∀ i,i<l.length->P i (vs.getD i 0)
 | [],_,_=>⟨[],rfl,rfl,fun i hi=>by simp at hi⟩
 | x::l,P,h=>by
  obtain ⟨v,rfl,pv⟩:=h 0 x rfl
  obtain ⟨vs,e1,e2,e3⟩:=ints_at (l:=l) (P:=fun i=>P (i+1)) fun i y hy=>h (i+1) y (by simpa using hy)
  refine ⟨v::vs,by rw [e1];rfl,by simp [e2],fun i hi=>?_⟩
  cases i with
  | zero=>exact pv
  | succ i=>exact e3 i (by simpa using hi)
theorem Jz {k:Nat} {fl:Ev->Option (List D)} {u:D->Ev->Option Ev} {c:Ev->Option Bool} {e:Ev->Option D} {ρ:Ev} {ds:List D} (P:Nat->Int->Prop) (I:Ev->Prop) (hfl:fl ρ=some ds) (hm:ds.length<=1000) (h0:I (ρ++List.replicate k none))
  (hs:∀ (i:Nat) d ρ,ds[i]?=some d->I ρ->Wo (u d ρ) fun ρ1=>c ρ1=some true/\Wo (e ρ1) (fun x=>∃ v,x=.int v/\P i v)/\I ρ1):∃ vs:List Int,ZX k fl u c e ρ=some (lstI vs)/\vs.length=ds.length/\∀ i,i<ds.length->P i (vs.getD i 0):=by
 suffices h:Wo (ZX k fl u c e ρ) fun d=>∃ vs:List Int,d=lstI vs/\vs.length=ds.length/\∀ i,i<ds.length->P i (vs.getD i 0) by
  obtain ⟨d,e,vs,rfl,q⟩:=h
  exact ⟨vs,e,q⟩
 rw [gt,hfl,oB,Wn]
 refine wo_compAt I (fun i x=>∃ v,x=.int v/\P i v) h0 hs fun xs hx hF=>?_
 obtain ⟨vs,rfl,e2,e3⟩:=ints_at hF
 rw [Jg (yA (by rw [hx];omega)),zV]
 rw [hx] at e2 e3
 exact ⟨vs,rfl,e2,e3⟩
theorem zip_at {xs ys:List Int} {i:Nat} {d:D} (h:(zipD (xs.map .int) (ys.map .int))[i]?=some d):i<xs.length/\i<ys.length/\d=.tup [.int (xs.getD i 0),.int (ys.getD i 0)]:=by
 unfold zipD at h
 rw [Px] at h
 simp only [QE] at h
 rcases Nat.lt_or_ge i xs.length with h1 | h1
 ·rcases Nat.lt_or_ge i ys.length with h2 | h2
  ·rw [Qz h1,Qz h2] at h
   refine ⟨h1,h2,?_⟩
   simp [List.getD,h1,h2] at h ⊢
   exact h.symm
  ·rw [Pz h2] at h;simp at h
 ·rw [Pz h1] at h;simp at h
section
variable {ρ:Ev} {fl ga gb:Ev->Option (List D)} {f f1 f2 f3 f4:Ev->Option D} {ds xs ys:List D} {d1 d2 d3 d4:D} {c1 c2:Ev->Option Bool}
end
theorem rng1v {f:Ev->Option D} {ρ:Ev} {n:Nat} (h:f ρ=some (.int (n:Nat))) (hn:n<=1000):jQ f ρ=some (yR 0 n):=by
 refine Wo.eq ?_
 rw [wo_rng1,h,zV,asI_,zV]
 exact ⟨⟨by omega,by omega⟩,by rw [Q9]⟩
theorem asg_ {ρ ρ':Ev} {T:Out->Prop} {f:Ev->Option D} {u:D->Ev->Option Ev} {d:D} (e:f ρ=some d) (eu:u d ρ=some ρ') (k:T (.nx ρ')):Wo (mAsg u f ρ) T:=by rw [mAsg_,e,oB,eu];exact ⟨_,rfl,k⟩
theorem sum_big {m:Nat} {vs:List Int} (h:∀ x∈vs,x.natAbs<2 ^ m) (hl:vs.length<=7):(vs.sum).natAbs<2 ^ (m+3):=by
 have key:∀ vs:List Int,(∀ x∈vs,x.natAbs<2 ^ m)->(vs.sum).natAbs<=vs.length*2 ^ m:=by
  intro vs
  induction vs with
  | nil=>intro _;simp
  | cons a r ih =>
   intro h
   rw [List.sum_cons,Qg,Nat.succ_mul]
   have h1:=Int.natAbs_add_le a r.sum
   have h2:=h a Qt
   have h3:=ih fun x hx=>h x (Qe _ hx)
   omega
 refine Q7 (key vs h) ?_
 have h1:=Nat.mul_le_mul_right (2 ^ m) hl
 have h2:2 ^ (m+3)=8*2 ^ m:=by rw [Nat.pow_add];omega
 have h3:0<2 ^ m:=Nat.pow_pos (by decide)
 omega
end EV
namespace M
open PySem PySem.Spec L2
open PySem.W (Frag)
section
variable {K:KC} {P6 H:Hp} {P7:Kc->Prop} {os os2:List Nat} {σ:St} {ρ:Ev} {i:Nat} {a:Kc}
end
section
variable {X:Cx} {fr:Bool} {os os2 ol:List Nat} {pos p:KB} {tg:Kv} {m:Ev->Option Out}
end
end M
namespace L2
open PySem PySem.Spec PyProof.Rows
section
variable {X:Cx} {a:Kv} {ta:TE} {p p2 pos pos2:KB}
end
end L2
namespace M
open PySem PySem.Spec L2
open PySem.W (Frag)
section
variable {X:Cx} {os:List Nat} {a:Kv} {ta:TE} {ca:Ev->Option (List D)} {p p2 pos pos2:KB} {k:Nat}
end
end M
namespace L2
open PySem PySem.Spec PyProof.Rows
section
variable {κ:Type} [DecidableEq κ]
def ja (KO:List (κ×V)) (k:κ):Option V:=(KO.find? fun kv=>decide (kv.1=k)).map (·.2)
def jc (KO:List (κ×V)) (k:κ) (v:V):List (κ×V) :=
 if (KO.any fun kv=>decide (kv.1=k))=true then KO.map (fun kv=>if kv.1=k then (kv.1,v) else kv) else KO++[(k,v)]
def dropK (KO:List (κ×V)) (k:κ):List (κ×V):=KO.filter fun kv=>decide (kv.1≠k)
theorem JH {p:κ×V} {r:List (κ×V)} {k:κ} (e:p.1=k):ja (p::r) k=some p.2:=by simp [ja,Pu,e]
theorem JI {p:κ×V} {r:List (κ×V)} {k:κ} (e:¬ p.1=k):ja (p::r) k=ja r k:=by simp [ja,Pu,e]
theorem valV_any (k:κ):∀ KO:List (κ×V),(KO.any fun kv=>decide (kv.1=k))=(ja KO k).isSome
 | []=>rfl
 | p::r=>by
  rw [Pm]
  by_cases e:p.1=k
  ·simp only [JH e,KS e,Bool.true_or,Option.isSome_some]
  ·rw [JI e,KU e,Bool.false_or];exact valV_any k r
theorem jK (KO:List (κ×V)) (k:κ) (v:V):(jc KO k v).length<=KO.length+1:=by
 unfold jc
 split
 ·rw [Ql];omega
 ·rw [Qd,Qg,Qy];omega
theorem jn.isSome_eq {o:Option V} {u:Option Ka} (r:jn o u):o.isSome=u.isSome:=by
 cases o with
 | none=>cases u with
  | none=>rfl
  | some _=>exact (show False from r).elim
 | some _=>cases u with
  | none=>exact (show False from r).elim
  | some _=>rfl
theorem jn.getD {o:Option V} {u:Option Ka} {d:V} {d':Ka} (r:jn o u) (rd:Zu d d'):Zu (o.getD d) (u.getD d'):=by
 cases o with
 | none=>cases u with
  | none=>exact rd
  | some _=>exact (show False from r).elim
 | some _=>cases u with
  | none=>exact (show False from r).elim
  | some _=>exact r
theorem KV.val {KO:List (κ×V)} {vs:List (κ×Ka)} (r:KV KO vs) (k:κ):jn (ja KO k) (valueAt vs k):=by
 unfold KV at r
 induction r with
 | nil=>exact True.intro
 | @cons p q ps qs h t ih =>
  obtain ⟨h1,h2⟩:=h
  by_cases e:p.1=k
  ·have e':q.1=k:=h1.symm.trans e
   have b:valueAt (q::qs) k=some q.2:=by simp [valueAt,Pu,e']
   rw [JH e,b];exact h2
  ·have e':¬ q.1=k:=fun z=>e (h1.trans z)
   have b:valueAt (q::qs) k=valueAt qs k:=by simp [valueAt,Pu,e']
   rw [JI e,b];exact ih
theorem KV.any {KO:List (κ×V)} {vs:List (κ×Ka)} (r:KV KO vs) (k:κ):(KO.any fun kv=>decide (kv.1=k))=vs.any fun kv=>decide (kv.1=k):=by
 unfold KV at r
 induction r with
 | nil=>rfl
 | cons h t ih=>rw [Pm,Pm,ih,h.1]
theorem KV.repl {KO:List (κ×V)} {vs:List (κ×Ka)} (r:KV KO vs) (k:κ) {y:V} {u:Ka} (ry:Zu y u) :
  KV (KO.map fun kv=>if kv.1=k then (kv.1,y) else kv) (vs.map fun kv=>if kv.1=k then (kv.1,u) else kv):=by
 unfold KV at r ⊢
 induction r with
 | nil=>exact .nil
 | @cons p q ps qs h t ih =>
  rw [Qq,Qq]
  refine .cons ?_ ih
  obtain ⟨h1,h2⟩:=h
  by_cases e:p.1=k
  ·rw [KQ e,KQ (h1.symm.trans e)];exact ⟨h1,ry⟩
  ·rw [KR e,KR (fun z=>e (h1.trans z))];exact ⟨h1,h2⟩
theorem KV.put {KO:List (κ×V)} {vs:List (κ×Ka)} (r:KV KO vs) (k:κ) {y:V} {u:Ka} (ry:Zu y u):KV (jc KO k y) (stored vs k u):=by
 unfold jc stored
 rw [r.any k]
 by_cases e:(vs.any fun kv=>decide (kv.1=k))=true
 ·rw [KQ e,KQ e];exact r.repl k ry
 ·rw [KR e,KR e];exact Paired.snoc r ⟨rfl,ry⟩
theorem KV.drop {KO:List (κ×V)} {vs:List (κ×Ka)} (r:KV KO vs) (k:κ):KV (dropK KO k) (without vs k):=by
 unfold KV at r ⊢
 unfold dropK without
 induction r with
 | nil=>exact .nil
 | @cons p q ps qs h t ih =>
  obtain ⟨h1,h2⟩:=h
  rw [List.filter_cons,List.filter_cons]
  by_cases e:p.1=k
  ·have a:¬ decide (p.1≠k)=true:=by simp [e]
   have b:¬ decide (q.1≠k)=true:=by simp [h1.symm.trans e]
   rw [KR a,KR b];exact ih
  ·have e':¬ q.1=k:=fun z=>e (h1.trans z)
   have a:decide (p.1≠k)=true:=by simp [e]
   have b:decide (q.1≠k)=true:=by simp [e']
   rw [KQ a,KQ b];exact .cons ⟨h1,h2⟩ ih
theorem KV.length {KO:List (κ×V)} {vs:List (κ×Ka)} (r:KV KO vs):KO.length=vs.length:=Paired.length r
end
theorem kV_is {P:Ki} {w:Kk} {k:Key} {u:Ka} (r:Zu (kV k) u):(yl P w).is k u=true:=by
 cases k with
 | inl i=>obtain ⟨t,e⟩:=(show ∃ t,u=Value.int i t from r);subst e;exact mixKind_int P w i t
 | inr x=>obtain ⟨t,e⟩:=(show ∃ t,u=Value.str x t from r);subst e;exact mixKind_str P w x t
theorem items_are {P:Ki} {w:Kk}:∀ {ks:List Key} {us:List Ka},zY (ks.map kV) us->ItemsAre (yl P w) ks us
 | [],_,r=>by rw [Po] at r;cases r;exact .nil
 | k::ks,_,r=>by
  rw [Qq] at r
  cases r with
  | cons h t=>exact .cons (kV_is h) (items_are t)
abbrev KT (H:Hp):List (List Key×V)->List (List Key×Kc×Ka)->Prop:=Paired fun p q=>p.1=q.1/\H q.2.1=some (.tup (p.1.map kV))/\Zu p.2 q.2.2
theorem KT.val {H:Hp} {KO:List (List Key×V)} {xs:List (List Key×Kc×Ka)} (r:KT H KO xs) (k:List Key):jn (ja KO k) ((atKey xs k).map (·.2)):=by
 induction r with
 | nil=>exact True.intro
 | @cons p q ps qs h t ih =>
  obtain ⟨h1,_,h2⟩:=h
  by_cases e:p.1=k
  ·have e':q.1=k:=h1.symm.trans e
   have b:atKey (q::qs) k=some q.2:=by simp [atKey,Pu,e']
   rw [JH e,b];exact h2
  ·have e':¬ q.1=k:=fun z=>e (h1.trans z)
   have b:atKey (q::qs) k=atKey qs k:=by simp [atKey,Pu,e']
   rw [JI e,b];exact ih
theorem KT.repl {H:Hp} {KO:List (List Key×V)} {xs:List (List Key×Kc×Ka)} (r:KT H KO xs) (k:List Key) {y:V} {u:Ka} (ry:Zu y u) :
  KT H (KO.map fun kv=>if kv.1=k then (kv.1,y) else kv) (xs.map (putAt k u)):=by
 induction r with
 | nil=>exact .nil
 | @cons p q ps qs h t ih =>
  rw [Qq,Qq]
  refine .cons ?_ ih
  obtain ⟨h1,h2,h3⟩:=h
  unfold putAt
  by_cases e:p.1=k
  ·rw [KQ e,KQ (h1.symm.trans e)];exact ⟨h1,h2,ry⟩
  ·rw [KR e,KR (fun z=>e (h1.trans z))];exact ⟨h1,h2,h3⟩
theorem KT.put {H:Hp} {KO:List (List Key×V)} {xs:List (List Key×Kc×Ka)} (r:KT H KO xs) (k:List Key) {b:Kc} {y:V} {u:Ka} (hb:H b=some (.tup (k.map kV))) (ry:Zu y u) :
  KT H (jc KO k y) (storedH xs k b u):=by
 have e:(KO.any fun kv=>decide (kv.1=k))=(atKey xs k).isSome:=by
  rw [valV_any,(r.val k).isSome_eq,Option.isSome_map]
 unfold jc storedH
 rw [e]
 by_cases q:(atKey xs k).isSome=true
 ·rw [KQ q,KQ q];exact r.repl k ry
 ·rw [KR q,KR q];exact Paired.snoc r ⟨rfl,hb,ry⟩
theorem KT.keeps {H H':Hp} {KO:List (List Key×V)} {xs:List (List Key×Kc×Ka)} (r:KT H KO xs) (ht:∀ b ys,H b=some (.tup ys)->H' b=some (.tup ys)):KT H' KO xs :=
 Paired.mapP r fun _ _ z=>⟨z.1,ht _ _ z.2.1,z.2.2⟩
section
variable {P:Ki} {w:Kk} {H:Hp} {h:Kl} {a:Kc}
theorem rd_of {u:HO} (ok:HOk P w H h) (e:Rd H a u):yH P w H h a u:=e.ok ok
theorem dk_rd {KO:List (Key×V)} (ok:HOk P w H h) (e:Rd H a (.dK KO)):KO.length<=Kg/\(a == sysModules)=false/\∃ vs,KV KO vs/\h.DictOf (yl P w) a vs :=
 show yH P w H h a (.dK KO) from rd_of ok e
theorem dk_of {KO:List (Key×V)} (ok:HOk P w H h) (e:H a=some (.dK KO)):KO.length<=Kg/\(a == sysModules)=false/\∃ vs,KV KO vs/\h.DictOf (yl P w) a vs:=dk_rd ok (.inl e)
theorem key_of {ks:List Key} (ok:HOk P w H h) (e:H a=some (.tup (ks.map kV))):(tupleKind (yl P w)).is h ks a:=by
 obtain ⟨_,KP,r,o,h1,h2,n,h3⟩:=(show yH P w H h a (.tup (ks.map kV)) from ok a _ e)
 exact ⟨o,KP.toArray,n,h1,h2,h3,by simpa using items_are r⟩
theorem dt_rd {KO:List (List Key×V)} (ok:HOk P w H h) (e:Rd H a (.dT KO)):KO.length<=Kg/\(a == sysModules)=false /\
  ∃ xs,KT H KO xs/\h.DictOfH (tupleKind (yl P w)) a xs:=by
 obtain ⟨z,y,xs,r,o,es,ep,h1,h2,h3,h4,h5⟩:=(show yH P w H h a (.dT KO) from rd_of ok e)
 refine ⟨z,y,xs,r,o,es,ep,h1,h2,h3,h4,fun x hx=>?_,h5⟩
 have all:∀ {l:List (List Key×V)} {m:List (List Key×Kc×Ka)},KT H l m->∀ x∈m,(tupleKind (yl P w)).is h x.1 x.2.1:=by
  intro l m q
  induction q with
  | nil=>intro x hx;exact nomatch hx
  | @cons p q ps qs hq t ih =>
   intro x hx
   rcases Qc.mp hx with e | hx
   ·subst e
    exact key_of ok (by rw [<- hq.1];exact hq.2.1)
   ·exact ih x hx
 exact all r x hx
theorem dt_of {KO:List (List Key×V)} (ok:HOk P w H h) (e:H a=some (.dT KO)):KO.length<=Kg/\(a == sysModules)=false /\
  ∃ xs,KT H KO xs/\h.DictOfH (tupleKind (yl P w)) a xs:=dt_rd ok (.inl e)
end
def J8 (H:Hp) (a:Kc) (y:V) (r:Option V):Prop :=
 (∃ KO k,Rd H a (.dK KO)/\y=kV k/\r=ja KO k)\/∃ KO k b,Rd H a (.dT KO)/\y=.ref b/\H b=some (.tup (k.map kV))/\r=ja KO k
def DPut (H:Hp) (a:Kc) (y v:V) (H':Hp):Prop :=
 (∃ KO k,H a=some (.dK KO)/\y=kV k/\KO.length<Kg/\H'=upd H a (.dK (jc KO k v))) \/
 ∃ KO k b,H a=some (.dT KO)/\y=.ref b/\H b=some (.tup (k.map kV))/\KO.length<Kg/\H'=upd H a (.dT (jc KO k v))
theorem J8.k {H:Hp} {a:Kc} {KO:List (Key×V)} {k:Key} (e:H a=some (.dK KO)):J8 H a (kV k) (ja KO k):=.inl ⟨KO,k,.inl e,rfl,rfl⟩
theorem J8.t {H:Hp} {a b:Kc} {KO:List (List Key×V)} {k:List Key} (e:H a=some (.dT KO)) (eb:H b=some (.tup (k.map kV))):J8 H a (.ref b) (ja KO k):=.inr ⟨KO,k,b,.inl e,rfl,eb,rfl⟩
theorem DPut.k {H:Hp} {a:Kc} {KO:List (Key×V)} {k:Key} {v:V} (e:H a=some (.dK KO)) (hl:KO.length<Kg):DPut H a (kV k) v (upd H a (.dK (jc KO k v))):=.inl ⟨KO,k,e,rfl,hl,rfl⟩
theorem DPut.t {H:Hp} {a b:Kc} {KO:List (List Key×V)} {k:List Key} {v:V} (e:H a=some (.dT KO)) (eb:H b=some (.tup (k.map kV))) (hl:KO.length<Kg) :
  DPut H a (.ref b) v (upd H a (.dT (jc KO k v))):=.inr ⟨KO,k,b,e,rfl,eb,hl,rfl⟩
section
variable {X:Cx} {KJ:List (Kc×KA)} {σ:St} {H:Hp} {s:Kb} {a:Kc} {y v:V} {u r:Ka} {o:Option V} {A:Kj} {E:Ka->Kb->Prop}
theorem Inv.big (I:Inv X KJ σ H s):sysModules<s.heap.objs.size:=by
 have h:Kf<s.heap.objs.size:=(I.mod.glob.keeps I.bk).lt
 exact QG (by decide) h
theorem d_getItem {Q:Ka->Kb->Prop} (hu:A.units+1<cLine) (I:Inv X KJ σ H s) (g:J8 H a y (some v)) (ry:Zu y u) (h:∀ w' s',Inv X KJ σ H s'->Zu v w'->Q w' s') :
  Ko (Ky X.prog X.w) A (getItem (.ref a) u) Q E s:=by
 rcases g with ⟨KO,k,e,ey,l⟩ | ⟨KO,k,b,e,ey,eb,l⟩
 ·subst ey
  obtain ⟨z,hd,vs,rel,dd⟩:=dk_rd I.hok e
  obtain ⟨w',hw,rw'⟩:=jn.some_of (v:=v) (o:=valueAt vs k) (by rw [l];exact rel.val k)
  exact wpAny_getItem_of (kV_is ry) dd.mapOf hw (h w' _ (I.tok _) rw')
 ·subst ey
  cases (show u=Value.ref b from ry)
  obtain ⟨z,hd,xs,rel,dd⟩:=dt_rd I.hok e
  obtain ⟨w',hw,rw'⟩:=jn.some_of (v:=v) (o:=(atKey xs k).map (·.2)) (by rw [l];exact rel.val k)
  obtain ⟨p,hp,hp2⟩:=Ph.mp hw
  refine wpAny_getItem_heap (tupleKind_room_in1 hu) (key_of I.hok eb) dd hp ?_
  rw [hp2]
  exact h w' _ (I.tok _) rw'
theorem d_write {h':Kl} {t':Nat} {ob:HO} (I:Inv X KJ σ H s) (mu:Mut (H a)) (hs:Heap.SameBut a s.heap h') (he:∃ q,h'.get? a=some q) (new:yH X.prog X.w (upd H a ob) h' a ob) :
  Inv X KJ σ (upd H a ob) { s with heap:=h',toks:=t' } :=
 I.write (x:=a) (e:=a) mu (.inl rfl) (fun b q hb z=>(hs.2 b hb).trans z) he new
theorem dk_new {P:Ki} {w:Kk} {H':Hp} {h':Kl} {KO:List (Key×V)} {vs:List (Key×Ka)} (z:KO.length<=Kg) (hd:(a == sysModules)=false) (rel:KV KO vs) (dd:h'.DictOf (yl P w) a vs) :
  yH P w H' h' a (.dK KO):=⟨z,hd,vs,rel,dd⟩
theorem d_setItem {H':Hp} {Q:Unit->Kb->Prop} (hu:A.units+1<cLine) (I:Inv X KJ σ H s) (g:DPut H a y v H') (ry:Zu y u) (rv:Zu v r) (h:∀ s',Inv X KJ σ H' s'->Q () s') :
  Ko (Ky X.prog X.w) A (setItem (.ref a) u r) Q E s:=by
 rcases g with ⟨KO,k,e,ey,l,eH⟩ | ⟨KO,k,b,e,ey,eb,l,eH⟩
 ·subst ey eH
  obtain ⟨z,hd,vs,rel,dd⟩:=dk_of I.hok e
  have hz:vs.length<=Kg:=by rw [<- rel.length];exact z
  have hl:(jc KO k v).length<=Kg:=by have:=jK KO k v;omega
  refine wpAny_setItem_pairs (hsz:=hz) (kV_is ry) dd fun h' dd' hs=>h _ ?_
  have he:∃ q,h'.get? a=some q:=let ⟨q,_,_,hq,_⟩:=dd';⟨q,hq⟩
  exact d_write I (by rw [e];exact True.intro) hs he (dk_new hl hd (rel.put k rv) dd')
 ·subst ey eH
  cases (show u=Value.ref b from ry)
  obtain ⟨z,hd,xs,rel,dd⟩:=dt_of I.hok e
  have hz:xs.length<=Kg:=by rw [<- Paired.length rel];exact z
  have hl:(jc KO k v).length<=Kg:=by have:=jK KO k v;omega
  refine wpAny_setItem_heap (hsz:=hz) (tupleKind_room_in1 hu) (key_of I.hok eb) dd fun h' dd' hs=>h _ ?_
  obtain ⟨q,es,ep,hq,h2,h3,h4,_,h5⟩:=dd'
  refine d_write I (by rw [e];exact True.intro) hs ⟨q,hq⟩ ⟨hl,hd,_,(rel.put k eb rv).keeps fun c ys ec=>?_,q,es,ep,hq,h2,h3,h4,h5⟩
  rw [zv (ne_of ec e (fun z=>nomatch z))]
  exact ec
end
section
variable {X:Cx} {KJ:List (Kc×KA)} {σ:St} {H:Hp} {s:Kb} {a:Kc} {KO:List (Key×V)} {k:Key} {u:Ka} {A:Kj} {E:Ka->Kb->Prop}
end
def NoSl (i:Kv):Prop:=∀ ov iv,subscripted i false ov iv=operate [ov,iv] (getItem ov iv)
theorem subD_of {prog:Ki} {w:Kk} {A:Kj} {E:Ka->Kb->Prop} {s:Kb} {env:Env} {value slice:Kv} {pos:KB} {T id:String} {Q:Ka->Kb->Prop}
  (hl:typeLookup (.type T) "__getitem__"=pure (some (.builtin id))) (hs:NoSl slice)
  (h:Ko (Ky prog w) A (Kz value env) (fun o s₁=>Ko (Ky prog w) A (Kz slice env) (fun i s₂=>s₂.TypeIs o T/\Ko (Ky prog w) A (getItem o i) Q E s₂) E s₁) E s) :
  Ko (Ky prog w) A (Kz (.Subscript value slice pos) env) Q E s:=by
 refine Subscript_ (Pa h (fun o s₁ h₁=>Pa h₁ (fun i s₂ h₂=>?_) fun _ _ x=>x) fun _ _ x=>x)
 obtain ⟨hT,h₂⟩:=h₂
 unfold subscriptTail
 refine Qa ?_
 rw [getitemInPython_of_ne hT.not_modules]
 refine Qa (wpAny_specialOf hT hl ?_)
 have fin:Ko (Ky prog w) A (subscripted slice false o i) (fun r s₃=>Ko (Ky prog w) A (letTemporaryGo value o r >>= fun _=>pure r) Q E s₃) E s₂:=by
  rw [hs o i]
  exact wpAny_operating (Pa h₂ (fun r s₃ h₃=>Qa (wpAny_letTemporaryGo (Qf h₃))) fun _ _ x=>x)
 first
  | exact Qf (Qa fin)
  | exact Qa (Qf (Qa fin))
  | exact Qa fin
theorem w9 {X:Cx} {KJ:List (Kc×KA)} {σ:St} {H:Hp} {s:Kb} {a:Kc} {y:V} {o:Option V} (I:Inv X KJ σ H s) (g:J8 H a y o):s.TypeIs (.ref a) "dict":=by
 rcases g with ⟨KO,k,e,_,_⟩ | ⟨KO,k,b,e,_,_,_⟩
 ·obtain ⟨_,_,vs,_,dd⟩:=dk_rd I.hok e
  exact dd.typeIs
 ·obtain ⟨_,_,xs,_,dd⟩:=dt_rd I.hok e
  exact dd.typeIs
def tDGet (td ty:TE):TE:=fun σ H Q=>td σ H fun x H1=>ty σ H1 fun y H2=>∃ a v,x=.ref a/\J8 H2 a y (some v)/\Q v H2
def sDPut (td ty tv:TE):TS:=fun D σ H=>tv σ H fun v H1=>td σ H1 fun x H2=>ty σ H2 fun y H3=>∃ a H4,x=.ref a/\DPut H3 a y v H4/\D.nx σ H4
section
variable {X:Cx} {o i e value:Kv} {pos pos' tpos:KB} {td ty tv:TE}
theorem JV (hu:X.A.units+1<cLine) (ho:PE X o td) (hi:PE X i ty) (hs:NoSl i):PE X (.Subscript o i pos) (tDGet td ty):=by
 intro KJ s σ H Q I h
 refine subD_of PySem.F.slot_dict_getitem.lookup hs (thn (ho KJ s σ H _ I h) fun u s1 ⟨x,H1,I1,rx,q1⟩=>thn (hi KJ s1 σ H1 _ I1 q1) fun iv s2 ⟨y,H2,I2,ry,a,v,ex,g,q2⟩=>?_)
 subst ex
 obtain rfl:u=Value.ref a:=rx
 exact ⟨w9 I2 g,d_getItem hu I2 g ry fun w' s3 I3 rw'=>⟨v,H2,I3,rw',q2⟩⟩
theorem ps_dput (hu:X.A.units+1<cLine) (ho:PE X o td) (hi:PE X i ty) (hv:PE X value tv) (hs:Kt value (some (.Subscript o i pos')) pos.line X.env=pure false) :
  PS X (.Assign [.Subscript o i pos'] value pos) (sDPut td ty tv):=by
 intro KJ s σ H D I h
 refine wpAny_Assign_Subscript (thn (hv KJ s σ H _ I h) fun r s1 ⟨v,H1,I1,rv,q1⟩=>thn (ho KJ s1 σ H1 _ I1 q1) fun u s2 ⟨x,H2,I2,rx,q2⟩=>thn (hi KJ s2 σ H2 _ I2 q2) fun iv s3 ⟨y,H3,I3,ry,a,H4,ex,g,q3⟩=>?_) hs
 subst ex
 obtain rfl:u=Value.ref a:=rx
 exact d_setItem hu I3 g ry rv fun s4 I4=>⟨σ,H4,I4,q3⟩
end
theorem dk_empty {P:Ki} {w:Kk} {H:Hp} (h:Kl) (hb:sysModules<h.objs.size):yH P w H (h.push { cls:=.type "dict",data:=.dict #[] }) h.objs.size (.dK []) :=
 ⟨Q4 _,beq_eq_false_iff_ne.mpr (Ne.symm (Qu hb)),[],.nil,Heap.DictOf.new h⟩
def tDNewK:TE:=fun _ H Q=>∀ p,H p=none->Q (.ref p) (upd H p (.dK []))
section
variable {X:Cx} {pos:KB}
theorem pe_dnewK:PE X (.Dict [] [] pos) tDNewK:=fun KJ s σ H Q I h =>
 wpAny_Dict_empty ⟨.ref s.heap.objs.size,_,I.laid (a:=s.heap.objs.size) (o:=.dK []) (t':=s.toks) (fun _ _ q=>Qb _ q) (Qh _) (dk_empty s.heap I.big),rfl,h _ (I.hok.fresh (Qh _))⟩
end
def WI:List (TE×TE)->St->Hp->(List (V×V)->Hp->Prop)->Prop
 | [],_,H,Q=>Q [] H
 | (tk,tv)::r,σ,H,Q=>tk σ H fun x H1=>tv σ H1 fun y H2=>WI r σ H2 fun ps H3=>Q ((x,y)::ps) H3
abbrev VV:List (V×V)->List (Ka×Ka)->Prop:=Paired fun p q=>Zu p.1 q.1/\Zu p.2 q.2
def PPs (X:Cx) (pos:KB) (keys:List (Option Kv)) (values:List Kv) (trs:List (TE×TE)):Prop :=
 ∀ (KJ:List (Kc×KA)) (s:Kb) (σ:St) (H:Hp) (Q:List (V×V)->Hp->Prop),Inv X KJ σ H s->WI trs σ H Q ->
  Ko (Ky X.prog X.w) X.A (evalPairs (pairTrees keys values X.env pos)) (fun vs s'=>∃ ps H',Inv X KJ σ H' s'/\VV ps vs/\Q ps H') X.xe s
theorem pps_nil {X:Cx} {pos:KB}:PPs X pos [] [] []:=fun KJ s σ H Q I h=>pairTrees_nil_walk ⟨[],H,I,.nil,h⟩
theorem Yc {X:Cx} {pos:KB} {k v:Kv} {ks:List (Option Kv)} {vs:List Kv} {tk tv:TE} {trs:List (TE×TE)} (hk:PE X k tk) (hv:PE X v tv) (hr:PPs X pos ks vs trs) :
  PPs X pos (some k::ks) (v::vs) ((tk,tv)::trs):=fun KJ s σ H Q I h =>
 pairTrees_cons_walk (thn (hk KJ s σ H _ I h) fun u s1 ⟨x,H1,I1,rx,q1⟩=>thn (hv KJ s1 σ H1 _ I1 q1) fun w2 s2 ⟨y,H2,I2,ry,q2⟩ =>
  thn (hr KJ s2 σ H2 _ I2 q2) fun ws s3 ⟨ps,H3,I3,rel,q3⟩=>⟨(x,y)::ps,H3,I3,.cons ⟨rx,ry⟩ rel,q3⟩)
def wz (KO more:List (Key×V)):List (Key×V):=more.foldl (fun acc kv=>jc acc kv.1 kv.2) KO
theorem KV.merge:∀ {more:List (Key×V)} {rs:List (Key×Ka)} {KO:List (Key×V)} {vs:List (Key×Ka)},KV more rs->KV KO vs->KV (wz KO more) (merged vs rs):=by
 intro more rs KO vs r
 unfold KV at r
 induction r generalizing KO vs with
 | nil=>intro q;exact q
 | @cons p q ps qs h t ih =>
  intro r0
  have e:KV (jc KO p.1 p.2) (stored vs q.1 q.2):=by
   have:=r0.put p.1 h.2
   rw [<- h.1];exact this
  exact ih e
theorem Je:∀ (more KO:List (Key×V)),(wz KO more).length<=KO.length+more.length
 | [],KO=>by show KO.length<=KO.length+0;omega
 | p::r,KO=>by
  have h1:=Je r (jc KO p.1 p.2)
  have h2:=jK KO p.1 p.2
  show (wz (jc KO p.1 p.2) r).length<=_
  rw [Qg];omega
theorem gA {P:Ki} {w:Kk}:∀ {KO:List (Key×V)} {ws:List (Ka×Ka)},VV (KO.map fun kv=>(kV kv.1,kv.2)) ws->∃ rs,Carries (yl P w) ws rs/\KV KO rs
 | [],_,r=>by rw [Po] at r;cases r;exact ⟨[],True.intro,.nil⟩
 | p::KO,_,r=>by
  rw [Qq] at r
  cases r with
  | @cons a b as bs h t =>
   obtain ⟨rs,c,q⟩:=gA (P:=P) (w:=w) t
   obtain ⟨b1,b2⟩:=b
   exact ⟨(p.1,b2)::rs,⟨kV_is h.1,rfl,c⟩,.cons ⟨rfl,h.2⟩ q⟩
def tDisp (trs:List (TE×TE)):TE:=fun σ H Q=>∀ p,H p=none->WI trs σ (upd H p (.dK [])) fun ps H2=>H2 p=some (.dK [])/\∃ KO:List (Key×V),ps=KO.map (fun kv=>(kV kv.1,kv.2))/\KO.length<=15/\Q (.ref p) (upd H2 p (.dK (wz [] KO)))
theorem pe_disp {X:Cx} {pos:KB} {keys:List (Option Kv)} {values:List Kv} {trs:List (TE×TE)} (h:PPs X pos keys values trs) (hall:keys.all (·.isSome)=true) (hl:keys.length=values.length) (h0:keys≠[])
  (h15:keys.length<=15):PE X (.Dict keys values pos) (tDisp trs):=by
 intro KJ s σ H Q I q
 have hn:=I.hok.fresh (Qh s.heap.objs.size)
 have I1:=I.laid (a:=s.heap.objs.size) (o:=.dK []) (h':=s.heap.push { cls:=.type "dict",data:=.dict #[] }) (t':=s.toks) (fun _ _ q=>Qb _ q) (Qh _) (dk_empty s.heap I.big)
 refine wpAny_Dict_walk (knd:=yl X.prog X.w) hall hl h0 h15 (thn (h KJ _ σ _ _ I1 (q _ hn)) fun ws s2 ⟨ps,H2,I2,rel,e,KO,ep,lk,q2⟩=>?_)
 subst ep
 obtain ⟨rs,c,rk⟩:=gA (P:=X.prog) (w:=X.w) rel
 obtain ⟨z,hd,vs0,r0,dd⟩:=dk_of I2.hok e
 cases r0
 refine ⟨rs,c,dd,fun h' dd' hs=>⟨.ref s.heap.objs.size,_,?_,rfl,q2⟩⟩
 have hz:(wz [] KO).length<=Kg:=by
  have h1:=Je KO []
  rw [Qy] at h1
  rw [sizeLine_eq];omega
 have he:∃ q,h'.get? s.heap.objs.size=some q:=let ⟨q,_,_,hq,_⟩:=dd';⟨q,hq⟩
 exact d_write I2 (by rw [e];exact True.intro) hs he (dk_new hz hd (rk.merge .nil) dd')
end L2
namespace L2
open PySem PySem.Spec PyProof.Rows
section
variable {X:Cx}
end
end L2
namespace M
open PySem PySem.Spec L2
open PySem.W (Frag)
section
variable {X:Cx} {fr st:Bool} {os os' ol:List Nat} {a:Kv} {ta:TE} {ca:Ev->Option (List D)} {p p' pos pos':KB} {k:Nat}
end
end M
namespace L2
open PySem PySem.Spec PyProof.Rows
section
variable {X:Cx} {KJ:List (Kc×KA)} {σ:St} {H:Hp} {s:Kb} {a:Kc}
end
end L2
namespace M
open PySem PySem.Spec L2
open PySem.W (Frag)
theorem Md.forget {K:KC} {P6 H:Hp} {P7:Kc->Prop} {os:List Nat} {σ:St} {ρ:Ev} (m:Md K P6 P7 os σ H ρ) {i:Nat} {v:Option V} (hi:i∉os):Md K P6 P7 os (σ.set i v) H (ρ.set i none):=by
 have hb:Bl P7 os (σ.set i v)=Bl P7 os σ:=bl_eq fun j hj=>zd fun z=>hi (z▸hj)
 refine ⟨m.grow,m.blk,by rw [Qo,Qo];exact m.len,fun j d q n=>?_,fun j hj=>?_,fun j k a h1 h2=>?_⟩
 ·have hj:j≠i:=fun z=>by
   subst z
   have:=yS q
   cases this
  rw [zd hj] at q
  obtain ⟨w',q1,q2⟩:=m.sh j d q n
  exact ⟨w',by rw [zd hj];exact q1,by rw [hb];exact q2⟩
 ·have hne:j≠i:=fun z=>hi (z▸hj)
  obtain ⟨a,o,d,q1,q2,q3,q4,q5⟩:=m.own j hj
  exact ⟨a,o,d,by rw [zd hne];exact q1,by rw [zd hne];exact q2,q3,q4,by rw [hb];exact q5⟩
 ·rw [zd (show j≠i from fun z=>hi (z▸h1)),zd (show k≠i from fun z=>hi (z▸h2))]
  exact m.sep j k a h1 h2
section
variable {X:Cx} {fr:Bool} {i:Nat} {os' ol:List Nat} {Zc:List Kx} {t:TS} {m:Ev->Option Out} {pos:KB}
end
end M
namespace L2
open PySem PySem.Spec PyProof.Rows
section
variable {prog:Ki} {w:Kk} {A:Kj} {R:Result->Kb->Prop} {I:Kc} {fp wr:List Kc} {n:Nat} {P:Nat->Ka->Prop} {St:Nat->Kl->Prop}
end
section
variable {X:Cx} {tg:Kv}
end
end L2
namespace M
open PySem PySem.Spec L2
open PySem.W (Frag)
def yd:List Key->List D->Key->Option D
 | k'::ks,d::ds,k=>if k'=k then some d else yd ks ds k
 | _,_,_=>none
def wu (k:Key) (d:D):List Key->List D->List D
 | k'::ks,x::ds=>(if k'=k then d else x)::wu k d ks ds
 | _,ds=>ds
def wE (ks:List Key) (k:Key):Bool:=ks.any fun k'=>decide (k'=k)
def putKs (ks:List Key) (k:Key):List Key:=if wE ks k=true then ks else ks++[k]
def putDs (ks:List Key) (ds:List D) (k:Key) (d:D):List D:=if wE ks k=true then wu k d ks ds else ds++[d]
def gv:D->D->Option D
 | .dict ks ds,.int i=>yd ks ds (.inl i)
 | _,_=>none
def asDc:D->Option (List Key×List D)
 | .dict ks ds=>some (ks,ds)
 | _=>none
def mDPut (im:Nat) (fk fv:Ev->Option D):Ev->Option Out:=fun ρ=>(fv ρ).bind fun d=>(ρ[im]?.join).bind fun x=>(asDc x).bind fun kd=>(fk ρ).bind fun y=>(asI y).bind fun i =>
 if kd.1.length<Kg then some (.nx (ρ.set im (some (.dict (putKs kd.1 (.inl i)) (putDs kd.1 kd.2 (.inl i) d))))) else none
section
variable {K:KC} {H:Hp} {B:Kc->Prop}
theorem look_v:∀ {KO:List (Key×V)} {ds:List D} {k:Key} {d:D},zr K H B ds (KO.map (·.2))->yd (KO.map (·.1)) ds k=some d->∃ v,ja KO k=some v/\Rep K H B d v
 | [],ds,k,d,h,e=>by cases ds <;> simp [yd] at e
 | kv::KO,[],k,d,h,e=>by simp [yd] at e
 | kv::KO,x::ds,k,d,h,e=>by
  simp only [Qq,zr] at h
  obtain ⟨v,r,e1,h1,h2⟩:=h
  cases e1
  simp only [Qq,yd] at e
  by_cases hk:kv.1=k
  ·rw [KQ hk] at e
   cases e
   exact ⟨kv.2,by simp [ja,hk],h1⟩
  ·rw [KR hk] at e
   obtain ⟨v,q1,q2⟩:=look_v h2 e
   exact ⟨v,by simpa [ja,hk] using q1,q2⟩
theorem rep_map (k:Key) (v:V):∀ KO:List (Key×V),(KO.map fun kv=>if kv.1=k then (kv.1,v) else kv).map (·.1)=KO.map (·.1)
 | []=>rfl
 | kv::KO=>by
  rw [Qq,Qq,Qq,rep_map k v KO]
  by_cases h:kv.1=k <;> simp [h]
theorem rep_reps (k:Key) {d:D} {v:V} (hd:Rep K H B d v):∀ {KO:List (Key×V)} {ds:List D},zr K H B ds (KO.map (·.2))->zr K H B (wu k d (KO.map (·.1)) ds) ((KO.map fun kv=>if kv.1=k then (kv.1,v) else kv).map (·.2))
 | [],ds,h=>by
  cases ds with
  | nil=>simpa [wu] using h
  | cons x ds=>simp [zr] at h
 | kv::KO,[],h=>by simp [zr] at h
 | kv::KO,x::ds,h=>by
  simp only [Qq,zr] at h
  obtain ⟨w,r,e1,h1,h2⟩:=h
  cases e1
  simp only [Qq,wu]
  refine .cons ?_ (rep_reps k hd h2)
  by_cases hk:kv.1=k
  ·simp only [KQ hk];exact hd
  ·simp only [KR hk];exact h1
theorem any_mem (k:Key) (KO:List (Key×V)):(KO.any fun kv=>decide (kv.1=k))=wE (KO.map (·.1)) k:=by
 unfold wE
 rw [List.any_map]
 rfl
theorem put_own {KO:List (Key×V)} {ds:List D} {k:Key} {d:D} {v:V} (hd:Rep K H B d v) (h:zr K H B ds (KO.map (·.2))):Own K H B (.dK (jc KO k v)) (.dict (putKs (KO.map (·.1)) k) (putDs (KO.map (·.1)) ds k d)):=by
 simp only [Own]
 unfold jc putKs putDs
 rw [any_mem]
 by_cases hk:wE (KO.map (·.1)) k=true
 ·rw [KQ hk,KQ hk,KQ hk]
  exact ⟨rep_map k v KO,rep_reps k hd h⟩
 ·rw [KR hk,KR hk,KR hk]
  rw [Q8,Q8]
  exact ⟨rfl,h.append (.one hd)⟩
end
section
variable {X:Cx} {fr st s:Bool} {os os' ol:List Nat} {o a i e tg:Kv} {td ta ti te:TE} {fo fa fi f:Ev->Option D} {ca:Ev->Option (List D)} {p p' pos pos':KB} {k:Nat}
theorem sf_dnew:SF X os (.Dict [] [] pos) tDNewK (fC (.dict [] [])):=⟨pe_dnewK,fun P6 P7 σ H ρ d Q m q kk=>by
 cases q
 intro p hp
 exact kk p (.dK []) _ (zG hp) hp zw (by simp only [Own];exact ⟨rfl,.nil⟩)⟩
theorem se_dget (hr:Room k X.A) (ho:SE X st os o td fo) (hi:SE X st os i ti fi) (hs:NoSl i:=by intro _ _;rfl):SE X st os (.Subscript o i pos) (tDGet td ti) (f2 gv fo fi):=⟨JV (gc hr) ho.pe hi.pe hs,fun P6 P7 σ H ρ d Q m q kk=>by
 obtain ⟨x,h1,h2⟩:=zc q
 obtain ⟨y,h3,h4⟩:=zc h2
 refine ho.ok P6 P7 σ H ρ x _ m h1 fun v H1 s1 r1=>?_
 refine hi.ok P6 P7 σ H1 ρ y _ (m.up s1) h3 fun u H2 s2 r2=>?_
 cases x <;> cases y <;> simp only [gv] at h4 <;> try (cases h4)
 have r1':=r1.up s2
 simp only [Rep] at r1' r2
 obtain ⟨b,KO,rfl,⟨hb,_⟩,rfl,hr⟩:=r1'
 subst r2
 obtain ⟨w',g1,g2⟩:=look_v hr h4
 exact ⟨b,w',rfl,by rw [<- g1];exact J8.k (k:=.inl _) hb,kk w' H2 (s1.trans s2) g2⟩⟩
theorem ss_dput (im:Nat) {y:Kw} {pv1:KB} (hr:Room k X.A) (hi:SE X false os i ti fi) (hv:SE X true os e te f) (ho:im∈os:=by decide) (hN:X.N[im]?=some y:=by rfl) (hvis:Vis X.env.scope y:=by first | exact Or.inl rfl | exact Or.inr (Or.inl rfl) | exact Or.inr (Or.inr rfl)) (hd:(y == ("__debug__":Kw))=false:=by decide)
  (hcd:(y == ("__classdict__":Kw))=false:=by decide) (hs:Kt e (some (.Subscript (.Name y pv1) i pos')) pos.line X.env=pure false:=by rfl) :
  SS X fr os os ol (.Assign [.Subscript (.Name y pv1) i pos'] e pos) (sDPut (ZA im) ti te) (mDPut im fi f) :=
 ⟨ps_dput (gc hr) (pv im hN hvis hd hcd) hi.pe hv.pe hs,fun P6 P7 σ H ρ o E m q kk=>by
 obtain ⟨d,q1,q2⟩:=zc q
 obtain ⟨x,q3,q4⟩:=zc q2
 obtain ⟨kd,q5,q6⟩:=zc q4
 obtain ⟨yy,q7,q8⟩:=zc q6
 obtain ⟨n,q9,q10⟩:=zc q8
 split at q10
 case isFalse=>cases q10
 rename_i hl
 cases q10
 cases x <;> simp only [asDc] at q5 <;> cases q5
 obtain ⟨a,ob,d',g1,g2,g3,g4,g5⟩:=m.own im ho
 rw [Yz q3] at g2;cases g2
 cases ob <;> simp only [Own] at g5
 rename_i KO
 obtain ⟨rfl,g5⟩:=g5
 refine hv.ok P6 P7 σ H ρ d _ m q1 fun v H1 s1 r1=>?_
 refine ⟨.ref a,g1,?_⟩
 refine hi.ok P6 P7 σ H1 ρ yy _ (m.up s1) q7 fun w' H2 s2 r2=>?_
 have e2:=gH r2 q9
 subst e2
 refine ⟨a,_,rfl,DPut.k (k:=.inl n) (s2 _ _ (s1 _ _ g3)) (by simpa using hl),kk σ _ ?_⟩
 exact (m.up (s1.trans s2)).write ho g1 (put_own (r1.up s2) (g5.up (s1.trans s2)))⟩
end
theorem _root_.L2.FnOk.no {P:Ki} {w:Kk} {K:KC} {mg:Kw->Option Ka} {base:Kl} {k:Nat} {f:Kc} {fd:Kh} {ps:List Kw}:FnOk P w K mg base CX0 k f fd ps (spM K fun _=>none) :=
 ⟨fun _ _ _ _ ⟨_,_,_,_,_,e,_⟩=>(nomatch e),fun _ _ _ _ _ _ _ _ _ _ _ _ _ ⟨_,_,_,_,_,e,_⟩=>(nomatch e)⟩
section
variable {X:Cx} {os os' ol:List Nat} {pos p p1 p2 p3:KB} {x:Kw} {j q:Nat}
theorem ss_retRow1 (h1:Ke [.Constant (.str x) j p1,.List [] p2] X.env=(false,Kz (.Constant (.str x) j p1) X.env)::Ke [.List [] p2] X.env:=by rfl) (h2:Ke [.List [] p2] X.env=(false,Kz (.List [] p2) X.env)::Ke [] X.env:=by rfl) :
  SS X true os os' ol (.Return (some (.Tuple [.Constant (.str x) j p1,.List [] p2] q p)) pos) (WH (tTup (zW (tC (.str x)) (zW (tLst ZS) ZS)))) (Z1 (Zo (ze (fC (.str x)) (ze (ZL zt) zt)))) :=
 ⟨Jp (wv (zM yw (zM (jd Zj) Zj h2) h1)),fun P6 P7 σ H ρ o E mm qq k=>by
 obtain ⟨d,e1,rfl⟩:=map_some qq
 have e2:Zo (ze (fC (.str x)) (ze (ZL zt) zt)) ρ=some (.tup [.str x,.lst []]):=by
  show (some [D.str x,D.lst []]).bind Wh=_
  rw [oB,Wh,KQ (by show 2<=Kg;decide)]
 rw [e2] at e1;cases e1
 refine ⟨by show 0<=Kg;decide,fun a ha=>⟨by show 2<=Kg;decide,fun b hb=>?_⟩⟩
 have s1:zT H (upd H a (.lst [])):=zG ha
 have s2:zT (upd H a (.lst [])) (upd (upd H a (.lst [])) b (.tup [.str x,.ref a])):=zG hb
 refine k _ _ ((mm.up (s1.trans s2)).grow) (mm.up (s1.trans s2)).blk (.inr (.inr ⟨b,x,[a],rfl,rfl,by simp,fun c hc=>?_,zw⟩))
 rw [Qs.mp hc]
 exact ⟨mm.grow.free ha,s2 _ _ zw⟩⟩
theorem ss_retRow2 (h1:Ke [.Constant (.str x) j p1,.List [] p2,.List [] p3] X.env=(false,Kz (.Constant (.str x) j p1) X.env)::Ke [.List [] p2,.List [] p3] X.env:=by rfl) (h2:Ke [.List [] p2,.List [] p3] X.env=(false,Kz (.List [] p2) X.env)::Ke [.List [] p3] X.env:=by rfl)
  (h3:Ke [.List [] p3] X.env=(false,Kz (.List [] p3) X.env)::Ke [] X.env:=by rfl) :
  SS X true os os' ol (.Return (some (.Tuple [.Constant (.str x) j p1,.List [] p2,.List [] p3] q p)) pos) (WH (tTup (zW (tC (.str x)) (zW (tLst ZS) (zW (tLst ZS) ZS))))) (Z1 (Zo (ze (fC (.str x)) (ze (ZL zt) (ze (ZL zt) zt))))) :=
 ⟨Jp (wv (zM yw (zM (jd Zj) (zM (jd Zj) Zj h3) h2) h1)),fun P6 P7 σ H ρ o E mm qq k=>by
 obtain ⟨d,e1,rfl⟩:=map_some qq
 have e2:Zo (ze (fC (.str x)) (ze (ZL zt) (ze (ZL zt) zt))) ρ=some (.tup [.str x,.lst [],.lst []]):=by
  show (some [D.str x,D.lst [],D.lst []]).bind Wh=_
  rw [oB,Wh,KQ (by show 3<=Kg;decide)]
 rw [e2] at e1;cases e1
 refine ⟨by show 0<=Kg;decide,fun a ha=>⟨by show 0<=Kg;decide,fun a2 ha2=>⟨by show 3<=Kg;decide,fun b hb=>?_⟩⟩⟩
 have s1:zT H (upd H a (.lst [])):=zG ha
 have s2:zT (upd H a (.lst [])) (upd (upd H a (.lst [])) a2 (.lst [])):=zG ha2
 have s3:zT (upd (upd H a (.lst [])) a2 (.lst [])) (upd (upd (upd H a (.lst [])) a2 (.lst [])) b (.tup [.str x,.ref a,.ref a2])):=zG hb
 have ne:a≠a2:=fun z=>by rw [<- z,zw] at ha2;cases ha2
 refine k _ _ ((mm.up ((s1.trans s2).trans s3)).grow) (mm.up ((s1.trans s2).trans s3)).blk (.inr (.inr ⟨b,x,[a,a2],rfl,rfl,by simp [ne],fun c hc=>?_,zw⟩))
 rcases Qc.mp hc with rfl | hc
 ·exact ⟨mm.grow.free ha,s3 _ _ (s2 _ _ zw)⟩
 ·rw [Qs.mp hc]
  exact ⟨mm.grow.free (s1.free ha2),s3 _ _ zw⟩⟩
end
structure Fr where
 done:List D
 x:Kw
 pre:List D
 post:List D
def shut (f:Fr) (top:List D):List D:=f.done++[.tup (.str f.x::(f.pre++.lst top::f.post))]
def ZF:List D->List Fr->List D
 | top,[]=>top
 | top,f::fs=>ZF (shut f top) fs
section
variable {K:KC} {P6 H H1:Hp} {P7:Kc->Prop} {w a:Kc} {as:List Kc} {top:List D} {fs:List Fr}
theorem reps_reps {B:Kc->Prop} {ls:List Kc} (h:∀ c∈ls,H c=some (.lst [])/\¬ B c):zr K H B (ls.map fun _=>D.lst []) (ls.map V.ref):=by
 induction ls with
 | nil=>exact .nil
 | cons c ls ih =>
  refine .cons ?_ (ih fun x hx=>h x (Qe _ hx))
  simp only [Rep]
  exact ⟨c,[],rfl,⟨.inl (h c Qt).1,(h c Qt).2⟩,.nil⟩
end
def openNames:List V:=[.str "loop",.str "either"]
def emp (n:Nat):List D:=List.replicate n (.lst [])
def stepZ (c:Int) (d:D) (top:List D) (fs:List Fr):Option (List D×List Fr):=match d with
 | .tup (.str x::ps)=>if top.length<Kg then
   if inV (.str x) openNames=true/\fs.length+1<4 then
    (if 0<ps.length/\x=x/\ps.all (fun d=>match d with | .lst []=>true | _=>false)=true then
     some ([],⟨top,x,emp (c / 32 % (ps.length:Nat)).toNat,emp (ps.length - 1 - (c / 32 % (ps.length:Nat)).toNat)⟩::fs) else none)
   else if c % 4=0 then (match fs with
    | f::fs'=>some (shut f (top++[d]),fs')
    | []=>some (top++[d],[]))
   else some (top++[d],fs)
  else none
 | _=>none
abbrev lenR (K:KC):List V->Hp->VK->Prop:=fun xs H Q=>∃ p ys,xs=[.ref p]/\(SqL K H p ys\/SqT K H p ys)/\Q (.int ys.length) H
theorem yT {P7:Kc->Prop} {σ:St}:Bl P7 [] σ=P7:=by
 funext a
 refine propext ⟨fun h=>?_,Or.inl⟩
 rcases h with h | ⟨i,hi,_⟩
 ·exact h
 ·cases hi
theorem Md.base {K:KC} {P6 H:Hp} {P7:Kc->Prop} {σ:St} {ρ:Ev} (m:Md K P6 P7 [] σ H ρ):Md K H P7 [] σ H ρ :=
 ⟨.refl H,m.blk,m.len,m.sh,fun i hi=>(by cases hi),fun i j a hi=>by cases hi⟩
theorem Md.go {K:KC} {P6 H H':Hp} {B B':Kc->Prop} {σ:St} {ρ:Ev} (m:Md K P6 B [] σ H ρ) (g:Goes H H' B B') (s:zT P6 H') (hb:∀ a,B' a->∃ o,H' a=some o):Md K P6 B' [] σ H' ρ :=
 ⟨s,hb,m.len,fun i d q n=>by
  obtain ⟨v,h1,h2⟩:=m.sh i d q n
  rw [yT] at h2 ⊢
  exact ⟨v,h1,Rep.goes g _ _ h2⟩,fun i hi=>(by cases hi),fun i j a hi=>by cases hi⟩
theorem gG {xs:List V} {x:V}:atI (xs++[x]) (-1)=some x:=by
 unfold atI ixN
 rw [KR (by omega),KQ (by simp;omega)]
 have:((-1:Int)+((xs++[x]).length:Nat)).toNat=xs.length:=by rw [Qd,QA];omega
 rw [this,oB]
 simp
theorem all_emp {ps:List D} (h:ps.all (fun d=>match d with | .lst []=>true | _=>false)=true):∀ d∈ps,d=.lst []:=fun d hd=>by
 have:=List.all_eq_true.mp h d hd
 cases d <;> try (simp at this)
 rename_i xs
 cases xs with
 | nil=>rfl
 | cons _ _=>simp at this
section
variable {K:KC} {te:TE} {f:Ev->Option D} {H:Hp} {P7:Kc->Prop} {ρ:Ev} {p:Kc} {top top':List D} {fs fs':List Fr} {c:Int} {d:D} {N:St->Hp->Prop} {E:Ends}
theorem ifT {P Q:Prop} (h:P):if true=true then P else Q:=by rw [KQ rfl];exact h
theorem ifF {P Q:Prop} (h:Q):if false=true then P else Q:=by rw [KR Qi];exact h
end
end M
namespace L2
open PySem PySem.Spec PyProof.Rows
section
variable {X:Cx}
def rDGet2:V->List V->Hp->VK->Prop:=fun x vs H Q=>∃ (a:Kc) (KO:List (Key×V)) (k:Key) (z:V),x=.ref a/\vs=[kV k,z]/\H a=some (.dK KO)/\Q ((ja KO k).getD z) H
theorem mt_dget2:MtR X "dict.get" rDGet2:=by
 intro KJ s σ H x vs v us Q I rx rv h
 obtain ⟨a,KO,k,z,rfl,rfl,hH,q⟩:=h
 cases rx
 obtain ⟨hz,hd,ws,rel,dd⟩:=dk_of I.hok hH
 cases rv with
 | cons r1 rr =>
  cases rr with
  | cons r2 rr =>
   cases rr
   rename_i u1 u2
   have T:s.TypeIs (.ref a) "dict":=by
    have g:J8 H a (kV k) (ja KO k):=.k hH
    exact w9 I g
   refine QQ F.slot_dict_get T F.entry_dict_get ?_ (F.args_dict_get_3 _ _ _)
   unfold Builtin.«dict.get»
   rw [show Builtin.Dict.keyAndDefault "get" { pos:=[Value.ref a,u1,u2] }=pure (a,u1,some u2) by rfl]
   refine Qa (Qf ?_)
   dsimp only
   refine Qa (wpAny_dictGet_of (kV_is r1) dd.mapOf ?_)
   have hv:=rel.val k
   cases e:ja KO k with
   | none =>
    rw [e] at hv q
    have:valueAt ws k=none:=by cases w:valueAt ws k with
     | none=>rfl
     | some _=>rw [w] at hv;cases hv
    rw [this]
    dsimp only
    refine Qa (wpAny_missed_other hd ?_)
    dsimp only
    exact Qf ⟨_,rfl,z,H,I.tok _,r2,q⟩
   | some y =>
    rw [e] at hv q
    obtain ⟨w',hw,rw'⟩:=jn.some_of (v:=y) (o:=valueAt ws k) hv
    rw [hw]
    dsimp only
    exact Qf ⟨_,rfl,y,H,I.tok _,rw',q⟩
theorem wx:fillsNumberSlot (Value.type "tuple") "mul"=pure false:=by kernel_rfl
theorem repeat_tuple:seqRepeat? (Value.type "tuple")=pure (some (Value.builtin "tuple.__mul__")):=by kernel_rfl
end
end L2
namespace M
open PySem PySem.Spec L2
open PySem.W (Frag)
section
variable {X:Cx} {st:Bool} {os:List Nat} {a b e o:Kv} {ta tb te to:TE} {fa fb fe fo:Ev->Option D} {p pos:KB} {k:Nat}
end
theorem Y6 {H H':Hp} {B B' O:Kc->Prop} (h1:∀ e o,H e=some o->¬ O e->H' e=some o) (hO:∀ e,O e->H e=none\/∃ xs,H e=some (.lst xs)) (hOB:∀ e xs,O e->H e=some (.lst xs)->B e) (hB:∀ e,B' e->B e\/H e=none):Goes H H' B B':=by
 have no:∀ e o,H e=some o->(∀ xs,o≠.lst xs)->¬ O e:=fun e o q n z=>by
  rcases hO e z with h | ⟨xs,h⟩
  ·rw [h] at q;cases q
  ·rw [h] at q;cases q;exact n xs rfl
 refine ⟨fun a xs q=>?_,fun a xs q n=>⟨?_,fun z=>?_⟩,fun a KO q n=>⟨?_,fun z=>?_⟩,fun a o u q=>h1 _ _ q (no _ _ q fun xs z=>by cases z),fun a xs q=>h1 _ _ q (no _ _ q fun xs z=>by cases z)⟩
 ·rcases q with q | ⟨o,q⟩
  ·exact .inl (h1 _ _ q (no _ _ q fun xs z=>by cases z))
  ·exact .inr ⟨o,h1 _ _ q (no _ _ q fun xs z=>by cases z)⟩
 ·rcases q with q | ⟨o,q⟩
  ·exact .inl (h1 _ _ q fun z=>n (hOB _ _ z q))
  ·exact .inr ⟨o,h1 _ _ q (no _ _ q fun xs z=>by cases z)⟩
 ·rcases hB a z with h | h
  ·exact n h
  ·rcases q with q | ⟨o,q⟩ <;> (rw [h] at q;cases q)
 ·exact h1 _ _ q (no _ _ q fun xs z=>by cases z)
 ·rcases hB a z with h | h
  ·exact n h
  ·rw [h] at q;cases q
structure Lv where
 a:Kc
 q:Kc
 ps:List Kc
def Lv.own (l:Lv):List Kc:=l.a::l.q::l.ps
def Yf (w:Kc) (ls:List Lv):List Kc:=w::ls.flatMap Lv.own
def Bq (P7:Kc->Prop) (w:Kc) (ls:List Lv):Kc->Prop:=fun x=>P7 x\/x∈Yf w ls
def Lv.ok (H:Hp) (l:Lv):Prop:=H l.q=some (.lst ((l.a::l.ps).map V.ref))/\∀ p∈l.ps,H p=some (.lst [])
def Cq (K:KC) (H:Hp) (B:Kc->Prop):List Fr->List Lv->Prop
 | [],[_]=>True
 | f::fs,l::l'::ls=>(∃ (vs pv:List V) (b:Kc),H l'.a=some (.lst (vs++[.ref b]))/\zr K H B f.done vs/\H b=some (.tup (.str f.x::(pv++(l.a::l.ps).map V.ref)))/\zr K H B f.pre pv/\f.post=l.ps.map fun _=>D.lst [])/\Cq K H B fs (l'::ls)
 | _,_=>False
structure Zq (K:KC) (P6:Hp) (P7:Kc->Prop) (H:Hp) (w:Kc) (l:Lv) (ls:List Lv) (top:List D) (fs:List Fr):Prop where
 whr:H w=some (.lst (((l::ls).reverse).map fun x=>V.ref x.q))
 top:∃ vs,H l.a=some (.lst vs)/\zr K H (Bq P7 w (l::ls)) top vs
 lv:∀ x∈l::ls,x.ok H
 ch:Cq K H (Bq P7 w (l::ls)) fs (l::ls)
 nd:(Yf w (l::ls)).Nodup
 new:∀ x∈Yf w (l::ls),P6 x=none/\¬ P7 x
theorem Cq.len {K:KC} {H:Hp} {B:Kc->Prop}:∀ {fs:List Fr} {ls:List Lv},Cq K H B fs ls->ls.length=fs.length+1
 | [],[_],_=>rfl
 | f::fs,l::l'::ls,h=>by simp only [Qg];have:=Cq.len h.2;simp only [Qg] at this;omega
 | [],[],h=>by cases h
 | [],_::_::_,h=>by cases h
 | _::_,[],h=>by cases h
 | _::_,[_],h=>by cases h
theorem Cq.mv {K:KC} {H H':Hp} {B B':Kc->Prop} (g:Goes H H' B B'):∀ {fs:List Fr} {l:Lv} {ls:List Lv},(∀ x∈ls,∀ o,H x.a=some o->H' x.a=some o)->Cq K H B fs (l::ls)->Cq K H' B' fs (l::ls)
 | [],l,[],_,_=>trivial
 | f::fs,l,l'::ls,h1,⟨⟨vs,pv,b,q1,q2,q3,q4,q5⟩,r⟩ =>
  ⟨⟨vs,pv,b,h1 l' Qt _ q1,zr.goes g _ _ q2,g.tkt _ _ q3,zr.goes g _ _ q4,q5⟩,Cq.mv g (fun x hx=>h1 x (Qe _ hx)) r⟩
 | [],_,_::_,_,h=>by cases h
 | _::_,_,[],_,h=>by cases h
theorem Cq.track {K:KC} {H:Hp} {B:Kc->Prop}:∀ {fs:List Fr} {l:Lv} {ls:List Lv},Cq K H B fs (l::ls)->∀ x∈ls,∃ xs,H x.a=some (.lst xs)
 | f::fs,l,l'::ls,⟨⟨vs,pv,b,q1,_⟩,r⟩,x,hx=>by
  rcases Qc.mp hx with rfl | hx
  ·exact ⟨_,q1⟩
  ·exact Cq.track r x hx
 | [],_,[],_,x,hx=>by cases hx
 | [],_,_::_,h,_,_=>by cases h
 | _::_,_,[],h,_,_=>by cases h
section
variable {K:KC} {P6 H H' H1:Hp} {P7:Kc->Prop} {w:Kc} {l:Lv} {ls:List Lv} {top:List D} {fs:List Fr}
theorem Zm {x:Kc} {ls:List Lv}:x∈Yf w ls↔x=w\/∃ l∈ls,x=l.a\/x=l.q\/x∈l.ps:=by
 unfold Yf
 rw [Qc,List.mem_flatMap]
 simp only [Lv.own,Qc]
theorem Zq.lists (z:Zq K P6 P7 H w l ls top fs):∀ x∈Yf w (l::ls),∃ xs,H x=some (.lst xs):=fun x hx=>by
 rcases Zm.mp hx with rfl | ⟨v,hv,rfl | rfl | hp⟩
 ·exact ⟨_,z.whr⟩
 ·rcases Qc.mp hv with rfl | hv
  ·obtain ⟨vs,h,_⟩:=z.top;exact ⟨_,h⟩
  ·exact z.ch.track v hv
 ·exact ⟨_,(z.lv v hv).1⟩
 ·exact ⟨_,(z.lv v hv).2 x hp⟩
theorem Zq.up (z:Zq K P6 P7 H w l ls top fs) (s:zT H H1):Zq K P6 P7 H1 w l ls top fs :=
 ⟨s _ _ z.whr,(by obtain ⟨vs,h1,h2⟩:=z.top;exact ⟨vs,s _ _ h1,h2.up s⟩),fun x hx=>⟨s _ _ (z.lv x hx).1,fun p hp=>s _ _ ((z.lv x hx).2 p hp)⟩,z.ch.mv (.same s) (fun x _ o h=>s _ _ h),z.nd,z.new⟩
theorem jZ (h:(Yf w (l::ls)).Nodup):w≠l.a/\w≠l.q/\l.a≠l.q/\w∉l.ps/\l.a∉l.ps/\l.q∉l.ps/\l.ps.Nodup/\(Yf w ls).Nodup/\∀ v∈ls,∀ x,(x=v.a\/x=v.q\/x∈v.ps)->x≠l.a/\x≠l.q/\x∉l.ps/\x≠w:=by
 unfold Yf at h
 rw [List.flatMap_cons] at h
 have hw:=Qx.mp h
 have hl:=List.nodup_append.mp hw.2
 have h1:=Qx.mp hl.1
 have h2:=Qx.mp h1.2
 have hm:∀ v∈ls,∀ x,(x=v.a\/x=v.q\/x∈v.ps)->x∈ls.flatMap Lv.own:=fun v hv x hx=>List.mem_flatMap.mpr ⟨v,hv,by simp only [Lv.own,Qc];exact hx⟩
 refine ⟨fun e=>hw.1 (by simp [Lv.own,e]),fun e=>hw.1 (by simp [Lv.own,e]),fun e=>h1.1 (by simp [e]),fun e=>hw.1 (by simp [Lv.own,e]),fun e=>h1.1 (by simp [e]),h2.1,h2.2,Qx.mpr ⟨fun e=>hw.1 (QL.mpr (.inr e)),hl.2.1⟩,fun v hv x hx=>⟨fun e=>?_,fun e=>?_,fun e=>?_,fun e=>?_⟩⟩
 ·exact hl.2.2 l.a (by simp [Lv.own]) x (hm v hv x hx) e.symm
 ·exact hl.2.2 l.q (by simp [Lv.own]) x (hm v hv x hx) e.symm
 ·exact hl.2.2 x (by simp [Lv.own,e]) x (hm v hv x hx) rfl
 ·exact hw.1 (QL.mpr (.inr (e▸hm v hv x hx)))
theorem Zq.add (z:Zq K P6 P7 H w l ls top fs) {vs:List V} {d:D} {v:V} (hv:H l.a=some (.lst vs)) (hd:Rep K H (Bq P7 w (l::ls)) d v) (ha:H' l.a=some (.lst (vs++[v]))) (hn:∀ e o,H e=some o->e≠l.a->H' e=some o):Zq K P6 P7 H' w l ls (top++[d]) fs:=by
 obtain ⟨wa,wq,aq,wp,ap,qp,pn,_,out⟩:=jZ z.nd
 have g:Goes H H' (Bq P7 w (l::ls)) (Bq P7 w (l::ls)):=Y6 (O:=fun e=>e=l.a) hn (fun e he=>by rw [he];exact .inr ⟨_,hv⟩) (fun e xs he _=>.inr (by rw [he];exact Zm.mpr (.inr ⟨l,by simp,.inl rfl⟩))) (fun e he=>.inl he)
 obtain ⟨vs',h1,h2⟩:=z.top
 rw [hv] at h1;cases h1
 refine ⟨hn _ _ z.whr wa,⟨_,ha,(zr.goes g _ _ h2).append (.one (Rep.goes g _ _ hd))⟩,fun x hx=>?_,z.ch.mv g (fun x hx o h=>hn _ _ h (out x hx x.a (.inl rfl)).1),z.nd,z.new⟩
 rcases Qc.mp hx with rfl | hx'
 ·exact ⟨hn _ _ (z.lv x hx).1 (Ne.symm aq),fun p hp=>hn _ _ ((z.lv x hx).2 p hp) fun e=>ap (e▸hp)⟩
 ·exact ⟨hn _ _ (z.lv x hx).1 (out x hx' _ (.inr (.inl rfl))).1,fun p hp=>hn _ _ ((z.lv x hx).2 p hp) (out x hx' p (.inr (.inr hp))).1⟩
theorem Zq.push (z:Zq K P6 P7 H w l ls top fs) (gr:zT P6 H) (hb0:∀ x,P7 x->∃ o,H x=some o) {vs:List V} (hv:H l.a=some (.lst vs)) {b q c:Kc} {x:Kw} {cs:List Kc} (hnd:(c::q::cs).Nodup) (fr:∀ e∈c::q::cs,H e=none)
  (ha:H' l.a=some (.lst (vs++[.ref b]))) (hb:H' b=some (.tup (.str x::(c::cs).map V.ref))) (hq:H' q=some (.lst ((c::cs).map V.ref))) (hc:∀ e∈c::cs,H' e=some (.lst [])) (hw:H' w=some (.lst (((l::ls).reverse).map (fun x=>V.ref x.q)++[.ref q]))) (hn:∀ e o,H e=some o->e≠l.a->e≠w->H' e=some o) :
  Zq K P6 P7 H' w ⟨c,q,cs⟩ (l::ls) [] (⟨top,x,[],cs.map fun _=>.lst []⟩::fs)/\Goes H H' (Bq P7 w (l::ls)) (Bq P7 w (⟨c,q,cs⟩::l::ls)):=by
 obtain ⟨wa,wq,aq,wp,ap,qp,pn,_,out⟩:=jZ z.nd
 have mem':∀ e,e∈Yf w (⟨c,q,cs⟩::l::ls)↔e∈Yf w (l::ls)\/e∈c::q::cs:=fun e=>by
  rw [Zm,Zm]
  constructor
  ·rintro (h | ⟨v,hv,h⟩)
   ·exact .inl (.inl h)
   ·rcases Qc.mp hv with rfl | hv
    ·right;simp only [Qc];exact h
    ·exact .inl (.inr ⟨v,hv,h⟩)
  ·rintro ((h | ⟨v,hv,h⟩) | h)
   ·exact .inl h
   ·exact .inr ⟨v,Qe _ hv,h⟩
   ·exact .inr ⟨_,Qt,by simpa only [Qc] using h⟩
 have old:∀ e∈Yf w (l::ls),e∉c::q::cs:=fun e he hm=>by
  obtain ⟨xs,h⟩:=z.lists e he
  rw [fr e hm] at h;cases h
 have g:Goes H H' (Bq P7 w (l::ls)) (Bq P7 w (⟨c,q,cs⟩::l::ls)):=Y6 (O:=fun e=>e=l.a\/e=w) (fun e o h n=>hn e o h (fun z=>n (.inl z)) fun z=>n (.inr z)) (fun e he=>by
   rcases he with rfl | rfl
   ·exact .inr ⟨_,hv⟩
   ·exact .inr ⟨_,z.whr⟩) (fun e xs he _=>.inr (by
   rcases he with rfl | rfl
   ·exact Zm.mpr (.inr ⟨l,by simp,.inl rfl⟩)
   ·exact Zm.mpr (.inl rfl))) (fun e he=>by
   rcases he with he | he
   ·exact .inl (.inl he)
   ·rcases (mem' e).mp he with he | he
    ·exact .inl (.inr he)
    ·exact .inr (fr e he))
 obtain ⟨vs',h1,h2⟩:=z.top
 rw [hv] at h1;cases h1
 refine ⟨⟨by rw [hw];simp,⟨[],hc c (by simp),.nil⟩,fun v hv'=>?_,⟨⟨vs,[],b,ha,zr.goes g _ _ h2,hb,.nil,rfl⟩,z.ch.mv g fun v hv' o h=>hn _ _ h (out v hv' v.a (.inl rfl)).1 (out v hv' v.a (.inl rfl)).2.2.2⟩,?_,fun e he=>?_⟩,g⟩
 ·rcases Qc.mp hv' with rfl | hv'
  ·exact ⟨hq,fun p hp=>hc p (Qe _ hp)⟩
  ·have hk:=z.lv v hv'
   rcases Qc.mp hv' with rfl | hv2
   ·exact ⟨hn _ _ hk.1 (Ne.symm aq) (Ne.symm wq),fun p hp=>hn _ _ (hk.2 p hp) (fun e=>ap (e▸hp)) fun e=>wp (e▸hp)⟩
   ·exact ⟨hn _ _ hk.1 (out v hv2 _ (.inr (.inl rfl))).1 (out v hv2 _ (.inr (.inl rfl))).2.2.2,fun p hp=>hn _ _ (hk.2 p hp) (out v hv2 p (.inr (.inr hp))).1 (out v hv2 p (.inr (.inr hp))).2.2.2⟩
 ·have nd:=z.nd
  unfold Yf at nd ⊢
  have nd2:=Qx.mp nd
  rw [List.flatMap_cons]
  refine Qx.mpr ⟨fun e=>?_,List.nodup_append.mpr ⟨hnd,nd2.2,fun e1 he1 e2 he2 ee=>?_⟩⟩
  ·rcases QL.mp e with e | e
   ·exact old w (Zm.mpr (.inl rfl)) e
   ·exact nd2.1 e
  ·subst ee
   exact old e1 (Qe _ he2) he1
 ·rcases (mem' e).mp he with he | he
  ·exact z.new e he
  ·exact ⟨gr.free (fr e he),fun q=>by obtain ⟨o,h⟩:=hb0 e q;rw [fr e he] at h;cases h⟩
theorem Zq.next {f:Fr} {p:Kc} {ps:List Kc} (z:Zq K P6 P7 H w l ls top (f::fs)) (hps:l.ps=p::ps) (hq:H' l.q=some (.lst ((p::ps).map V.ref))) (hn:∀ e o,H e=some o->e≠l.q->H' e=some o) :
  Zq K P6 P7 H' w ⟨p,l.q,ps⟩ ls [] (⟨f.done,f.x,f.pre++[.lst top],ps.map fun _=>.lst []⟩::fs)/\Goes H H' (Bq P7 w (l::ls)) (Bq P7 w (⟨p,l.q,ps⟩::ls)):=by
 obtain ⟨wa,wq,aq,wp,ap,qp,pn,ndl,out⟩:=jZ z.nd
 have mem':∀ e,e∈Yf w (⟨p,l.q,ps⟩::ls)->e∈Yf w (l::ls)/\e≠l.a:=fun e he=>by
  rcases Zm.mp he with rfl | ⟨v,hv,h⟩
  ·exact ⟨Zm.mpr (.inl rfl),wa⟩
  ·rcases Qc.mp hv with rfl | hv
   ·rcases h with h | h | h
    ·simp only at h;rw [h];exact ⟨Zm.mpr (.inr ⟨l,by simp,.inr (.inr (by rw [hps];simp))⟩),fun q=>ap (by rw [hps,<- q];simp)⟩
    ·simp only at h;rw [h];exact ⟨Zm.mpr (.inr ⟨l,by simp,.inr (.inl rfl)⟩),Ne.symm aq⟩
    ·simp only at h;exact ⟨Zm.mpr (.inr ⟨l,by simp,.inr (.inr (by rw [hps];simp [h]))⟩),fun q=>ap (by rw [hps,<- q];simp [h])⟩
   ·exact ⟨Zm.mpr (.inr ⟨v,Qe _ hv,h⟩),(out v hv e h).1⟩
 have g:Goes H H' (Bq P7 w (l::ls)) (Bq P7 w (⟨p,l.q,ps⟩::ls)):=Y6 (O:=fun e=>e=l.q) hn (fun e he=>by rw [he];exact .inr ⟨_,(z.lv l (by simp)).1⟩) (fun e xs he _=>.inr (by rw [he];exact Zm.mpr (.inr ⟨l,by simp,.inr (.inl rfl)⟩))) (fun e he=>by
  rcases he with he | he
  ·exact .inl (.inl he)
  ·exact .inl (.inr (mem' e he).1))
 have lp:=(z.lv l (by simp)).2
 have pq:∀ e∈l.ps,e≠l.q:=fun e he q=>qp (q▸he)
 obtain ⟨us,t1,t2⟩:=z.top
 refine ⟨?_,g⟩
 cases ls with
 | nil=>exact absurd z.ch.len (by simp)
 | cons l' ls =>
  obtain ⟨⟨vs,pv,b,q1,q2,q3,q4,q5⟩,r⟩:=z.ch
  refine ⟨?_,⟨[],hn _ _ (lp p (by rw [hps];simp)) (pq p (by rw [hps];simp)),.nil⟩,fun v hv=>?_,⟨⟨vs,pv++[.ref l.a],b,hn _ _ q1 (out l' (by simp) _ (.inl rfl)).2.1,zr.goes g _ _ q2,?_,(zr.goes g _ _ q4).append (.one ?_),rfl⟩,r.mv g fun v hv o h=>hn _ _ h (out v (Qe _ hv) _ (.inl rfl)).2.1⟩,?_,fun e he=>z.new e (mem' e he).1⟩
  ·rw [hn _ _ z.whr wq];simp
  ·rcases Qc.mp hv with rfl | hv
   ·exact ⟨hq,fun e he=>hn _ _ (lp e (by rw [hps];simp [he])) (pq e (by rw [hps];simp [he]))⟩
   ·have hk:=z.lv v (Qe _ hv)
    exact ⟨hn _ _ hk.1 (out v hv _ (.inr (.inl rfl))).2.1,fun e he=>hn _ _ (hk.2 e he) (out v hv e (.inr (.inr he))).2.1⟩
  ·rw [g.tkt _ _ q3,hps];simp
  ·simp only [Rep]
   refine ⟨l.a,us,rfl,⟨.inl (hn _ _ t1 aq),fun q=>?_⟩,zr.goes g _ _ t2⟩
   rcases q with q | q
   ·exact (z.new l.a (Zm.mpr (.inr ⟨l,by simp,.inl rfl⟩))).2 q
   ·exact (mem' _ q).2 rfl
  ·have pn':(p::ps).Nodup:=hps▸pn
   have nd:=ndl
   unfold Yf at nd ⊢
   have nd2:=Qx.mp nd
   rw [List.flatMap_cons]
   refine Qx.mpr ⟨fun e=>?_,List.nodup_append.mpr ⟨?_,nd2.2,fun e1 he1 e2 he2 ee=>?_⟩⟩
   ·rcases QL.mp e with e | e
    ·simp only [Lv.own,Qc] at e
     rcases e with e | e | e
     ·exact wp (by rw [hps,e];simp)
     ·exact wq e
     ·exact wp (by rw [hps];simp [e])
    ·exact nd2.1 e
   ·simp only [Lv.own]
    have pp:=Qx.mp pn'
    refine Qx.mpr ⟨fun e=>?_,Qx.mpr ⟨fun e=>qp (by rw [hps];simp [e]),pp.2⟩⟩
    rcases Qc.mp e with e | e
    ·exact qp (by rw [hps,<- e];simp)
    ·exact pp.1 e
   ·subst ee
    obtain ⟨v,hv,hx⟩:=List.mem_flatMap.mp he2
    simp only [Lv.own,Qc] at hx he1
    have ho:=out v hv e1 hx
    rcases he1 with h | h | h
    ·exact ho.2.2.1 (by rw [hps,h];simp)
    ·exact ho.2.1 h
    ·exact ho.2.2.1 (by rw [hps];simp [h])
theorem Zq.out {f:Fr} {l':Lv} (z:Zq K P6 P7 H w l (l'::ls) top (f::fs)) (hps:l.ps=[]) (hw:H' w=some (.lst (((l'::ls).reverse).map fun x=>V.ref x.q))) (hn:∀ e o,H e=some o->e≠l.q->e≠w->H' e=some o) :
  Zq K P6 P7 H' w l' ls (shut f top) fs/\Goes H H' (Bq P7 w (l::l'::ls)) (Bq P7 w (l'::ls)):=by
 obtain ⟨wa,wq,aq,wp,ap,qp,pn,ndl,out⟩:=jZ z.nd
 have mem':∀ e,e∈Yf w (l'::ls)->e∈Yf w (l::l'::ls)/\e≠l.a:=fun e he=>by
  rcases Zm.mp he with rfl | ⟨v,hv,h⟩
  ·exact ⟨Zm.mpr (.inl rfl),wa⟩
  ·exact ⟨Zm.mpr (.inr ⟨v,Qe _ hv,h⟩),(out v hv e h).1⟩
 have g:Goes H H' (Bq P7 w (l::l'::ls)) (Bq P7 w (l'::ls)):=Y6 (O:=fun e=>e=l.q\/e=w) (fun e o h n=>hn e o h (fun z=>n (.inl z)) fun z=>n (.inr z)) (fun e he=>by
   rcases he with rfl | rfl
   ·exact .inr ⟨_,(z.lv l (by simp)).1⟩
   ·exact .inr ⟨_,z.whr⟩) (fun e xs he _=>.inr (by
   rcases he with rfl | rfl
   ·exact Zm.mpr (.inr ⟨l,by simp,.inr (.inl rfl)⟩)
   ·exact Zm.mpr (.inl rfl))) (fun e he=>by
   rcases he with he | he
   ·exact .inl (.inl he)
   ·exact .inl (.inr (mem' e he).1))
 obtain ⟨us,t1,t2⟩:=z.top
 obtain ⟨⟨vs,pv,b,q1,q2,q3,q4,q5⟩,r⟩:=z.ch
 have keep:∀ v∈l'::ls,∀ x,(x=v.a\/x=v.q\/x∈v.ps)->∀ o,H x=some o->H' x=some o:=fun v hv x hx o h=>hn _ _ h (out v hv x hx).2.1 (out v hv x hx).2.2.2
 refine ⟨⟨hw,⟨vs++[.ref b],keep l' (by simp) _ (.inl rfl) _ q1,?_⟩,fun v hv=>?_,r.mv g fun v hv o h=>keep v (Qe _ hv) _ (.inl rfl) o h,ndl,fun e he=>z.new e (mem' e he).1⟩,g⟩
 ·refine (zr.goes g _ _ q2).append (.one ?_)
  rw [hps] at q3 q5
  simp only [Rep]
  refine ⟨b,_,rfl,.inl (.inl (g.tkt _ _ q3)),.cons (by simp [Rep]) ((zr.goes g _ _ q4).append ?_)⟩
  rw [q5]
  refine .one ?_
  simp only [Rep]
  refine ⟨l.a,us,rfl,⟨.inl (hn _ _ t1 aq (Ne.symm wa)),fun q=>?_⟩,zr.goes g _ _ t2⟩
  rcases q with q | q
  ·exact (z.new l.a (Zm.mpr (.inr ⟨l,by simp,.inl rfl⟩))).2 q
  ·exact (mem' _ q).2 rfl
 ·have hk:=z.lv v (Qe _ hv)
  exact ⟨keep v hv _ (.inr (.inl rfl)) _ hk.1,fun p hp=>keep v hv p (.inr (.inr hp)) _ (hk.2 p hp)⟩
theorem Cq.root:∀ {fs:List Fr} {l:Lv} {ls:List Lv} {top:List D},(∀ v∈l::ls,(∀ x,(x=v.a\/x∈v.ps)->¬ P7 x)/\∀ p∈v.ps,H p=some (.lst []))->Rep K H P7 (.lst top) (.ref l.a)->Cq K H P7 fs (l::ls)->Rep K H P7 (.lst (ZF top fs)) (.ref ((l::ls).getLast (by simp)).a)
 | [],l,[],top,_,h,_=>h
 | f::fs,l,l'::ls,top,hn,h,⟨⟨vs,pv,b,q1,q2,q3,q4,q5⟩,r⟩=>by
  have e:(l::l'::ls).getLast (by simp)=(l'::ls).getLast (by simp):=by rw [Pw (by simp)]
  rw [e,ZF]
  refine Cq.root (fun x hx=>hn x (Qe _ hx)) ?_ r
  simp only [Rep]
  refine ⟨l'.a,_,rfl,⟨.inl q1,(hn l' (by simp)).1 _ (.inl rfl)⟩,q2.append (.one ?_)⟩
  simp only [Rep]
  refine ⟨b,_,rfl,.inl (.inl q3),.cons (by simp [Rep]) (q4.append ?_)⟩
  rw [q5]
  exact .cons h (reps_reps fun c hc=>⟨(hn l (by simp)).2 c hc,(hn l (by simp)).1 c (.inr hc)⟩)
 | [],_,_::_,_,_,_,h=>by cases h
 | _::_,_,[],_,_,_,h=>by cases h
theorem Zq.root (z:Zq K P6 P7 H w l ls top fs):Rep K H P7 (.lst (ZF top fs)) (.ref ((l::ls).getLast (by simp)).a):=by
 have g:Goes H H (Bq P7 w (l::ls)) P7:=.less (fun e h=>.inl h) (.refl H)
 obtain ⟨vs,h1,h2⟩:=z.top
 refine Cq.root (fun v hv=>⟨fun x hx=>(z.new x (Zm.mpr (.inr ⟨v,hv,hx.elim .inl fun h=>.inr (.inr h)⟩))).2,(z.lv v hv).2⟩) ?_ (z.ch.mv g fun _ _ _ h=>h)
 simp only [Rep]
 exact ⟨l.a,vs,rfl,⟨.inl h1,(z.new l.a (Zm.mpr (.inr ⟨l,by simp,.inl rfl⟩))).2⟩,zr.goes g _ _ h2⟩
end
abbrev tQ (K:KC):TE:=tOp (rIxL K) (ZA 6) (tUn (rU fun i=>.int (-i)) (tC (.int 1)))
abbrev tPopB (K:KC):TS:=y9 (YJ (tBM K "list" rPopAt (tQ K) (zW (tC (.int 0)) ZS))) (tIfS (YI (tOp (rEqD K false) (tQ K) (tLst ZS))) (YJ (tBM0 K "list" rPop (ZA 6))) wN)
theorem lay_emps:∀ ps:List Kc,PyData.canLayAll0 (yv (ps.map fun _=>D.lst []))=true/\PyData.depthAll (yv (ps.map fun _=>D.lst []))<=1
 | []=>⟨by rw [Po,yv,PyData.canLayAll0],by rw [Po,yv,PyData.depthAll];omega⟩
 | p::ps=>by
  obtain ⟨h1,h2⟩:=lay_emps ps
  rw [Qq,yv,PyData.canLayAll0,PyData.depthAll,h1,ya,yv,PyData.canLay0,PyData.canLayAll0,PyData.depth,PyData.depthAll]
  exact ⟨rfl,by omega⟩
theorem py_emps (ps:List Kc):j8 (.lst (ps.map fun _=>D.lst []))=true:=by
 obtain ⟨h1,h2⟩:=lay_emps ps
 unfold j8 SeqAt.shaped
 rw [ya,PyData.canLay0,PyData.depth,h1,KS (by omega)];rfl
theorem eq_emps (ps:List Kc):eqD (.lst (ps.map fun _=>D.lst [])) (.lst [])=decide (ps=[]):=by
 unfold eqD
 cases ps with
 | nil=>rw [Po,ya,yv,PyData.eqv];simp [PyData.eqvAll]
 | cons p ps=>rw [Qq,ya,yv,ya,yv,PyData.eqv];simp [PyData.eqvAll]
section
variable {K:KC} {P6 H:Hp} {P7:Kc->Prop} {w:Kc} {l:Lv} {ls:List Lv} {top:List D} {f:Fr} {fs:List Fr} {σ:St} {E:Ends}
theorem Zq.whr' (z:Zq K P6 P7 H w l ls top fs):H w=some (.lst ((ls.reverse.map fun x=>V.ref x.q)++[.ref l.q])):=by
 rw [z.whr];simp
theorem pop15 (z:Zq K P6 P7 H w l ls top (f::fs)) (g6:σ[6]?=some (some (.ref w)))
  (k1:∀ (p:Kc) (ps:List Kc) (H':Hp),l.ps=p::ps->Zq K P6 P7 H' w ⟨p,l.q,ps⟩ ls [] (⟨f.done,f.x,f.pre++[.lst top],ps.map fun _=>.lst []⟩::fs)->Goes H H' (Bq P7 w (l::ls)) (Bq P7 w (⟨p,l.q,ps⟩::ls))->(∀ e o,H e=some o->e∉Yf w (l::ls)->H' e=some o)->E.nx σ H')
  (k2:∀ (l':Lv) (ls':List Lv) (H':Hp),ls=l'::ls'->l.ps=[]->Zq K P6 P7 H' w l' ls' (shut f top) fs->Goes H H' (Bq P7 w (l::ls)) (Bq P7 w ls)->(∀ e o,H e=some o->e∉Yf w (l::ls)->H' e=some o)->E.nx σ H'):tPopB K E σ H:=by
 obtain ⟨wa,wq,aq,wp,ap,qp,pn,ndl,out⟩:=jZ z.nd
 have hw:=z.whr'
 obtain ⟨hq,hp⟩:=z.lv l (by simp)
 have oq:l.q∈Yf w (l::ls):=Zm.mpr (.inr ⟨l,by simp,.inr (.inl rfl)⟩)
 have ow:w∈Yf w (l::ls):=Zm.mpr (.inl rfl)
 refine ⟨.ref w,g6,1,rfl,w,_,-1,.ref l.q,rfl,rfl,.inl (.inl hw),gG,.inl ⟨rfl,_,.inl (.inl hq)⟩,l.q,(l.a::l.ps).map V.ref,0,0,.ref l.a,rfl,rfl,hq,by decide,by decide,?_,rfl,?_⟩
 ·rw [Ql,Qg];unfold seqIndex?;simp
 have e1:((l.a::l.ps).map V.ref).eraseIdx 0=l.ps.map V.ref:=rfl
 rw [e1]
 have w1:upd H l.q (.lst (l.ps.map V.ref)) w=some (.lst ((ls.reverse.map fun x=>V.ref x.q)++[.ref l.q])):=by rw [zv wq];exact hw
 have q1:upd H l.q (.lst (l.ps.map V.ref)) l.q=some (.lst (l.ps.map V.ref)):=zw
 have n1:∀ e o,H e=some o->e≠l.q->upd H l.q (.lst (l.ps.map V.ref)) e=some o:=fun e o h n=>by rw [zv n];exact h
 generalize upd H l.q (.lst (l.ps.map V.ref))=H1 at *
 refine ⟨.ref w,g6,1,rfl,w,_,-1,.ref l.q,rfl,rfl,.inl (.inl w1),gG,by show 0<=Kg;decide,fun e he=>?_⟩
 have s2:zT H1 (upd H1 e (.lst [])):=zG he
 have e2:upd H1 e (.lst []) e=some (.lst []):=zw
 generalize upd H1 e (.lst [])=H2 at *
 have n2:∀ e o,H e=some o->e≠l.q->H2 e=some o:=fun e o h n=>s2 _ _ (n1 e o h n)
 refine ⟨fun _=>False,.lst (l.ps.map fun _=>.lst []),.lst [],?_,?_,py_emps _,by decide,decide (l.ps=[]),?_,?_⟩
 ·simp only [Rep]
  exact ⟨l.q,_,rfl,⟨.inl (s2 _ _ q1),fun z=>z⟩,reps_reps fun c hc=>⟨n2 _ _ (hp c hc) fun z=>qp (z▸hc),fun z=>z⟩⟩
 ·simp only [Rep]
  exact ⟨e,[],rfl,⟨.inl e2,fun z=>z⟩,.nil⟩
 ·rw [KR Qi,eq_emps]
 ·cases hps:l.ps with
  | nil =>
   rw [KS rfl]
   refine ifT ?_
   cases ls with
   | nil=>exact absurd z.ch.len (by simp)
   | cons l' ls' =>
    have w2:=s2 _ _ w1
    refine ⟨.ref w,g6,.inl ⟨rfl,_,.inl (.inl w2)⟩,w,_,.ref l.q,rfl,rfl,w2,by simp,?_⟩
    rw [List.dropLast_concat]
    obtain ⟨zo,go⟩:=z.out (H':=upd H2 w (.lst ((l'::ls').reverse.map fun x=>V.ref x.q))) hps zw (fun e o h n n'=>by rw [zv n'];exact n2 e o h n)
    exact k2 l' ls' _ rfl hps zo go fun e o h n=>by
     rw [zv (show e≠w from fun z=>n (by rw [z];exact ow))]
     exact n2 e o h fun z=>n (by rw [z];exact oq)
  | cons p ps =>
   rw [KU (by simp)]
   refine ifF ?_
   obtain ⟨zn,gn⟩:=z.next (H':=H2) hps (by rw [<- hps];exact s2 _ _ q1) n2
   exact k1 p ps _ hps zn gn fun e o h n=>n2 e o h fun z=>n (by rw [z];exact oq)
end
theorem cutV_from {xs:List V} (k:Nat):gx xs (some (k:Int)) none=xs.drop k:=by
 unfold gx
 rw [HT.sIx_nat,HT.sIx_none]
 by_cases h2:k<=xs.length
 ·rw [PH h2,PQ (by simp)]
 ·rw [PM (by omega),List.drop_eq_nil_of_le (by omega:xs.length<=k),Pq];simp
abbrev tRest (K:KC) (n:Nat):TE:=wO 1 (iTup K (tSl (rSlT K) (ZA 9) (tPart (tC (.int 1))) tNoPart)) (ZM n) tYes (ZA n)
section
variable {K:KC} {H:Hp} {σ:St}
theorem comp_rest {n:Nat} {b:Kc} {x:V} {vs:List V} {Q:VK} (hσ:σ.length=n) (g9:σ[9]?=some (some (.ref b))) (hb:SqT K H b (x::vs)) (hl:vs.length<=1000)
  (q:∀ (t e:Kc) (H':Hp),H t=none->e≠t->H e=none->H' e=some (.lst vs)->zT H H'->Q (.ref e) H'):tRest K n σ H Q:=by
 refine ⟨.ref b,g9,1,rfl,b,x::vs,rfl,hb,?_,fun t ht=>?_⟩
 ·have:=HT.sIx_nat (x::vs).length 0 1
  rintro ⟨z,-⟩
  rw [show ((1:Int))=((1:Nat):Int) from rfl,HT.sIx_nat] at z
  simp only [Qg] at z
  omega
 have ec:gx (x::vs) (some 1) none=vs:=cutV_from 1
 rw [ec]
 have s1:zT H (upd H t (.tup vs)):=zG ht
 have t1:upd H t (.tup vs) t=some (.tup vs):=zw
 have f1:∀ e,upd H t (.tup vs) e=none->e≠t/\H e=none:=fun e he=>by
  have h1:e≠t:=fun z=>by rw [z,zw] at he;cases he
  rw [zv h1] at he
  exact ⟨h1,he⟩
 generalize upd H t (.tup vs)=H1 at *
 refine ⟨t,rfl,⟨vs,.inl (.inl t1)⟩,fun e he=>?_⟩
 obtain ⟨et,hen⟩:=f1 e he
 refine ⟨fun i m ys σ' H'=>ys=vs.take i/\m=vs.length - i/\i<=vs.length/\H' e=some (.lst ys)/\(∀ a o,H1 a=some o->H' a=some o)/\∃ z,σ'=σ++[z],⟨vs.length,rfl,by simp,Q4 _,zw,fun a o h=>?_,none,rfl⟩,?_⟩
 ·rw [zv (fun z=>by rw [z,he] at h;cases h)];exact h
 rintro i m ys σ' H' ⟨rfl,rfl,hi,he',hs,z,rfl⟩
 refine ⟨he',?_⟩
 have tt:=hs _ _ t1
 by_cases hlt:i<vs.length
 ·right
  refine ⟨⟨vs,vs[i],.inl (.inl tt),by simp [hlt]⟩,fun v H2 y=>?_⟩
  obtain ⟨rfl,hy⟩:=y
  have hv:=hy vs (.inl (.inl tt))
  rw [Qz hlt] at hv
  cases hv
  unfold ZM tYes
  dsimp only
  rw [KQ rfl]
  have e1:(σ++[z]).set n (some vs[i])=σ++[some vs[i]]:=by
   rw [<- hσ,List.set_append_right _ _ (by omega)];simp
  refine ⟨vs[i],?_,he',by rw [Pp];exact Q7 (Nat.min_le_right _ _) (JQ (by omega)),vs.length - (i+1),by omega,?_,rfl,hlt,zw,fun a o h=>?_,some vs[i],e1⟩
  ·rw [e1,QW (by omega),<- hσ];simp
  ·rw [List.take_succ,Qz hlt];rfl
  ·rw [zv (fun z=>by rw [z,he] at h;cases h)];exact hs a o h
 ·left
  have hi':i=vs.length:=by omega
  subst hi'
  rw [List.take_length] at he'
  exact ⟨⟨vs,.inl (.inl tt),by simp⟩,q t e H' ht et hen he' fun a o h=>hs _ _ (s1 _ _ h)⟩
end
def jG:List V:=[.str "either",.str "loop"]
def addQ (deep:Int) (d:D) (top:List D) (fs:List Fr):Option (List D×List Fr):=match d with
 | .tup (.str x::ps)=>if top.length<Kg/\fs.length<1000/\ps.length<=1000 then
   if inV (.str x) jG=true/\((fs.length+1:Nat):Int)<deep then
    (if 0<ps.length/\ps.all (fun d=>match d with | .lst []=>true | _=>false)=true then some ([],⟨top,x,[],ps.tail⟩::fs) else none)
   else some (top++[d],fs)
  else none
 | _=>none
abbrev tAdd15 (K:KC):TS:=YJ (tBM K "list" yP (tOp (rIxL K) (tQ K) (tC (.int 0))) (zW (ZA 9) ZS))
abbrev tT15 (K:KC):TT:=tAnd (YI (tOp (rIn K false) (tOp (rIxT K) (ZA 9) (tC (.int 0))) (tTup (zW (tC (.str "either")) (zW (tC (.str "loop")) ZS))))) (YI (tOp (rI0 fun i j=>.bl (decide (i<j))) (tCB (lenR K) (zW (ZA 6) ZS)) (ZA 3)))
abbrev tPush15 (K:KC) (n:Nat):TS:=YJ (tBM K "list" yP (ZA 6) (zW (tRest K n) ZS))
abbrev tJoin15 (K:KC) (n:Nat):TS:=y9 (tAdd15 K) (tIfS (tT15 K) (tPush15 K n) wN)
section
variable {K:KC} {P6 H2 H:Hp} {P7:Kc->Prop} {w:Kc} {l:Lv} {ls:List Lv} {top top':List D} {fs fs':List Fr} {σ:St} {E:Ends}
theorem join15 {n:Nat} {b:Kc} {x:Kw} {ps:List D} {tr:List V} {deep:Int} (z:Zq K P6 P7 H2 w l ls top fs) (gr:zT P6 H2) (hb0:∀ x,P7 x->∃ o,H2 x=some o) (s3:zT H2 H) (hσ:σ.length=n) (g6:σ[6]?=some (some (.ref w))) (g9:σ[9]?=some (some (.ref b))) (g3:σ[3]?=some (some (.int deep)))
  (htup:SqT K H b (.str x::tr)) (hps:zr K H (Bq P7 w (l::ls)) ps tr) (alt:Z5 ps=true\/∃ cs:List Kc,ps=cs.map (fun _=>D.lst [])/\tr=cs.map V.ref/\cs.Nodup/\(∀ e∈cs,H2 e=none/\H e=some (.lst []))/\H b=some (.tup (.str x::cs.map V.ref)))
  (hs:addQ deep (.tup (.str x::ps)) top fs=some (top',fs'))
  (k:∀ (l':Lv) (ls':List Lv) (H':Hp),Zq K P6 P7 H' w l' ls' top' fs'->Goes H2 H' (Bq P7 w (l::ls)) (Bq P7 w (l'::ls'))->(∀ e o,H2 e=some o->e∉Yf w (l::ls)->H' e=some o)->(l'::ls').getLast (by simp)=(l::ls).getLast (by simp)->E.nx σ H'):tJoin15 K n E σ H:=by
 unfold addQ at hs
 simp only at hs
 split at hs
 case isFalse=>cases hs
 rename_i hsz
 obtain ⟨wa,wq,aq,wp,ap,qp,pn,ndl,out⟩:=jZ z.nd
 have z3:=z.up s3
 have hw:=z3.whr'
 obtain ⟨hq,hp⟩:=z3.lv l (by simp)
 obtain ⟨vs,hv2,hvs⟩:=z.top
 have hv:=s3 _ _ hv2
 have oa:l.a∈Yf w (l::ls):=Zm.mpr (.inr ⟨l,by simp,.inl rfl⟩)
 have ow:w∈Yf w (l::ls):=Zm.mpr (.inl rfl)
 have hvl:vs.length<Kg:=by rw [hvs.length];exact hsz.1
 refine ⟨.ref w,g6,1,rfl,w,_,-1,.ref l.q,rfl,rfl,.inl (.inl hw),gG,l.q,(l.a::l.ps).map V.ref,0,.ref l.a,rfl,rfl,.inl (.inl hq),zB (j:=0) rfl,.inl ⟨rfl,vs,.inl (.inl hv)⟩,.ref b,g9,l.a,vs,.ref b,rfl,rfl,hv,hvl,?_⟩
 have gadd:Goes H (upd H l.a (.lst (vs++[.ref b]))) (Bq P7 w (l::ls)) (Bq P7 w (l::ls)):=.write (.inr oa) hv trivial
 have tup4:SqT K (upd H l.a (.lst (vs++[.ref b]))) b (.str x::tr):=by
  rcases htup with q | q
  ·exact .inl (gadd.tup _ _ q)
  ·exact .inr q
 have a4:upd H l.a (.lst (vs++[.ref b])) l.a=some (.lst (vs++[.ref b])):=zw
 have n4:∀ e o,H e=some o->e≠l.a->upd H l.a (.lst (vs++[.ref b])) e=some o:=fun e o h n=>by rw [zv n];exact h
 generalize upd H l.a (.lst (vs++[.ref b]))=H4 at *
 have w4:=n4 _ _ hw wa
 refine ⟨.ref b,g9,b,_,0,.str x,rfl,rfl,tup4,zB (j:=0) rfl,by show 2<=Kg;decide,fun e he=>⟨e,jG,rfl,.inr (.inl (.inl zw)),rfl,rfl,inV (.str x) jG,rfl,?_⟩⟩
 have s5:zT H4 (upd H4 e (.tup [.str "either",.str "loop"])):=zG he
 generalize upd H4 e (.tup [V.str "either",V.str "loop"])=H5 at *
 have w5:=s5 _ _ w4
 have a5:=s5 _ _ a4
 have n5:∀ e o,H e=some o->e≠l.a->H5 e=some o:=fun e o h n=>s5 _ _ (n4 e o h n)
 have tup5:SqT K H5 b (.str x::tr):=SqT.same s5 tup4
 have wl:(((ls.reverse.map fun x=>V.ref x.q)++[.ref l.q]):List V).length=fs.length+1:=by
  have:=z.ch.len
  simp only [Qg] at this
  rw [Qd,Ql,List.length_reverse];simp only [Qg,Qy];omega
 have plain:fs'=fs/\top'=top++[.tup (.str x::ps)]->E.nx σ H5:=by
  rintro ⟨rfl,rfl⟩
  have r':Rep K H (Bq P7 w (l::ls)) (.tup (.str x::ps)) (.ref b):=by
   simp only [Rep]
   exact ⟨b,_,rfl,htup,.cons (by simp [Rep]) hps⟩
  refine k l ls H5 (z3.add hv r' a5 n5) (Y6 (O:=fun e=>e=l.a) (fun e o h n=>n5 e o (s3 _ _ h) n) (fun e he=>by rw [he];exact .inr ⟨_,hv2⟩) (fun e xs he _=>.inr (by rw [he];exact oa)) fun e he=>.inl he) (fun e o h n=>n5 e o (s3 _ _ h) fun q=>n (by rw [q];exact oa)) rfl
 by_cases hin:inV (.str x) jG=true
 ·rw [hin]
  refine ifT ?_
  refine ⟨.ref w,g6,w,_,rfl,.inl (.inl (.inl w5)),.int deep,g3,_,deep,rfl,rfl,decide (((((ls.reverse.map fun x=>V.ref x.q)++[.ref l.q]):List V).length:Int)<deep),rfl,?_⟩
  by_cases hd:((fs.length+1:Nat):Int)<deep
  ·rw [wl,KS hd]
   refine ifT ?_
   rw [KQ ⟨hin,hd⟩] at hs
   split at hs
   case isFalse=>cases hs
   rename_i hop
   cases hs
   have pe:=all_emp hop.2
   rcases alt with hfl | ⟨cs,rfl,rfl,hnd,hcs,hb'⟩
   ·exfalso
    cases ps with
    | nil=>simp at hop
    | cons q ps' =>
     have:=pe q (by simp)
     subst this
     simp [D.flat,Z5] at hfl
   ·cases cs with
    | nil=>simp at hop
    | cons c cs =>
     refine ⟨.ref w,g6,.inl ⟨rfl,_,.inl (.inl w5)⟩,?_⟩
     show tRest K n σ H5 (fun x H1=>ZS σ H1 fun xs H2=>yP (.ref w) (x::xs) H2 fun _ H1=>E.nx σ H1)
     refine comp_rest hσ g9 tup5 (by have:=hsz.2.2;simpa using this) fun t e' H6 ht net he' hq' s6=>?_
     refine ⟨w,_,.ref e',rfl,rfl,s6 _ _ w5,by rw [wl];exact JQ (by omega),?_⟩
     have ea:e'≠l.a:=fun q=>by rw [q,a5] at he';cases he'
     have ew:e'≠w:=fun q=>by rw [q,w5] at he';cases he'
     have h2n:∀ y,H5 y=none->H2 y=none:=fun y hy=>by
      cases q:H2 y with
      | none=>rfl
      | some o =>
       by_cases e:y=l.a
       ·rw [e,a5] at hy;cases hy
       ·rw [n5 y o (s3 _ _ q) e] at hy;cases hy
     have ec:∀ y∈c::cs,y≠l.a/\y≠w:=fun y hy=>by
      refine ⟨fun q=>?_,fun q=>?_⟩
      ·have:=(hcs y hy).1;rw [q,hv2] at this;cases this
      ·have:=(hcs y hy).1;rw [q,z.whr] at this;cases this
     have c5:∀ y∈c::cs,H5 y=some (.lst []):=fun y hy=>n5 _ _ (hcs y hy).2 (ec y hy).1
     have eq:∀ y∈c::cs,y≠e':=fun y hy q=>by have:=c5 y hy;rw [q,he'] at this;cases this
     have bl:b≠l.a:=fun q=>by rw [q,hv] at hb';cases hb'
     have bw:b≠w:=fun q=>by rw [q,hw] at hb';cases hb'
     have hn6:∀ y o,H2 y=some o->y≠l.a->y≠w->upd H6 w (.lst (((ls.reverse.map fun x=>V.ref x.q)++[.ref l.q])++[.ref e'])) y=some o:=fun y o h n1 n2=>by rw [zv n2];exact s6 _ _ (n5 _ _ (s3 _ _ h) n1)
     obtain ⟨zp,gp⟩:=z.push (H':=upd H6 w (.lst (((ls.reverse.map fun x=>V.ref x.q)++[.ref l.q])++[.ref e']))) gr hb0 hv2 (b:=b) (q:=e') (c:=c) (x:=x) (cs:=cs) (by
       have hc:=Qx.mp hnd
       refine Qx.mpr ⟨fun q=>?_,Qx.mpr ⟨fun q=>eq e' (Qe _ q) rfl,hc.2⟩⟩
       rcases Qc.mp q with q | q
       ·exact eq c (by simp) q
       ·exact hc.1 q) (fun y hy=>by
       rcases Qc.mp hy with rfl | hy
       ·exact (hcs _ (by simp)).1
       ·rcases Qc.mp hy with rfl | hy
        ·exact h2n _ he'
        ·exact (hcs _ (Qe _ hy)).1)
      (by rw [zv (Ne.symm wa)];exact s6 _ _ a5) (by rw [zv bw];exact s6 _ _ (n5 _ _ hb' bl)) (by rw [zv ew];exact hq') (fun y hy=>by rw [zv (ec y hy).2];exact s6 _ _ (c5 y hy)) (by rw [zw];simp) hn6
     have et:(List.map (fun _=>D.lst []) (c::cs)).tail=cs.map fun _=>D.lst []:=rfl
     rw [et] at k
     exact k _ _ _ zp gp (fun y o h n=>hn6 y o h (fun q=>n (by rw [q];exact oa)) fun q=>n (by rw [q];exact ow)) (by rw [Pw (by simp)])
  ·rw [wl,KU hd]
   refine ifF ?_
   rw [KR (fun q=>hd q.2)] at hs
   cases hs
   exact plain ⟨rfl,rfl⟩
 ·rw [Bool.eq_false_iff.mpr hin]
  refine ifF (ifF ?_)
  rw [KR (fun q=>hin q.1)] at hs
  cases hs
  exact plain ⟨rfl,rfl⟩
end
def popQ (top:List D):List Fr->Option (List D×List Fr)
 | f::fs=>match f.post with
  | []=>some (shut f top,fs)
  | _::ps=>some ([],⟨f.done,f.x,f.pre++[.lst top],ps⟩::fs)
 | []=>none
def evQ (ρ:Ev) (u:Int):Ev:=(((((ρ.set 5 none).set 6 none).set 9 none).set 10 none).set 8 none).set 7 (some (.int u))
def isRowT:D->Bool
 | .tup (.str _::_)=>true
 | _=>false
def stepQ (deep KN:Int) (ρ:Ev) (f c1 c2:Ev->Option D) (c:Int) (top:List D) (fs:List Fr) (u:Int):Option ((List D×List Fr)×Int) :=
 if c % 8=0/\0<fs.length then (popQ top fs).map fun r=>(r,u)
 else (f ((evQ ρ u).set 8 (some (.int c)))).bind fun d=>if isRowT d=true then (c1 (((evQ ρ u).set 8 (some (.int c))).set 9 (some d))).bind fun k1=>(c2 ((((evQ ρ u).set 8 (some (.int c))).set 9 (some d)).set 10 (some k1))).bind fun k2=>(asI k2).bind fun k =>
  if u+k<=KN then (addQ deep d top fs).map fun r=>(r,u+k) else some ((top,fs),u)
  else none
def goQ (deep KN:Int) (ρ:Ev) (f c1 c2:Ev->Option D):List Int->List D->List Fr->Int->Option (List D×Int)
 | [],top,fs,u=>some (ZF top fs,u)
 | c::cs,top,fs,u=>(stepQ deep KN ρ f c1 c2 c top fs u).bind fun r=>goQ deep KN ρ f c1 c2 cs r.1.1 r.1.2 r.2
abbrev tc8 (K:KC):TT:=tAnd (YI (tOp rEq (tOp (rI (fun _ j=>0<j) fun i j=>.int (i % j)) (ZA 8) (tC (.int 8))) (tC (.int 0)))) (YI (tOp (rI0 fun i j=>.bl (decide (j<i))) (tCB (lenR K) (zW (ZA 6) ZS)) (tC (.int 1))))
abbrev tSum15:TE:=tOp (rI0 fun i j=>.int (i+j)) (ZA 7) (ZA 10)
abbrev tCell15 (K:KC) (n:Nat) (te tk1 tk2:TE):TS:=tIfS (tc8 K) (tPopB K) (y9 (yJ te (ZM 9)) (y9 (yJ tk1 (ZM 10)) (y9 (yJ tk2 (ZM 10)) (tIfS (YI (tOp (rI0 fun i j=>.bl (decide (i<=j))) tSum15 (ZA 4))) (y9 (yJ tSum15 (ZM 7)) (tJoin15 K n)) wN))))
theorem md_sub {K:KC} {P6 H:Hp} {B:Kc->Prop} {σ:St} {ρ ρ':Ev} (m:Md K P6 B [] σ H ρ) (hl:ρ'.length=ρ.length) (h:∀ (i:Nat) d,ρ'[i]?=some (some d)->ρ[i]?=some (some d)):Md K P6 B [] σ H ρ' :=
 ⟨m.grow,m.blk,by rw [hl];exact m.len,fun i d q n=>m.sh i d (h i d q) n,fun i hi=>(by cases hi),fun i j a hi=>by cases hi⟩
structure St15 (K:KC) (H:Hp) (P7:Kc->Prop) (ρ:Ev) (p:Kc) (top:List D) (fs:List Fr) (u:Int) (r:Kc) (σ':St) (H':Hp):Prop where
 ex:∃ (w:Kc) (l:Lv) (ls:List Lv),Md K H (Bq P7 w (l::ls)) [] σ' H' (evQ ρ u)/\Zq K H P7 H' w l ls top fs/\σ'[6]?=some (some (.ref w))/\((l::ls).getLast (by simp)).a=r/\σ'[5]?=some (some (.ref r))/\σ'[0]?=some (some (.ref p))
section
variable {K:KC} {te tk1 tk2:TE} {f c1 c2:Ev->Option D} {H:Hp} {P7:Kc->Prop} {ρ:Ev} {p r:Kc} {top top':List D} {fs fs':List Fr} {c u u' deep KN:Int} {N:St->Hp->Prop} {E:Ends}
theorem bq_le {w:Kc} {l:Lv} {ls:List Lv} {H':Hp} (hb:∀ x,P7 x->∃ o,H' x=some o) (z:Zq K H P7 H' w l ls top fs):∀ x,Bq P7 w (l::ls) x->∃ o,H' x=some o:=fun x h=>by
 rcases h with h | h
 ·exact hb x h
 ·obtain ⟨xs,q⟩:=z.lists x h;exact ⟨_,q⟩
theorem Yk:(evQ ρ u).length=ρ.length:=by unfold evQ;simp
theorem JA {i:Nat} (h:i≠5/\i≠6/\i≠7/\i≠8/\i≠9/\i≠10):(evQ ρ u)[i]?=ρ[i]?:=by
 unfold evQ
 rw [zd h.2.2.1,zd h.2.2.2.1,zd h.2.2.2.2.2,zd h.2.2.2.2.1,zd h.2.1,zd h.1]
theorem evQ_no {i:Nat} (h:i=5\/i=6\/i=8\/i=9\/i=10) {d:D}:(evQ ρ u)[i]?≠some (some d):=by
 unfold evQ
 intro q
 rw [zd (by omega)] at q
 by_cases h8:i=8
 ·subst h8;have:=yS q;cases this
 ·rw [zd h8] at q
  by_cases h10:i=10
  ·subst h10;have:=yS q;cases this
  ·rw [zd h10] at q
   by_cases h9:i=9
   ·subst h9;have:=yS q;cases this
   ·rw [zd h9] at q
    by_cases h6:i=6
    ·subst h6;have:=yS q;cases this
    ·rw [zd h6] at q
     have h5:i=5:=by omega
     subst h5;have:=yS q;cases this
theorem Wv {ρ':Ev} {u':Int} (hl:ρ'.length=ρ.length) (h7:ρ'[7]?=some (some (.int u'))) (h:∀ i,i≠5/\i≠6/\i≠7/\i≠8/\i≠9/\i≠10->ρ'[i]?=ρ[i]?):∀ (i:Nat) d,(evQ ρ u')[i]?=some (some d)->ρ'[i]?=some (some d):=fun i d q=>by
 by_cases h1:i=5\/i=6\/i=8\/i=9\/i=10
 ·exact absurd q (evQ_no h1)
 ·by_cases hi:i=7
  ·subst hi
   have:(evQ ρ u')[7]?=some (some (.int u')):=by
    unfold evQ
    rw [QN]
    have:=(Qm.mp h7).1
    simp only [Qo];omega
   rw [this] at q;cases q;exact h7
  ·rw [h i (by omega),<- JA (ρ:=ρ) (u:=u') (by omega)];exact q
theorem cell15 (hrow:∀ (P6:Hp) (P7:Kc->Prop) (σ:St) (H:Hp) (ρ:Ev) (d:D) (Q:VK),Md K P6 P7 [] σ H ρ->f ρ=some d->(∀ v H',zT H H'->FR K H H' P7 d v->Q v H')->te σ H Q)
  (hk1:∀ (P6:Hp) (P7:Kc->Prop) (σ:St) (H:Hp) (ρ:Ev) (d:D) (Q:VK),Md K P6 P7 [] σ H ρ->c1 ρ=some d->(∀ v H',zT H H'->Rep K H' P7 d v->Q v H')->tk1 σ H Q)
  (hk2:∀ (P6:Hp) (P7:Kc->Prop) (σ:St) (H:Hp) (ρ:Ev) (d:D) (Q:VK),Md K P6 P7 [] σ H ρ->c2 ρ=some d->(∀ v H',zT H H'->Rep K H' P7 d v->Q v H')->tk2 σ H Q)
  {n:Nat} (hn:ρ.length=n) (hn2:10<n) (hb0:∀ x,P7 x->∃ o,H x=some o) (h3:ρ[3]?=some (some (.int deep))) (h4:ρ[4]?=some (some (.int KN)))
  {w:Kc} {l:Lv} {ls:List Lv} {σ:St} {H2:Hp} (md:Md K H (Bq P7 w (l::ls)) [] σ H2 ((evQ ρ u).set 8 (some (.int c)))) (z:Zq K H P7 H2 w l ls top fs) (g6:σ[6]?=some (some (.ref w))) (gr:((l::ls).getLast (by simp)).a=r) (g5:σ[5]?=some (some (.ref r))) (g0:σ[0]?=some (some (.ref p)))
  (hs:stepQ deep KN ρ f c1 c2 c top fs u=some ((top',fs'),u')) (hN:∀ σ' H',St15 K H P7 ρ p top' fs' u' r σ' H'->N σ' H') :
  tCell15 K n te tk1 tk2 { E with nx:=N,ct:=N } σ H2:=by
 have hlen:σ.length=n:=by rw [md.len,Qo,Yk,hn]
 have slot:∀ (i:Nat) (j:Int),((evQ ρ u).set 8 (some (.int c)))[i]?=some (some (.int j))->σ[i]?=some (some (.int j)):=fun i j q=>by
  obtain ⟨v,h1,h2⟩:=md.sh i _ q (by simp)
  simp only [Rep] at h2
  rw [h2] at h1;exact h1
 have s8:σ[8]?=some (some (.int c)):=slot 8 c (QN (by rw [Yk];omega))
 have e7:(evQ ρ u)[7]?=some (some (.int u)):=by unfold evQ;rw [QN (by simp only [Qo];omega)]
 have s7:σ[7]?=some (some (.int u)):=slot 7 u (by rw [zd (by decide)];exact e7)
 have s3':σ[3]?=some (some (.int deep)):=slot 3 deep (by rw [zd (by decide),JA (by decide)];exact h3)
 have s4':σ[4]?=some (some (.int KN)):=slot 4 KN (by rw [zd (by decide),JA (by decide)];exact h4)
 have wl:(((ls.reverse.map fun x=>V.ref x.q)++[.ref l.q]):List V).length=fs.length+1:=by
  have:=z.ch.len
  simp only [Qg] at this
  rw [Qd,Ql,List.length_reverse];simp only [Qg,Qy];omega
 have other:¬ (c % 8=0/\0<fs.length)->y9 (yJ te (ZM 9)) (y9 (yJ tk1 (ZM 10)) (y9 (yJ tk2 (ZM 10)) (tIfS (YI (tOp (rI0 fun i j=>.bl (decide (i<=j))) tSum15 (ZA 4))) (y9 (yJ tSum15 (ZM 7)) (tJoin15 K n)) wN))) { E with nx:=N,ct:=N } σ H2:=fun hno=>by
  unfold stepQ at hs
  rw [KR hno] at hs
  obtain ⟨d,hd,hs1⟩:=zc hs
  split at hs1
  case isFalse=>cases hs1
  rename_i hrt
  obtain ⟨k1,hk1',hs2⟩:=zc hs1
  obtain ⟨k2,hk2',hs3⟩:=zc hs2
  obtain ⟨k,hk',hs4⟩:=zc hs3
  clear hs hs1 hs2 hs3
  have ek2:k2=.int k:=by cases k2 <;> simp only [asI] at hk' <;> cases hk';rfl
  subst ek2
  refine hrow _ _ σ H2 _ d _ md hd fun v H3 s3 fr=>?_
  have md3:=md.up s3
  obtain ⟨x,ps,rfl⟩:∃ x ps,d=.tup (.str x::ps):=by
   unfold isRowT at hrt
   split at hrt
   ·exact ⟨_,_,rfl⟩
   ·cases hrt
  obtain ⟨b,tr,rfl,htup,hps,alt⟩:∃ (b:Kc) (tr:List V),v=.ref b/\SqT K H3 b (.str x::tr)/\zr K H3 (Bq P7 w (l::ls)) ps tr/\(Z5 ps=true\/∃ cs:List Kc,ps=cs.map (fun _=>D.lst [])/\tr=cs.map V.ref/\cs.Nodup/\(∀ e∈cs,H2 e=none/\H3 e=some (.lst []))/\H3 b=some (.tup (.str x::cs.map V.ref))):=by
   rcases fr with ⟨_,q,_,_,_,hw⟩ | ⟨hfl,rep⟩ | ⟨b',x',cs,eb,ed,hnd,hls,hb'⟩
   ·cases q <;> simp only [Own] at hw
   ·simp only [Rep] at rep
    obtain ⟨b,ts,rfl,htup,hts⟩:=rep
    simp only [zr] at hts
    obtain ⟨tx,tr,rfl,hx,hps⟩:=hts
    simp only [Rep] at hx
    subst hx
    exact ⟨b,tr,rfl,htup,hps,.inl (by simpa [D.flat,Z5] using hfl)⟩
   ·cases ed
    exact ⟨b',_,eb,.inl (.inl hb'),JT md.blk hls,.inr ⟨cs,rfl,rfl,hnd,hls,hb'⟩⟩
  have rd:Rep K H3 (Bq P7 w (l::ls)) (.tup (.str x::ps)) (.ref b):=by
   simp only [Rep]
   exact ⟨b,_,rfl,htup,.cons (by simp [Rep]) hps⟩
  have md9:Md K H (Bq P7 w (l::ls)) [] (σ.set 9 (some (.ref b))) H3 (((evQ ρ u).set 8 (some (.int c))).set 9 (some (.tup (.str x::ps)))):=md3.put (os':=[]) (fun _ z=>nomatch z) (fun _ z=>nomatch z) (by rw [yT];exact rd)
  refine hk1 _ _ _ H3 _ k1 _ md9 hk1' fun v1 H4 s4 r1=>?_
  have md10:=(md9.up s4).put (i:=10) (os':=[]) (v:=v1) (d:=k1) (fun _ z=>nomatch z) (fun _ z=>nomatch z) (by rw [yT];exact r1)
  refine hk2 _ _ _ H4 _ _ _ md10 hk2' fun v2 H5 s5 r2=>?_
  simp only [Rep] at r2
  subst r2
  have x7:((((σ.set 9 (some (.ref b))).set 10 (some v1)).set 10 (some (.int k))):St)[7]?=some (some (.int u)):=by rw [zd (by decide),zd (by decide),zd (by decide)];exact s7
  have x4:((((σ.set 9 (some (.ref b))).set 10 (some v1)).set 10 (some (.int k))):St)[4]?=some (some (.int KN)):=by rw [zd (by decide),zd (by decide),zd (by decide)];exact s4'
  have x10:((((σ.set 9 (some (.ref b))).set 10 (some v1)).set 10 (some (.int k))):St)[10]?=some (some (.int k)):=zH (by simp only [Qo];omega)
  refine ⟨.int u,x7,.int k,x10,u,k,rfl,rfl,.int KN,x4,u+k,KN,rfl,rfl,decide (u+k<=KN),rfl,?_⟩
  have s35:zT H2 H5:=s3.trans (s4.trans s5)
  by_cases hm:u+k<=KN
  ·rw [KS hm]
   refine ifT ?_
   rw [KQ hm] at hs4
   obtain ⟨rr,ha,e⟩:=map_some hs4
   cases e
   refine ⟨.int u,x7,.int k,x10,u,k,rfl,rfl,?_⟩
   have s45:zT H3 H5:=s4.trans s5
   refine join15 z md.grow (fun y hy=>md.blk y (.inl hy)) s35 (by simp only [Qo];exact hlen) (by rw [zd (by decide),zd (by decide),zd (by decide),zd (by decide)];exact g6) (by rw [zd (by decide),zd (by decide),zd (by decide)];exact zH (by omega)) (by rw [zd (by decide),zd (by decide),zd (by decide),zd (by decide)];exact s3') (SqT.same s45 htup) (hps.up s45) ?_ ha fun l' ls' H' zq gq keep hlast=>?_
   ·rcases alt with h | ⟨cs,a1,a2,a3,a4,a5⟩
    ·exact .inl h
    ·exact .inr ⟨cs,a1,a2,a3,fun e he=>⟨(a4 e he).1,s45 _ _ (a4 e he).2⟩,s45 _ _ a5⟩
   ·have grow:zT H H':=fun y o q=>keep y o (md.grow _ _ q) fun hm=>by rw [(z.new y hm).1] at q;cases q
    have m0:=md.go gq grow (bq_le (fun y hy=>by obtain ⟨o,q⟩:=hb0 y hy;exact ⟨o,grow _ _ q⟩) zq)
    have m1:=((((m0.forget (i:=9) (v:=some (.ref b)) (by simp)).forget (i:=10) (v:=some v1) (by simp)).forget (i:=10) (v:=some (.int k)) (by simp)).put (i:=7) (os':=[]) (v:=.int (u+k)) (d:=.int (u+k)) (fun _ z=>nomatch z) (fun _ z=>nomatch z) (by simp [Rep]))
    have m2:=md_sub m1 (ρ':=evQ ρ (u+k)) (by simp only [Qo,Yk]) (Wv (by simp only [Qo,Yk]) (QN (by simp only [Qo,Yk];omega)) fun i hi=>by
     rw [zd hi.2.2.1,zd hi.2.2.2.2.2,zd hi.2.2.2.2.2,zd hi.2.2.2.2.1,zd hi.2.2.2.1];exact JA hi)
    exact hN _ _ ⟨w,l',ls',m2,zq,by rw [zd (by decide),zd (by decide),zd (by decide),zd (by decide)];exact g6,by rw [hlast];exact gr,by rw [zd (by decide),zd (by decide),zd (by decide),zd (by decide)];exact g5,by rw [zd (by decide),zd (by decide),zd (by decide),zd (by decide)];exact g0⟩
  ·rw [KU hm]
   refine ifF ?_
   rw [KR hm] at hs4
   cases hs4
   have m1:=(md10.up s5).put (i:=10) (os':=[]) (v:=.int k) (d:=.int k) (fun _ z=>nomatch z) (fun _ z=>nomatch z) (by simp [Rep])
   have m2:=md_sub m1 (ρ':=evQ ρ u) (by simp only [Qo,Yk]) (Wv (by simp only [Qo,Yk]) (by rw [zd (by decide),zd (by decide),zd (by decide),zd (by decide)];exact e7) fun i hi=>by
    rw [zd hi.2.2.2.2.2,zd hi.2.2.2.2.2,zd hi.2.2.2.2.1,zd hi.2.2.2.1];exact JA hi)
   exact hN _ _ ⟨w,l,ls,m2,z.up s35,by rw [zd (by decide),zd (by decide),zd (by decide)];exact g6,gr,by rw [zd (by decide),zd (by decide),zd (by decide)];exact g5,by rw [zd (by decide),zd (by decide),zd (by decide)];exact g0⟩
 refine ⟨_,s8,c,8,rfl,rfl,(show (0:Int)<8 by decide),rfl,decide (c % 8=0),by rw [show (decide (V.int (c % 8)=V.int 0))=decide (c % 8=0) by simp],?_⟩
 by_cases h8:c % 8=0
 ·rw [KS h8]
  refine ifT ?_
  refine ⟨.ref w,g6,w,_,rfl,.inl (.inl (.inl z.whr')),_,1,rfl,rfl,decide ((1:Int)<(((ls.reverse.map fun x=>V.ref x.q)++[.ref l.q]):List V).length),rfl,?_⟩
  cases fs with
  | nil =>
   rw [KU (by rw [wl];simp)]
   refine ifF ?_
   exact other fun q=>absurd q.2 (by simp)
  | cons f0 fs0 =>
   rw [KS (by rw [wl];simp;omega)]
   refine ifT ?_
   unfold stepQ at hs
   rw [KQ ⟨h8,by simp⟩] at hs
   obtain ⟨rr,hp,e⟩:=map_some hs
   cases e
   cases ls with
   | nil=>exact absurd z.ch.len (by simp)
   | cons l1 ls1 =>
    have hpost:f0.post=l.ps.map fun _=>D.lst []:=by
     obtain ⟨⟨_,_,_,_,_,_,_,q5⟩,_⟩:=z.ch
     exact q5
    have fin:∀ (l':Lv) (ls':List Lv) (H':Hp),Zq K H P7 H' w l' ls' top' fs'->Goes H2 H' (Bq P7 w (l::l1::ls1)) (Bq P7 w (l'::ls'))->(∀ e o,H2 e=some o->e∉Yf w (l::l1::ls1)->H' e=some o)->(l'::ls').getLast (by simp)=(l::l1::ls1).getLast (by simp)->N σ H':=fun l' ls' H' zq gq keep hlast=>by
     have grow:zT H H':=fun y o q=>keep y o (md.grow _ _ q) fun hm=>by rw [(z.new y hm).1] at q;cases q
     have m0:=md.go gq grow (bq_le (fun y hy=>by obtain ⟨o,q⟩:=hb0 y hy;exact ⟨o,grow _ _ q⟩) zq)
     have m2:=md_sub m0 (ρ':=evQ ρ u) (by simp only [Qo,Yk]) (Wv (by simp only [Qo,Yk]) (by rw [zd (by decide)];exact e7) fun i hi=>by
      rw [zd hi.2.2.2.1];exact JA hi)
     exact hN _ _ ⟨w,l',ls',m2,zq,g6,by rw [hlast];exact gr,g5,g0⟩
    refine pop15 z g6 (fun p' ps' H' hps zq gq keep=>?_) (fun l' ls' H' hls hps zq gq keep=>?_)
    ·unfold popQ at hp
     simp only [hpost,hps,Qq] at hp
     cases hp
     exact fin _ _ H' zq gq keep ((Pw (by simp)).trans (Pw (by simp)).symm)
    ·cases hls
     unfold popQ at hp
     simp only [hpost,hps,Po] at hp
     cases hp
     exact fin _ _ H' zq gq keep (Pw (by simp)).symm
 ·rw [KU h8]
  refine ifF (ifF ?_)
  exact other fun q=>h8 q.1
end
def mB15 (f c1 c2:Ev->Option D):Ev->Option Out:=fun ρ=>((ρ[0]?.join).bind asL).bind fun ds=>(J1 ds).bind fun cs=>((ρ[3]?.join).bind asI).bind fun deep=>((ρ[4]?.join).bind asI).bind fun KN =>
 if ρ.length=11 then (goQ deep KN ρ f c1 c2 cs [] [] 0).map fun r=>.rt (.tup [.lst r.1,.int r.2]) else none
abbrev tB15 (K:KC) (te tk1 tk2:TE):TS:=y9 (yJ (tLst ZS) (ZM 5)) (y9 (yJ (tLst (zW (tLst (zW (ZA 5) ZS)) ZS)) (ZM 6)) (y9 (yJ (tC (.int 0)) (ZM 7)) (y9 (tFor (iList K (ZA 0)) (ZM 8) (tCell15 K 11 te tk1 tk2)) (WH (tTup (zW (ZA 5) (zW (ZA 7) ZS)))))))
section
variable {K:KC} {te tk1 tk2:TE} {f c1 c2:Ev->Option D}
theorem sok_b15 {ol:List Nat} (hrow:∀ (P6:Hp) (P7:Kc->Prop) (σ:St) (H:Hp) (ρ:Ev) (d:D) (Q:VK),Md K P6 P7 [] σ H ρ->f ρ=some d->(∀ v H',zT H H'->FR K H H' P7 d v->Q v H')->te σ H Q)
  (hk1:∀ (P6:Hp) (P7:Kc->Prop) (σ:St) (H:Hp) (ρ:Ev) (d:D) (Q:VK),Md K P6 P7 [] σ H ρ->c1 ρ=some d->(∀ v H',zT H H'->Rep K H' P7 d v->Q v H')->tk1 σ H Q)
  (hk2:∀ (P6:Hp) (P7:Kc->Prop) (σ:St) (H:Hp) (ρ:Ev) (d:D) (Q:VK),Md K P6 P7 [] σ H ρ->c2 ρ=some d->(∀ v H',zT H H'->Rep K H' P7 d v->Q v H')->tk2 σ H Q):SOk K false [] [] ol (tB15 K te tk1 tk2) (mB15 f c1 c2):=by
 intro P6 P7 σ H ρ o E mm q k
 obtain ⟨ds,q1,q2⟩:=zc q
 obtain ⟨x0,q3,q4⟩:=zc q1
 obtain ⟨cs,q5,q6⟩:=zc q2
 obtain ⟨deep,q8,q9⟩:=zc q6
 obtain ⟨y3,q10,q11⟩:=zc q8
 obtain ⟨KN,q12,q13⟩:=zc q9
 obtain ⟨y4,q14,q15⟩:=zc q12
 split at q13
 case isFalse=>cases q13
 rename_i hlen
 obtain ⟨res,q7,rfl⟩:=map_some q13
 have e3:y3=.int deep:=by cases y3 <;> simp only [asI] at q11 <;> cases q11;rfl
 have e4:y4=.int KN:=by cases y4 <;> simp only [asI] at q15 <;> cases q15;rfl
 subst e3 e4
 cases x0 <;> simp only [asL] at q4 <;> cases q4
 have eds:=W2 q5
 subst eds
 obtain ⟨v0,h0,r0⟩:=mm.sh 0 _ (Yz q3) (by simp)
 simp only [Rep] at r0
 obtain ⟨p,xs0,rfl,hl0,hr0⟩:=r0
 have e0:=hr0.ints'
 subst e0
 have hσ:σ.length=11:=by rw [mm.len];exact hlen
 have mb:=mm.base
 refine ⟨by show 0<=Kg;decide,fun a ha=>?_⟩
 have s1:zT H (upd H a (.lst [])):=zG ha
 refine ⟨.ref a,zH (by rw [hσ];decide),by show 1<=Kg;decide,fun qa hqa=>⟨by show 1<=Kg;decide,fun w hw=>?_⟩⟩
 have qne:qa≠a:=fun e=>by rw [e,zw] at hqa;cases hqa
 have s2:zT (upd H a (.lst [])) (upd (upd H a (.lst [])) qa (.lst [.ref a])):=zG hqa
 have wq:w≠qa:=fun e=>by rw [e,zw] at hw;cases hw
 have wa:w≠a:=fun e=>by rw [e,zv (Ne.symm qne),zw] at hw;cases hw
 have s3:zT (upd (upd H a (.lst [])) qa (.lst [.ref a])) (upd (upd (upd H a (.lst [])) qa (.lst [.ref a])) w (.lst [.ref qa])):=zG hw
 have hqH:H qa=none:=s1.free hqa
 have hwH:H w=none:=s1.free (s2.free hw)
 have nB:∀ y,H y=none->¬ P7 y:=fun y hy hb=>by obtain ⟨u,qu⟩:=mm.blk y hb;rw [hy] at qu;cases qu
 have a3:upd (upd (upd H a (.lst [])) qa (.lst [.ref a])) w (.lst [.ref qa]) a=some (.lst []):=by rw [zv (Ne.symm wa),zv (Ne.symm qne),zw]
 have q3':upd (upd (upd H a (.lst [])) qa (.lst [.ref a])) w (.lst [.ref qa]) qa=some (.lst [.ref a]):=by rw [zv (Ne.symm wq),zw]
 have w3:upd (upd (upd H a (.lst [])) qa (.lst [.ref a])) w (.lst [.ref qa]) w=some (.lst [.ref qa]):=zw
 have s13:=s1.trans (s2.trans s3)
 generalize upd (upd (upd H a (.lst [])) qa (.lst [.ref a])) w (.lst [V.ref qa])=H3 at *
 have own3:∀ y∈Yf w [⟨a,qa,[]⟩],H y=none:=fun y hy=>by
  rcases Zm.mp hy with rfl | ⟨v,hv,h⟩
  ·exact hwH
  ·rw [Qs.mp hv] at h
   rcases h with rfl | rfl | h
   ·exact ha
   ·exact hqH
   ·cases h
 have z0:Zq K H P7 H3 w ⟨a,qa,[]⟩ [] [] []:=by
  refine ⟨w3,⟨[],a3,.nil⟩,fun v hv=>?_,trivial,?_,fun y hy=>⟨own3 y hy,nB y (own3 y hy)⟩⟩
  ·rw [Qs.mp hv];exact ⟨q3',fun p hp=>by cases hp⟩
  ·simp [Yf,Lv.own,wa,wq,Ne.symm qne]
 have g13:Goes H H3 P7 (Bq P7 w [⟨a,qa,[]⟩]):=Y6 (O:=fun _=>False) (fun e o h _=>s13 _ _ h) (fun e z=>z.elim) (fun e xs z=>z.elim) (fun e he=>by
  rcases he with he | he
  ·exact .inl he
  ·exact .inr (own3 e he))
 have m2:Md K H (Bq P7 w [⟨a,qa,[]⟩]) [] (((σ.set 5 (some (.ref a))).set 6 (some (.ref w))).set 7 (some (.int 0))) H3 (evQ ρ 0):=by
  have m:=mb.go g13 s13 (bq_le (fun y hy=>by obtain ⟨u,qu⟩:=mm.blk y hy;exact ⟨u,s13 _ _ qu⟩) z0)
  have m1:=((m.forget (i:=5) (v:=some (.ref a)) (by simp)).forget (i:=6) (v:=some (.ref w)) (by simp)).put (i:=7) (os':=[]) (v:=.int 0) (d:=.int 0) (fun _ z=>nomatch z) (fun _ z=>nomatch z) (by simp [Rep])
  exact md_sub m1 (by simp only [Qo,Yk]) (Wv (by simp only [Qo]) (QN (by simp only [Qo];omega)) fun i hi=>by
   rw [zd hi.2.2.1,zd hi.2.1,zd hi.1])
 have st0:St15 K H P7 ρ p [] [] 0 a (((σ.set 5 (some (.ref a))).set 6 (some (.ref w))).set 7 (some (.int 0))) H3:=by
  refine ⟨w,⟨a,qa,[]⟩,[],m2,z0,?_,rfl,?_,?_⟩
  ·rw [zd (by decide)];exact zH (by simp [hσ])
  ·rw [zd (by decide),zd (by decide)];exact zH (by rw [hσ];decide)
  ·rw [zd (by decide),zd (by decide),zd (by decide)];exact h0
 have e00:∀ u,(evQ ρ u)[0]?=some (some (.lst (cs.map .int))):=fun u=>by
  rw [JA (by decide)];exact Yz q3
 have cells:∀ {top fs u σ' H'},St15 K H P7 ρ p top fs u a σ' H'->SqL K H' p (cs.map V.int):=fun {top fs u σ' H'} st=>by
  obtain ⟨w',l',ls',md,-,-,-,-,g0⟩:=st.ex
  obtain ⟨v,u1,u2⟩:=md.sh 0 _ (e00 u) (by simp)
  rw [g0] at u1;cases u1
  simp only [Rep] at u2
  obtain ⟨p',xs,ep,hl,hr⟩:=u2
  cases ep
  rw [hr.ints'] at hl
  exact hl.sq
 have h0':((((σ.set 5 (some (V.ref a))).set 6 (some (.ref w))).set 7 (some (.int 0))):St)[0]?=some (some (.ref p)):=by
  rw [zd (by decide),zd (by decide),zd (by decide)];exact h0
 refine ⟨.ref p,h0',p,rfl,⟨_,cells st0⟩,?_⟩
 refine ⟨fun i n σ' H'=>n=cs.length - i/\i<=cs.length/\∃ top fs u,St15 K H P7 ρ p top fs u a σ' H'/\goQ deep KN ρ f c1 c2 (cs.drop i) top fs u=some res,⟨cs.length,by simp,Q4 _,[],[],0,st0,by simpa using q7⟩,?_⟩
 rintro i n σ' H' ⟨rfl,hile,top,fs,u,st,hg⟩
 have hc:=cells st
 by_cases hlt:i<cs.length
 ·right
  rw [Pr hlt] at hg
  simp only [goQ] at hg
  obtain ⟨⟨⟨top',fs'⟩,u'⟩,r3,r4⟩:=zc hg
  refine ⟨⟨_,.int cs[i],hc,by simp [hlt]⟩,fun σ2 H3=>St15 K H P7 ρ p top' fs' u' a σ2 H3,fun σ2 H3 st2=>⟨cs.length - (i+1),by omega,rfl,hlt,top',fs',u',st2,r4⟩,fun x H3 y=>?_⟩
  obtain ⟨rfl,hy⟩:=y
  have hx:=hy _ hc
  rw [QE,Qz hlt] at hx
  cases hx
  obtain ⟨w',l',ls',md,zp,g6,gl,g5,g0⟩:=st.ex
  have md2:=md.put (i:=8) (os':=[]) (v:=.int cs[i]) (d:=.int cs[i]) (fun _ z=>nomatch z) (fun _ z=>nomatch z) (by simp [Rep])
  exact cell15 (E:={ nx:=fun _ _=>True,rt:=E.rt,bk:=WH (tTup (zW (ZA 5) (zW (ZA 7) ZS))) E,ct:=fun _ _=>True }) hrow hk1 hk2 hlen (by decide) mm.blk (Yz q10) (Yz q14) md2 zp (by rw [zd (by decide)];exact g6) gl (by rw [zd (by decide)];exact g5) (by rw [zd (by decide)];exact g0) r3 fun σ2 H4 h=>h
 ·left
  have hi:i=cs.length:=by omega
  subst hi
  rw [Pq] at hg
  cases hg
  refine ⟨⟨_,hc,by simp⟩,?_⟩
  obtain ⟨w',l',ls',md,zp,g6,gl,g5,g0⟩:=st.ex
  have s7:σ'[7]?=some (some (.int u)):=by
   obtain ⟨v,h1,h2⟩:=md.sh 7 (.int u) (by unfold evQ;rw [QN (by simp only [Qo];omega)]) (by simp)
   simp only [Rep] at h2
   rw [h2] at h1;exact h1
  refine ⟨.ref a,g5,.int u,s7,by show 2<=Kg;decide,fun t ht=>?_⟩
  have st':zT H' (upd H' t (.tup [.ref a,.int u])):=zG ht
  have hr:=zp.root
  rw [gl] at hr
  refine k _ _ ((mm.grow.trans md.grow).trans st') (fun y hy=>by obtain ⟨o,q⟩:=md.blk y (.inl hy);exact ⟨o,st' _ _ q⟩) ?_
  simp only [Rep]
  exact ⟨t,_,rfl,.inl (.inl zw),.cons (hr.up st') (.cons (by simp [Rep]) .nil)⟩
end
theorem sss_b15 {X:Cx} {ol:List Nat} {s1 s2 s3 s5:Kx} {a Zc:List Kx} {tg it t9 t10 t11 c8:Kv} {p9 p10 p11 pi pf:KB} {te tk1 tk2:TE} {f c1 c2:Ev->Option D} {er e1 e2:Kv} (hr:SR X true [] er te f) (h1:SE X true [] e1 tk1 c1) (h2:SE X true [] e2 tk2 c2)
  (hp:PE X er te->PE X e1 tk1->PE X e2 tk2->PSs X [s1,s2,s3,.For tg it [.If c8 a (.Assign [t9] er p9::.Assign [t10] e1 p10::.Assign [t11] e2 p11::Zc) pi] [] pf,s5] (tB15 X.K te tk1 tk2)) :
  SSs X false [] [] ol [s1,s2,s3,.For tg it [.If c8 a (.Assign [t9] er p9::.Assign [t10] e1 p10::.Assign [t11] e2 p11::Zc) pi] [] pf,s5] (tB15 X.K te tk1 tk2) (mB15 f c1 c2):=by
 have e:∀ (P7:Kc->Prop) (σ:St),BB true P7 [] σ=P7:=fun P7 σ=>yT
 exact ⟨hp hr.pe h1.pe h2.pe,sok_b15 (fun P6 P7 σ H ρ d Q md hf k=>hr.ok P6 P7 σ H ρ d Q md hf fun v H' s fr=>k v H' s (by rw [e] at fr;exact fr)) (fun P6 P7 σ H ρ d Q md hf k=>h1.ok P6 P7 σ H ρ d Q md hf fun v H' s fr=>k v H' s (by rw [e] at fr;exact fr)) (fun P6 P7 σ H ρ d Q md hf k=>h2.ok P6 P7 σ H ρ d Q md hf fun v H' s fr=>k v H' s (by rw [e] at fr;exact fr))⟩
structure Kd where
 hd:KC->Hp->(Kc->Prop)->(Kc->Prop)->Kc->List D->Prop
 mtb:∀ {K:KC} {H:Hp} {B P:Kc->Prop} {h:Kc} {S:List D},hd K H B P h S->∀ b,P b->∃ o,H b=some o/\Mut (some o)
 goes:∀ {K:KC} {H H':Hp} {B B' P:Kc->Prop} {h:Kc} {S:List D},hd K H B P h S->Goes H H' B B'->(∀ b o,P b->H b=some o->H' b=some o)->hd K H' B' P h S
def kL:Kd where
 hd K H B P h S:=(∀ b,P b↔b=h)/\∃ hs,H h=some (.lst hs)/\zr K H B S hs
 mtb:=fun ⟨p,hs,e,_⟩ b hb=>⟨.lst hs,by rw [(p b).1 hb];exact e,trivial⟩
 goes:=fun ⟨p,hs,e,r⟩ g k=>⟨p,hs,k _ _ ((p _).2 rfl) e,zr.goes g _ _ r⟩
section
variable {K:KC} {κ:Kd} {P6 H H':Hp} {P7 P:Kc->Prop} {os:List Nat} {σ:St} {ρ:Ev} {h:Kc} {i:Nat} {S S':List D}
theorem Ye {B B' P:Kc->Prop} (h1:∀ e o,H e=some o->¬ P e->H' e=some o) (hm:∀ e o,P e->H e=some o->Mut (some o)) (hP:∀ e,P e->B e) (hB:∀ e,B' e->B e\/H e=none):Goes H H' B B':=by
 have nm:∀ e o,H e=some o->¬ Mut (some o)->H' e=some o:=fun e o q n=>h1 _ _ q fun z=>n (hm _ _ z q)
 have nb:∀ e o,H e=some o->¬ B e->H' e=some o/\¬ B' e:=fun e o q n=>⟨h1 _ _ q fun z=>n (hP _ z),fun z=>(hB e z).elim n fun z=>by rw [q] at z;cases z⟩
 refine ⟨fun a xs q=>?_,fun a xs q n=>?_,fun a KO q n=>nb _ _ q n,fun a o u q=>nm _ _ q fun z=>z,fun a xs q=>nm _ _ q fun z=>z⟩
 ·rcases q with q | ⟨o,q⟩
  ·exact .inl (nm _ _ q fun z=>z)
  ·exact .inr ⟨o,nm _ _ q fun z=>z⟩
 ·rcases q with q | ⟨o,q⟩
  ·exact ⟨.inl (nb _ _ q n).1,(nb _ _ q n).2⟩
  ·exact ⟨.inr ⟨o,(nb _ _ q n).1⟩,(nb _ _ q n).2⟩
theorem md_but {P:Kc->Prop} (m:Md K P6 P7 os σ H ρ) (hB:∀ b,P b->P7 b) (hn:∀ b,P b->P6 b=none) (hm:∀ b,P b->∃ o,H b=some o/\Mut (some o)) (hk:∀ b o,H b=some o->¬ P b->H' b=some o) (he:∀ b,P b->∃ o,H' b=some o):Md K P6 P7 os σ H' ρ/\Goes H H' (Bl P7 os σ) (Bl P7 os σ):=by
 have g:Goes H H' (Bl P7 os σ) (Bl P7 os σ):=Ye hk (fun e o z q=>by obtain ⟨o',q',n⟩:=hm e z;rw [q] at q';cases q';exact n) (fun e z=>.inl (hB e z)) fun e z=>.inl z
 refine ⟨⟨fun b u q=>hk _ _ (m.grow _ _ q) fun e=>(by rw [hn b e] at q;cases q),fun b hb=>?_,m.len,fun j d q n=>?_,fun j hj=>?_,m.sep⟩,g⟩
 ·by_cases e:P b
  ·exact he b e
  ·obtain ⟨o,q⟩:=m.blk b hb;exact ⟨o,hk _ _ q e⟩
 ·obtain ⟨v,h1,h2⟩:=m.sh j d q n
  exact ⟨v,h1,Rep.goes g _ _ h2⟩
 ·obtain ⟨a,u,d,h1,h2,h3,h4,h5⟩:=m.own j hj
  exact ⟨a,u,d,h1,h2,hk _ _ h3 (fun e=>h4.2 (hB a e)),h4,h5.goes g⟩
structure Wd (K:KC) (κ:Kd) (P6:Hp) (P7 P:Kc->Prop) (os:List Nat) (i:Nat) (h:Kc) (S:List D) (σ:St) (H:Hp) (ρ:Ev):Prop where
 md:Md K P6 P7 os σ H ρ
 blk:∀ b,P b->P7 b
 new:∀ b,P b->P6 b=none
 at_:κ.hd K H (Bl P7 os σ) P h S
 slot:ρ[i]?=some (some (.adr h))
 off:i∉os
theorem Wd.ref (w:Wd K κ P6 P7 P os i h S σ H ρ):σ[i]?=some (some (.ref h)):=by
 obtain ⟨v,h1,h2⟩:=w.md.sh i _ w.slot w.off
 simp only [Rep] at h2
 rw [h2] at h1;exact h1
theorem Wd.free (w:Wd K κ P6 P7 P os i h S σ H ρ) {b:Kc} (hb:P b):¬ ∃ j,j∈os/\σ[j]?=some (some (.ref b)):=by
 rintro ⟨j,hj,e⟩
 obtain ⟨a,u,d,h1,h2,h3,h4,h5⟩:=w.md.own j hj
 rw [e] at h1;cases h1
 exact h4.2 (w.blk b hb)
theorem Wd.write (w:Wd K κ P6 P7 P os i h S σ H ρ) (hk:∀ b o,H b=some o->¬ P b->H' b=some o) (r:κ.hd K H' (Bl P7 os σ) P h S'):Wd K κ P6 P7 P os i h S' σ H' ρ :=
 ⟨(md_but w.md w.blk w.new (κ.mtb w.at_) hk fun b z=>by obtain ⟨o,q,_⟩:=κ.mtb r b z;exact ⟨o,q⟩).1,w.blk,w.new,r,w.slot,w.off⟩
theorem Wd.goes (w:Wd K κ P6 P7 P os i h S σ H ρ) (hk:∀ b o,H b=some o->¬ P b->H' b=some o):Goes H H' (Bl P7 os σ) (Bl P7 os σ) :=
 Ye hk (fun e o z q=>by obtain ⟨o',q',n⟩:=κ.mtb w.at_ e z;rw [q] at q';cases q';exact n) (fun e z=>.inl (w.blk e z)) fun e z=>.inl z
def YF (K:KC) (κ:Kd) (st:Bool) (os:List Nat) (i:Nat) (t:TE) (F:Ev->List D->Option (D×List D)):Prop :=
 ∀ (P6:Hp) (P7 P:Kc->Prop) (h:Kc) (σ:St) (H:Hp) (ρ:Ev) (S:List D) (d:D) (S':List D) (Q:VK),Wd K κ P6 P7 P os i h S σ H ρ->F ρ S=some (d,S') ->
  (∀ v H',(∀ b o,H b=some o->¬ P b->H' b=some o)->Wd K κ P6 P7 P os i h S' σ H' ρ->Rep K H' (BB st P7 os σ) d v->Q v H')->t σ H Q
def WAOk (K:KC) (κ:Kd) (os:List Nat) (i:Nat) (t:TA) (F:Ev->List D->Option (List D×List D)):Prop :=
 ∀ (P6:Hp) (P7 P:Kc->Prop) (h:Kc) (σ:St) (H:Hp) (ρ:Ev) (S:List D) (ds:List D) (S':List D) (Q:List V->Hp->Prop),Wd K κ P6 P7 P os i h S σ H ρ->F ρ S=some (ds,S') ->
  (∀ vs H',(∀ b o,H b=some o->¬ P b->H' b=some o)->Wd K κ P6 P7 P os i h S' σ H' ρ->zr K H' (Bl P7 os σ) ds vs->Q vs H')->t σ H Q
def wL {α:Type} (f:Ev->Option α):Ev->List D->Option (α×List D):=fun ρ S=>(f ρ).map fun d=>(d,S)
theorem Wd.up (w:Wd K κ P6 P7 P os i h S σ H ρ) (s:zT H H'):Wd K κ P6 P7 P os i h S σ H' ρ :=
 ⟨w.md.up s,w.blk,w.new,κ.goes w.at_ (w.goes fun b o q _=>s _ _ q) fun b o _ q=>s _ _ q,w.slot,w.off⟩
theorem we_lift {st:Bool} {t:TE} {f:Ev->Option D} (e:EOk K st os t f):YF K κ st os i t (wL f):=fun P6 P7 P h σ H ρ S d S' Q w q k=>by
 obtain ⟨d',q1,q2⟩:=map_some q
 cases q2
 exact e P6 P7 σ H ρ d Q w.md q1 fun v H' s r=>k v H' (fun b o q _=>s _ _ q) (w.up s) r
theorem wa_lift {t:TA} {f:Ev->Option (List D)} (e:AOk K true os t f):WAOk K κ os i t (wL f):=fun P6 P7 P h σ H ρ S d S' Q w q k=>by
 obtain ⟨d',q1,q2⟩:=map_some q
 cases q2
 exact e P6 P7 σ H ρ d Q w.md q1 fun v H' s r=>k v H' (fun b o q _=>s _ _ q) (w.up s) r
def WEnd (K:KC) (κ:Kd) (P6:Hp) (P7 P:Kc->Prop) (os' ol:List Nat) (i:Nat) (h:Kc) (E:Ends):Out->List D->Prop
 | .nx ρ',S'=>∀ σ' H',Wd K κ P6 P7 P os' i h S' σ' H' ρ'->E.nx σ' H'
 | .rt d,S'=>∀ v H',zT P6 H'->κ.hd K H' P7 P h S'->(∀ b,P7 b->∃ o,H' b=some o)->Rep K H' P7 d v->E.rt v H'
 | .bk ρ',S'=>∀ σ' H',Wd K κ P6 P7 P ol i h S' σ' H' ρ'->E.bk σ' H'
 | .ct ρ',S'=>∀ σ' H',Wd K κ P6 P7 P ol i h S' σ' H' ρ'->E.ct σ' H'
def WOk (K:KC) (κ:Kd) (os os' ol:List Nat) (i:Nat) (t:TS) (M:Ev->List D->Option (Out×List D)):Prop :=
 ∀ (P6:Hp) (P7 P:Kc->Prop) (h:Kc) (σ:St) (H:Hp) (ρ:Ev) (S:List D) (o:Out) (S':List D) (E:Ends),Wd K κ P6 P7 P os i h S σ H ρ->M ρ S=some (o,S')->WEnd K κ P6 P7 P os' ol i h E o S'->t E σ H
open Classical in
def bare (os:List Nat) (σ:St) (H:Hp):Hp:=fun b=>if ∃ j,j∈os/\σ[j]?=some (some (.ref b)) then none else H b
theorem gD {b:Kc} (hb:∃ j,j∈os/\σ[j]?=some (some (.ref b))):bare os σ H b=none:=KQ hb
theorem jm {b:Kc} (hb:¬ ∃ j,j∈os/\σ[j]?=some (some (.ref b))):bare os σ H b=H b:=KR hb
theorem Md.bare (m:Md K P6 P7 os σ H ρ):Md K (M.bare os σ H) P7 os σ H ρ:=by
 refine ⟨fun b o q=>?_,m.blk,m.len,m.sh,fun j hj=>?_,m.sep⟩
 ·by_cases e:∃ j,j∈os/\σ[j]?=some (some (.ref b))
  ·rw [gD e] at q;cases q
  ·rwa [jm e] at q
 ·obtain ⟨a,u,d,h1,h2,h3,h4,h5⟩:=m.own j hj
  exact ⟨a,u,d,h1,h2,h3,⟨gD ⟨j,hj,h1⟩,h4.2⟩,h5⟩
theorem Md.same0 (m:Md K P6 P7 os σ H ρ) (s:zT (M.bare os σ H) H'):zT P6 H':=fun b o q=>s _ _ (by
 rw [jm]
 ·exact m.grow _ _ q
 ·rintro ⟨j,hj,e⟩
  obtain ⟨a,u,d,h1,h2,h3,h4,h5⟩:=m.own j hj
  rw [e] at h1;cases h1
  rw [h4.1] at q;cases q)
theorem Md.unbare {os':List Nat} {σ':St} {ρ':Ev} (m:Md K P6 P7 os σ H ρ) (m':Md K (M.bare os σ H) P7 os' σ' H' ρ'):Md K P6 P7 os' σ' H' ρ':=by
 refine ⟨m.same0 m'.grow,m'.blk,m'.len,m'.sh,fun j hj=>?_,m'.sep⟩
 obtain ⟨a,u,d,h1,h2,h3,h4,h5⟩:=m'.own j hj
 refine ⟨a,u,d,h1,h2,h3,⟨?_,h4.2⟩,h5⟩
 cases q:P6 a with
 | none=>rfl
 | some o=>have:=m.same0 (H':=M.bare os σ H) (.refl _) a o q;rw [h4.1] at this;cases this
theorem Md.goesB {os':List Nat} {σ':St} (m:Md K P6 P7 os σ H ρ) (s:zT (M.bare os σ H) H') (hB:∀ a,Bl P7 os' σ' a->P7 a\/M.bare os σ H a=none):Goes H H' (Bl P7 os σ) (Bl P7 os' σ'):=by
 have no:∀ e o,H e=some o->¬ Mut (some o)->¬ ∃ j,j∈os/\σ[j]?=some (some (.ref e)):=by
  rintro e o q n ⟨j,hj,z⟩
  obtain ⟨a,u,d,h1,h2,h3,h4,h5⟩:=m.own j hj
  rw [z] at h1;cases h1
  rw [q] at h3;cases h3
  exact n h5.mut
 have kp:∀ e o,H e=some o->(¬ ∃ j,j∈os/\σ[j]?=some (some (.ref e)))->H' e=some o:=fun e o h n=>s _ _ (by rw [jm n];exact h)
 have nb:∀ e o,H e=some o->¬ Bl P7 os σ e->¬ Bl P7 os' σ' e:=fun e o q n z=>by
  rcases hB e z with h | h
  ·exact n (.inl h)
  ·rw [jm (fun z=>n (.inr z)),q] at h;cases h
 refine ⟨fun a xs q=>?_,fun a xs q n=>⟨?_,?_⟩,fun a KO q n=>⟨kp _ _ q fun z=>n (.inr z),nb _ _ q n⟩,fun a o u q=>kp _ _ q (no _ _ q fun z=>z),fun a xs q=>kp _ _ q (no _ _ q fun z=>z)⟩
 ·rcases q with q | ⟨o,q⟩
  ·exact .inl (kp _ _ q (no _ _ q fun z=>z))
  ·exact .inr ⟨o,kp _ _ q (no _ _ q fun z=>z)⟩
 ·rcases q with q | ⟨o,q⟩
  ·exact .inl (kp _ _ q fun z=>n (.inr z))
  ·exact .inr ⟨o,kp _ _ q fun z=>n (.inr z)⟩
 ·rcases q with q | ⟨o,q⟩
  ·exact nb _ _ q n
  ·exact nb _ _ q n
def wM (m:Ev->Option Out):Ev->List D->Option (Out×List D):=fun ρ S=>(m ρ).map fun o=>(o,S)
def Keeps (i:Nat) (m:Ev->Option Out):Prop:=∀ ρ o,m ρ=some o->match o with
 | .nx ρ'=>ρ'[i]?=ρ[i]?
 | .bk ρ'=>ρ'[i]?=ρ[i]?
 | .ct ρ'=>ρ'[i]?=ρ[i]?
 | .rt _=>True
theorem ws_lift {os' ol:List Nat} {t:TS} {m:Ev->Option Out} (hs:SOk K false os os' ol t m) (hi:i∉os') (hl:i∉ol) (hk:Keeps i m):WOk K κ os os' ol i t (wM m):=fun P6 P7 P h σ H ρ S o S' E w q k=>by
 obtain ⟨o',q1,q2⟩:=map_some q
 cases q2
 have hh:∀ b,P b->M.bare os σ H b=H b:=fun b hb=>jm (w.free hb)
 have own:∀ {os2:List Nat} {σ2:St} {H2:Hp} {ρ2:Ev},Md K (M.bare os σ H) P7 os2 σ2 H2 ρ2->∀ a,Bl P7 os2 σ2 a->P7 a\/M.bare os σ H a=none:=fun m2 a ha=>by
  rcases ha with ha | ⟨j,hj,e⟩
  ·exact .inl ha
  ·obtain ⟨a',u,d,g1,g2,g3,g4,g5⟩:=m2.own j hj
   rw [e] at g1;cases g1
   exact .inr g4.1
 have fin:∀ {os2:List Nat} {σ2:St} {H2:Hp} {ρ2:Ev},i∉os2->ρ2[i]?=ρ[i]?->Md K (M.bare os σ H) P7 os2 σ2 H2 ρ2->Wd K κ P6 P7 P os2 i h S σ2 H2 ρ2:=fun hi2 e m2 =>
  ⟨w.md.unbare m2,w.blk,w.new,κ.goes w.at_ (w.md.goesB m2.grow (own m2)) fun b o hb q=>m2.grow _ _ (by rw [hh b hb];exact q),e.trans w.slot,hi2⟩
 refine hs (M.bare os σ H) P7 σ H ρ o E w.md.bare q1 ?_
 have kk:=hk ρ o q1
 cases o with
 | nx ρ'=>exact fun σ' H' m'=>k σ' H' (fin hi kk m')
 | bk ρ'=>exact fun σ' H' m'=>k σ' H' (fin hl kk m')
 | ct ρ'=>exact fun σ' H' m'=>k σ' H' (fin hl kk m')
 | rt d =>
  have g:∀ {H':Hp},zT (M.bare os σ H) H'->Goes H H' (Bl P7 os σ) (Bl P7 [] σ):=fun s=>w.md.goesB (os':=[]) (σ':=σ) s fun a ha=>.inl (by rw [yT] at ha;exact ha)
  refine fun v H' s hb r=>k v H' (w.md.same0 s) ?_ hb r
  have:=κ.goes w.at_ (g s) fun b o hb q=>s _ _ (by rw [hh b hb];exact q)
  rwa [yT] at this
end
abbrev WF:=Ev->List D->Option (D×List D)
abbrev WM:=Ev->List D->Option (Out×List D)
section
variable {K:KC} {κ:Kd} {os os1 os' ol:List Nat} {i:Nat} {t u:TS} {M1 M2:WM} {P6 H H':Hp} {P7 P:Kc->Prop} {σ:St} {ρ:Ev} {h:Kc} {S S':List D}
theorem Rep.low {st:Bool} {d:D} {v:V} (r:Rep K H (Bl P7 os σ) d v):Rep K H (BB st P7 os σ) d v:=by
 cases st with
 | true=>exact r
 | false=>exact Rep.goes (Goes.less (B:=Bl P7 os σ) (fun a ha=>Or.inl ha) (.refl H)) _ _ r
def ZV (M1 M2:WM):WM:=fun ρ S=>(M1 ρ S).bind fun r=>match r.1 with
 | .nx ρ'=>M2 ρ' r.2
 | o=>some (o,r.2)
theorem ws_seq (h1:WOk K κ os os1 ol i t M1) (h2:WOk K κ os1 os' ol i u M2):WOk K κ os os' ol i (y9 t u) (ZV M1 M2):=fun P6 P7 P h σ H ρ S o S' E w q k=>by
 obtain ⟨⟨o1,S1⟩,q1,q2⟩:=zc q
 refine h1 P6 P7 P h σ H ρ S o1 S1 _ w q1 ?_
 cases o1 with
 | nx ρ'=>exact fun σ' H' w'=>h2 P6 P7 P h σ' H' ρ' S1 o S' E w' q2 k
 | rt d=>cases q2;exact k
 | bk ρ'=>cases q2;exact k
 | ct ρ'=>cases q2;exact k
def WTOk (K:KC) (κ:Kd) (os:List Nat) (i:Nat) (t:TT) (c:Ev->List D->Option (Bool×List D)):Prop :=
 ∀ (P6:Hp) (P7 P:Kc->Prop) (h:Kc) (σ:St) (H:Hp) (ρ:Ev) (S:List D) (b:Bool) (S':List D) (Q:Bool->Hp->Prop),Wd K κ P6 P7 P os i h S σ H ρ->c ρ S=some (b,S') ->
  (∀ H',(∀ b o,H b=some o->¬ P b->H' b=some o)->Wd K κ P6 P7 P os i h S' σ H' ρ->Q b H')->t σ H Q
theorem wt_lift {t:TT} {c:Ev->Option Bool} (hc:TOk K os t c):WTOk K κ os i t (wL c):=fun P6 P7 P h σ H ρ S b S' Q w q k=>by
 obtain ⟨d',q1,q2⟩:=map_some q
 cases q2
 exact hc P6 P7 σ H ρ b Q w.md q1 fun H' s=>k H' (fun b o q _=>s _ _ q) (w.up s)
def wTest (F:WF):Ev->List D->Option (Bool×List D):=fun ρ S=>(F ρ S).bind fun r=>(asB r.1).map fun b=>(b,r.2)
theorem wt_val {te:TE} {F:WF} (he:YF K κ false os i te F):WTOk K κ os i (YI te) (wTest F):=fun P6 P7 P h σ H ρ S b S' Q w q k=>by
 obtain ⟨⟨x,S1⟩,h1,h2⟩:=zc q
 obtain ⟨c,h3,h4⟩:=map_some h2
 cases h4
 refine he P6 P7 P h σ H ρ S x S1 _ w h1 fun v H' hk w' r=>?_
 cases x <;> simp only [asB] at h3 <;> cases h3
 simp only [Rep] at r
 exact ⟨_,r,k H' hk w'⟩
def wIf (c:Ev->List D->Option (Bool×List D)) (M1 M2:WM):WM:=fun ρ S=>(c ρ S).bind fun r=>if r.1 then M1 ρ r.2 else M2 ρ r.2
theorem ws_if {tc:TT} {c:Ev->List D->Option (Bool×List D)} (hc:WTOk K κ os i tc c) (h1:WOk K κ os os' ol i t M1) (h2:WOk K κ os os' ol i u M2):WOk K κ os os' ol i (tIfS tc t u) (wIf c M1 M2):=fun P6 P7 P h σ H ρ S o S' E w q k=>by
 obtain ⟨⟨b,S1⟩,q1,q2⟩:=zc q
 refine hc P6 P7 P h σ H ρ S b S1 _ w q1 fun H' s w'=>?_
 cases b with
 | true=>exact ifT (h1 P6 P7 P h σ H' ρ S1 o S' E w' q2 k)
 | false=>exact ifF (h2 P6 P7 P h σ H' ρ S1 o S' E w' q2 k)
def yK:WM:=fun ρ S=>some (.nx ρ,S)
theorem ws_next:WOk K κ os os ol i wN yK:=fun P6 P7 P h σ H ρ S o S' E w q k=>by
 cases q
 exact k σ H w
theorem Wd.put {j:Nat} {d:D} {v:V} (w:Wd K κ P6 P7 P os i h S σ H ρ) (hj:j≠i) (hos:∀ x∈os,x≠j) (r:Rep K H (Bl P7 os σ) d v):Wd K κ P6 P7 P os i h S (σ.set j (some v)) H (ρ.set j (some d)) :=
 ⟨w.md.put (fun x hx=>⟨hx,hos x hx⟩) (fun x hx=>.inl hx) r,w.blk,w.new,κ.goes w.at_ (.less (fun a ha=>by
  rcases ha with ha | ⟨x,hx,e⟩
  ·exact .inl ha
  ·exact .inr ⟨x,hx,by rw [zd (hos x hx)] at e;exact e⟩) (.refl H)) (fun _ _ _ q=>q),by rw [zd (Ne.symm hj)];exact w.slot,w.off⟩
def Yr (j:Nat) (F:WF):WM:=fun ρ S=>(F ρ S).map fun r=>(.nx (ρ.set j (some r.1)),r.2)
theorem ws_set {j:Nat} {te:TE} {F:WF} (he:YF K κ true os i te F) (hj:j≠i) (hos:∀ x∈os,x≠j):WOk K κ os os ol i (yJ te (ZM j)) (Yr j F):=fun P6 P7 P h σ H ρ S o S' E w q k=>by
 obtain ⟨⟨d,S1⟩,q1,q2⟩:=map_some q
 cases q2
 exact he P6 P7 P h σ H ρ S d _ _ w q1 fun v H' hk w' r=>k _ _ (w'.put hj hos r)
def Ji (F:WF):WM:=fun ρ S=>(F ρ S).map fun r=>(.rt r.1,r.2)
theorem Wd.out (w:Wd K κ P6 P7 P os i h S σ H ρ):κ.hd K H P7 P h S:=κ.goes w.at_ (Goes.less (B:=Bl P7 os σ) (fun a ha=>Or.inl ha) (.refl H)) fun _ _ _ q=>q
theorem ws_ret {te:TE} {F:WF} (he:YF K κ false os i te F):WOk K κ os os' ol i (WH te) (Ji F):=fun P6 P7 P h σ H ρ S o S' E w q k=>by
 obtain ⟨⟨d,S1⟩,q1,q2⟩:=map_some q
 cases q2
 exact he P6 P7 P h σ H ρ S d _ _ w q1 fun v H' hk w' r=>k v H' w'.md.grow w'.out w'.md.blk r
def ZD (F:WF):WM:=fun ρ S=>(F ρ S).map fun r=>(.nx ρ,r.2)
theorem ws_drop {te:TE} {F:WF} (he:YF K κ false os i te F):WOk K κ os os ol i (YJ te) (ZD F):=fun P6 P7 P h σ H ρ S o S' E w q k=>by
 obtain ⟨⟨d,S1⟩,q1,q2⟩:=map_some q
 cases q2
 exact he P6 P7 P h σ H ρ S d _ _ w q1 fun v H' hk w' r=>k _ _ w'
theorem Wd.list {vs:List V} (w:Wd K kL P6 P7 P os i h S σ H ρ) (r:zr K H (Bl P7 os σ) S' vs):Wd K kL P6 P7 P os i h S' σ (upd H h (.lst vs)) ρ:=by
 obtain ⟨p,hs,h1,h2⟩:=w.at_
 have hk:∀ b o,H b=some o->¬ P b->upd H h (.lst vs) b=some o:=fun b o q n=>by rw [zv (fun e=>n ((p b).2 e))];exact q
 exact w.write hk ⟨p,vs,zw,zr.goes (w.goes hk) _ _ r⟩
def w2 (g:D->D->Option D) (F G:WF):WF:=fun ρ S=>(F ρ S).bind fun r=>(G ρ r.2).bind fun q=>(g r.1 q.1).map fun d=>(d,q.2)
theorem we_opOk {st:Bool} {r:R2} {g:D->D->Option D} {ta tb:TE} {F G:WF} (hr:ROk K r g) (ha:YF K κ true os i ta F) (hb:YF K κ true os i tb G):YF K κ st os i (tOp r ta tb) (w2 g F G):=fun P6 P7 P h σ H ρ S d S' Q w q k=>by
 obtain ⟨⟨x,S1⟩,q1,q2⟩:=zc q
 obtain ⟨⟨y,S2⟩,q3,q4⟩:=zc q2
 obtain ⟨z,q5,q6⟩:=map_some q4
 cases q6
 refine ha P6 P7 P h σ H ρ S x S1 _ w q1 fun v H1 k1 w1 r1=>?_
 refine hb P6 P7 P h σ H1 ρ S1 y _ _ w1 q3 fun u H2 k2 w2 r2=>?_
 exact hr H2 (Bl P7 os σ) v u x y _ Q (fun a ha=>w2.md.tracked ha) (Rep.goes (w1.goes k2) _ _ r1) r2 q5 fun z H3 s3 r3=>k z H3 (fun b o q n=>s3 _ _ (k2 _ _ (k1 _ _ q n) n)) (w2.up s3) r3.low
abbrev WL:=Ev->List D->Option (List D×List D)
def zh (F:WF) (G:WL):WL:=fun ρ S=>(F ρ S).bind fun r=>(G ρ r.2).map fun q=>(r.1::q.1,q.2)
theorem wa_consOk {te:TE} {tl:TA} {F:WF} {G:WL} (ha:YF K κ true os i te F) (hr:WAOk K κ os i tl G):WAOk K κ os i (zW te tl) (zh F G):=fun P6 P7 P h σ H ρ S ds S' Q w q k=>by
 obtain ⟨⟨x,S1⟩,q1,q2⟩:=zc q
 obtain ⟨⟨ys,S2⟩,q3,q4⟩:=map_some q2
 cases q4
 refine ha P6 P7 P h σ H ρ S x S1 _ w q1 fun v H1 k1 w1 r1=>?_
 refine hr P6 P7 P h σ H1 ρ S1 ys _ _ w1 q3 fun vs H2 k2 w2 r2=>?_
 exact k _ H2 (fun b o q n=>k2 _ _ (k1 _ _ q n) n) w2 (.cons (Rep.goes (w1.goes k2) _ _ r1) r2)
def spW (K:KC) (κ:Kd) (i0:Nat) (m:List D->List D->Option (D×List D)):Sp:=fun vs H Q _=>∃ (B P:Kc->Prop) (ds:List D) (d:D) (S S':List D) (h:Kc),(∀ a,B a->∃ o,H a=some o)/\(∀ b,P b->B b)/\κ.hd K H B P h S/\zr K H B ds vs/\ds[i0]?=some (.adr h)/\m ds S=some (d,S') /\
 ∀ v H',(∀ b o,H b=some o->¬ P b->H' b=some o)->κ.hd K H' B P h S'->Rep K H' B d v->Q v H'
def Zk (i0:Nat) (m:List D->List D->Option (D×List D)) (G:WL):WF:=fun ρ S=>(G ρ S).bind fun r=>m r.1 r.2
theorem we_callOk {st:Bool} {i0:Nat} {m:List D->List D->Option (D×List D)} {tl:TA} {G:WL} (ha:WAOk K κ os i tl G) (hi:∀ ρ S ds S',G ρ S=some (ds,S')->ds[i0]?=ρ[i]?.join):YF K κ st os i (fun σ H Q=>tl σ H fun vs H1=>spW K κ i0 m vs H1 Q E0) (Zk i0 m G):=fun P6 P7 P h σ H ρ S d S' Q w q k=>by
 obtain ⟨⟨ds,S1⟩,q1,q2⟩:=zc q
 refine ha P6 P7 P h σ H ρ S ds S1 _ w q1 fun vs H1 k1 w1 r=>?_
 refine ⟨Bl P7 os σ,P,ds,d,S1,S',h,fun a ha=>w1.md.tracked ha,fun b hb=>.inl (w1.blk b hb),w1.at_,r,by rw [hi ρ S ds S1 q1,w1.slot];rfl,q2,fun v H' hk r1 r2=>?_⟩
 exact k v H' (fun b o q n=>hk _ _ (k1 _ _ q n) n) (w1.write hk r1) r2.low
end
section
variable {K:KC} {κ:Kd} {P6 H H':Hp} {P7 P:Kc->Prop} {os os':List Nat} {σ σ':St} {ρ ρ':Ev} {h:Kc} {i:Nat} {S S':List D}
open Classical in
def YD (os:List Nat) (σ:St) (P:Kc->Prop) (H:Hp):Hp:=fun b=>if P b then none else bare os σ H b
theorem gF {b:Kc} (hb:¬ ∃ j,j∈os/\σ[j]?=some (some (.ref b))) (n:¬ P b):YD os σ P H b=H b:=by unfold YD;rw [KR n,jm hb]
theorem bareH_in {b:Kc} (n:P b):YD os σ P H b=none:=by unfold YD;rw [KQ n]
theorem gE {b:Kc} {o:HO} (q:YD os σ P H b=some o):H b=some o/\¬ P b/\¬ ∃ j,j∈os/\σ[j]?=some (some (.ref b)):=by
 unfold YD at q
 by_cases n:P b
 ·rw [KQ n] at q;cases q
 ·rw [KR n] at q
  by_cases z:∃ j,j∈os/\σ[j]?=some (some (.ref b))
  ·rw [gD z] at q;cases q
  ·rw [jm z] at q;exact ⟨q,n,z⟩
theorem Wd.bare (w:Wd K κ P6 P7 P os i h S σ H ρ):Wd K κ (YD os σ P H) P7 P os i h S σ H ρ:=by
 refine ⟨⟨fun b o q=>(gE q).1,w.md.blk,w.md.len,w.md.sh,fun j hj=>?_,w.md.sep⟩,w.blk,fun b hb=>bareH_in hb,w.at_,w.slot,w.off⟩
 obtain ⟨a,u,d,h1,h2,h3,h4,h5⟩:=w.md.own j hj
 refine ⟨a,u,d,h1,h2,h3,⟨?_,h4.2⟩,h5⟩
 cases q:YD os σ P H a with
 | none=>rfl
 | some o=>exact absurd ⟨j,hj,h1⟩ (gE q).2.2
theorem Wd.same0 (w:Wd K κ P6 P7 P os i h S σ H ρ) (s:zT (YD os σ P H) H'):zT P6 H':=fun b o q=>s _ _ (by
 rw [gF]
 ·exact w.md.grow _ _ q
 ·rintro ⟨j,hj,e⟩
  obtain ⟨a,u,d,h1,h2,h3,h4,h5⟩:=w.md.own j hj
  rw [e] at h1;cases h1
  rw [h4.1] at q;cases q
 ·intro z
  rw [w.new b z] at q;cases q)
theorem Wd.unbare (w:Wd K κ P6 P7 P os i h S σ H ρ) (w':Wd K κ (YD os σ P H) P7 P os' i h S' σ' H' ρ'):Wd K κ P6 P7 P os' i h S' σ' H' ρ':=by
 refine ⟨⟨w.same0 w'.md.grow,w'.md.blk,w'.md.len,w'.md.sh,fun j hj=>?_,w'.md.sep⟩,w.blk,w.new,w'.at_,w'.slot,w'.off⟩
 obtain ⟨a,u,d,h1,h2,h3,h4,h5⟩:=w'.md.own j hj
 refine ⟨a,u,d,h1,h2,h3,⟨?_,h4.2⟩,h5⟩
 cases q:P6 a with
 | none=>rfl
 | some o=>have:=w.same0 (H':=YD os σ P H) (.refl _) a o q;rw [h4.1] at this;cases this
theorem Wd.goesB (w:Wd K κ P6 P7 P os i h S σ H ρ) (w':Wd K κ (YD os σ P H) P7 P os' i h S' σ' H' ρ'):Goes H H' (Bl P7 os σ) (Bl P7 os' σ'):=by
 refine Ye (P:=fun b=>P b\/∃ j,j∈os/\σ[j]?=some (some (.ref b))) (fun e o q n=>w'.md.grow _ _ (by rw [gF (fun z=>n (.inr z)) fun z=>n (.inl z)];exact q)) (fun e o z q=>?_) (fun e z=>?_) fun e z=>?_
 ·rcases z with z | ⟨j,hj,z⟩
  ·obtain ⟨o',q',n⟩:=κ.mtb w.at_ e z;rw [q] at q';cases q';exact n
  ·obtain ⟨a,u,d,h1,h2,h3,h4,h5⟩:=w.md.own j hj
   rw [z] at h1;cases h1
   rw [q] at h3;cases h3
   exact h5.mut
 ·rcases z with z | z
  ·exact .inl (w.blk e z)
  ·exact .inr z
 ·rcases z with z | ⟨j,hj,z⟩
  ·exact .inl (.inl z)
  ·obtain ⟨a,u,d,g1,g2,g3,g4,g5⟩:=w'.md.own j hj
   rw [z] at g1;cases g1
   by_cases c:Bl P7 os σ e
   ·exact .inl c
   ·have:=g4.1
    rw [gF (fun z=>c (.inr z)) fun z=>c (.inl (w.blk e z))] at this
    exact .inr this
end
def Jw (u:D->Ev->Option Ev) (M:WM):List D->Ev->List D->Option (Out×List D)
 | [],ρ,S=>some (.nx ρ,S)
 | d::ds,ρ,S=>(u d ρ).bind fun ρ1=>(M ρ1 S).bind fun r=>match r.1 with
  | .nx ρ2=>Jw u M ds ρ2 r.2
  | .ct ρ2=>Jw u M ds ρ2 r.2
  | .bk ρ2=>some (.nx ρ2,r.2)
  | .rt d=>some (.rt d,r.2)
def wFor (fi:Ev->Option (List D)) (u:D->Ev->Option Ev) (M:WM):WM:=fun ρ S=>(fi ρ).bind fun ds=>Jw u M ds ρ S
def JD (i:Nat) (u:D->Ev->Option Ev):Prop:=∀ d ρ ρ',u d ρ=some ρ'->ρ'[i]?=ρ[i]?
section
variable {K:KC} {κ:Kd} {os ol:List Nat} {i:Nat}
theorem kg_name {j:Nat} (hj:j≠i:=by decide):JD i (zP j):=fun d ρ ρ' q=>by
 cases q
 exact zd (Ne.symm hj)
theorem ws_forOk {wi:TI} {g:TG} {tb:TS} {fi:Ev->Option (List D)} {ug:D->Ev->Option Ev} {M:WM} (hi:IOk K true os wi fi) (hg:GOk K os g ug) (hk:JD i ug) (hb:WOk K κ os os os i tb M):WOk K κ os os ol i (tFor wi g tb) (wFor fi ug M):=fun P6 P7 P h σ H ρ S o S' E w q k=>by
 obtain ⟨ds,h1,h2⟩:=zc q
 refine hi P6 P7 σ H ρ ds _ w.md h1 fun J H1 ok s1 W up mv ok1=>?_
 have w1:=w.up s1
 refine ⟨fun a n σ' H'=>n=ds.length - a/\a<=ds.length/\∃ ρ' S1,Wd K κ (YD os σ P H1) P7 P os i h S1 σ' H' ρ'/\Jw ug M (ds.drop a) ρ' S1=some (o,S'),⟨ds.length,by simp,Q4 _,ρ,S,w1.bare,by simpa using h2⟩,?_⟩
 rintro a n σ' H' ⟨rfl,hile,ρ',S1,wM,hf⟩
 have okN:=mv rfl _ _ _ _ (w1.goesB wM) ok1
 by_cases hlt:a<ds.length
 ·right
  have hd:ds[a]?=some ds[a]:=by simp [hlt]
  rw [Pr hlt] at hf
  simp only [Jw] at hf
  obtain ⟨ρ1,q1,q2⟩:=zc hf
  obtain ⟨⟨o',S2⟩,q3,q4⟩:=zc q2
  refine ⟨W.go _ _ a _ okN hd,fun σ2 H2=>∃ ρ2 S3,Wd K κ (YD os σ P H1) P7 P os i h S3 σ2 H2 ρ2/\Jw ug M (ds.drop (a+1)) ρ2 S3=some (o,S'),fun σ2 H2 ⟨ρ2,S3,m2,f2⟩=>⟨ds.length - (a+1),by omega,rfl,hlt,ρ2,S3,m2,f2⟩,fun x H2 y=>?_⟩
  obtain ⟨s2,rx⟩:=W.yld _ _ a _ x H2 okN hd y
  have w2:=wM.up s2
  refine hg _ P7 σ' H2 ρ' ρ1 ds[a] x _ w2.md rx q1 fun σ3 l3 a3 m3=>?_
  have w3:Wd K κ (YD os σ P H1) P7 P os i h S1 σ3 H2 ρ1:=by
   refine ⟨m3,w2.blk,w2.new,κ.goes w2.at_ (.less (fun b hb=>?_) (.refl H2)) (fun _ _ _ q=>q),(hk _ _ _ q1).trans w2.slot,w2.off⟩
   rcases hb with hb | ⟨j,hj,e⟩
   ·exact .inl hb
   ·exact .inr ⟨j,hj,by rw [<- a3 j hj];exact e⟩
  refine hb _ P7 P h σ3 H2 ρ1 S1 o' S2 _ w3 q3 ?_
  cases o' with
  | nx ρ2=>exact fun σ4 H4 w4=>⟨ρ2,S2,w4,q4⟩
  | ct ρ2=>exact fun σ4 H4 w4=>⟨ρ2,S2,w4,q4⟩
  | bk ρ2=>cases q4;exact fun σ4 H4 w4=>k σ4 H4 (w1.unbare w4)
  | rt d=>cases q4;exact fun v H4 s e b r=>k v H4 (w1.same0 s) e b r
 ·left
  have hi':a=ds.length:=by omega
  subst hi'
  rw [Pq] at hf
  cases hf
  exact ⟨W.stop _ _ _ okN (Qh _),k σ' H' (w1.unbare wM)⟩
end
section
variable {K:KC} {κ:Kd} {os:List Nat} {i:Nat}
end
structure WE (X:Cx) (κ:Kd) (st:Bool) (os:List Nat) (i:Nat) (e:Kv) (t:TE) (F:WF):Prop where
 pe:PE X e t
 ok:YF X.K κ st os i t F
structure WA (X:Cx) (κ:Kd) (os:List Nat) (i:Nat) (es:List Kv) (t:TA) (F:WL):Prop where
 pa:PA X es t
 ok:WAOk X.K κ os i t F
structure WB (X:Cx) (κ:Kd) (os:List Nat) (i:Nat) (e:Kv) (t:TT) (c:Ev->List D->Option (Bool×List D)):Prop where
 pt:PT X e t
 ok:WTOk X.K κ os i t c
structure WS (X:Cx) (κ:Kd) (os os' ol:List Nat) (i:Nat) (st:Kx) (t:TS) (M:WM):Prop where
 ps:PS X st t
 ok:WOk X.K κ os os' ol i t M
structure WSs (X:Cx) (κ:Kd) (os os' ol:List Nat) (i:Nat) (st:List Kx) (t:TS) (M:WM):Prop where
 ps:PSs X st t
 ok:WOk X.K κ os os' ol i t M
def HasAt (n i:Nat) (G:WL):Prop:=∀ ρ S ds S',G ρ S=some (ds,S')->ds[n]?=ρ[i]?.join
theorem Yv {i:Nat} {G:WL}:HasAt 0 i (zh (wL (zb i)) G):=fun ρ S ds S' q=>by
 obtain ⟨⟨x,S1⟩,q1,q2⟩:=zc q
 obtain ⟨⟨ys,S2⟩,q3,q4⟩:=map_some q2
 obtain ⟨y,q5,q6⟩:=map_some q1
 cases q6
 cases q4
 exact q5.symm
theorem ge {n i:Nat} {F:WF} {G:WL} (h:HasAt n i G):HasAt (n+1) i (zh F G):=fun ρ S ds S' q=>by
 obtain ⟨⟨x,S1⟩,q1,q2⟩:=zc q
 obtain ⟨⟨ys,S2⟩,q3,q4⟩:=map_some q2
 cases q4
 exact h ρ S1 ys S2 q3
section
variable {X:Cx} {κ:Kd} {st fr:Bool} {os os1 os' ol:List Nat} {i:Nat} {e a b:Kv} {es:List Kv} {t u:TS} {ta tb te:TE} {tl:TA} {F F':WF} {G:WL} {M1 M2:WM} {x:Kw} {p pos:KB}
theorem SE.we {f:Ev->Option D} (h:SE X st os e te f):WE X κ st os i e te (wL f):=⟨h.pe,we_lift h.ok⟩
theorem SB.wb {c:Ev->Option Bool} {tt:TT} (h:SB X os e tt c):WB X κ os i e tt (wL c):=⟨h.pt,wt_lift h.ok⟩
theorem Zz:WA X κ os i [] ZS (wL zt):=⟨Zj,wa_lift zA.ok⟩
theorem zm (ha:WE X κ true os i e te F) (hr:WA X κ os i es tl G) (hs:Ke (e::es) X.env=(false,Kz e X.env)::Ke es X.env:=by rfl):WA X κ os i (e::es) (zW te tl) (zh F G):=⟨zM ha.pe hr.pa hs,wa_consOk ha.ok hr.ok⟩
theorem we_op {op:Operator} {r:R2} {g:D->D->Option D} (ho:OpR X (binaryOp op) r) (hr:ROk X.K r g) (ha:WE X κ true os i a ta F) (hb:WE X κ true os i b tb F'):WE X κ st os i (.BinOp a op b pos) (tOp r ta tb) (w2 g F F'):=⟨wV ho ha.pe hb.pe,we_opOk hr ha.ok hb.ok⟩
theorem wb_cmp {op:CmpOp} {r:R2} {g:D->D->Option D} (ho:OpR X (Km op) r) (hr:ROk X.K r g) (ha:WE X κ true os i a ta F) (hb:WE X κ true os i b tb F') (hm:behindInMarks op b=false):WB X κ os i (.Compare a [op] [b] pos) (YI (tOp r ta tb)) (wTest (w2 g F F')):=⟨YM ho ha.pe hb.pe hm,wt_val (we_opOk hr ha.ok hb.ok)⟩
theorem we_call {k i0:Nat} {fn:Kc} {fd:Kh} {ps:List Kw} {m:List D->List D->Option (D×List D)} (F:FnOk X.prog X.w X.K X.mg X.base CX0 k fn fd ps (spW X.K κ i0 m)) (hr:Room k X.A) (hg:Gl X x) (hm:X.mg x=some (.ref fn)) (hk:keepIn X.K (.ref fn)=true) (hb:Yq X.K fd ps [])
  (hi:HasAt i0 i G) (ha:WA X κ os i (e::es) tl G) (hdb:(x == ("__debug__":Kw))=false:=by decide) (he:Ke (e::es) X.env=(false,Kz e X.env)::Ke es X.env:=by rfl) (hpl:(Kq pos (Ke es X.env)).any (·.1)=false:=by rfl) {K':KC} (hK:X.K=K':=by rfl) :
  WE X κ st os i (.Call (.Name x p) (e::es) [] pos) (jx (spW K' κ i0 m) [] E0 tl) (Zk i0 m G):=by
 subst hK
 refine ⟨Wr F hr hg hm hk hb .nil W1 ha.pa hdb he hpl,?_⟩
 have e:jx (spW X.K κ i0 m) [] E0 tl=fun σ H Q=>tl σ H fun vs H1=>spW X.K κ i0 m vs H1 Q E0:=by
  funext σ H Q
  unfold jx
  simp only [Pl]
 rw [e]
 exact we_callOk ha.ok hi
theorem yY:WSs X κ os os ol i [] wN yK:=⟨JU,ws_next⟩
theorem zK {s:Kx} {ss:List Kx} (h1:WS X κ os os1 ol i s t M1) (h2:WSs X κ os1 os' ol i ss u M2):WSs X κ os os' ol i (s::ss) (y9 t u) (ZV M1 M2):=⟨Zw h1.ps h2.ps,ws_seq h1.ok h2.ok⟩
theorem zU {s:Kx} (h1:WS X κ os os' ol i s t M1):WSs X κ os os' ol i [s] t M1:=⟨Yb h1.ps,h1.ok⟩
theorem SS.ws {s:Kx} {m:Ev->Option Out} (h:SS X false os os' ol s t m) (hk:Keeps i m) (hi:i∉os':=by decide) (hl:i∉ol:=by decide):WS X κ os os' ol i s t (wM m):=⟨h.ps,ws_lift h.ok hi hl hk⟩
theorem Z7 {j:Nat} {pos':KB} (hN:X.N.Nodup) (hx:X.N[j]?=some x) (hlo:Loc X.env.scope x) (h:WE X κ true os i e te F) (hj:j≠i:=by decide) (hos:∀ y∈os,y≠j:=by decide)
  (hsw:Kt e (some (.Name x pos')) pos.line X.env=pure false:=by rfl) (hf:X.fn x=true\/X.env.scope.names.lookup x=some .local:=by first | exact .inl rfl | exact .inr rfl | assumption):WS X κ os os ol i (.Assign [.Name x pos'] e pos) (yJ te (ZM j)) (Yr j F):=⟨Yi hN hx hlo h.pe hsw hf,ws_set h.ok hj hos⟩
theorem yX (h:WE X κ false os i e te F):WS X κ os os' ol i (.Return (some e) pos) (WH te) (Ji F):=⟨Jp h.pe,ws_ret h.ok⟩
theorem ZO (h:WE X κ false os i e te F) (hs:Kt e none pos.line X.env=pure false:=by rfl):WS X κ os os ol i (.Expr e pos) (YJ te) (ZD F):=⟨YN h.pe hs,ws_drop h.ok⟩
theorem yI {c:Kv} {as bs:List Kx} {tc:TT} {g:Ev->List D->Option (Bool×List D)} (hc:WB X κ os i c tc g) (ha:WSs X κ os os' ol i as t M1) (hb:WSs X κ os os' ol i bs u M2):WS X κ os os' ol i (.If c as bs pos) (tIfS tc t u) (wIf g M1 M2):=⟨ps_if hc.pt ha.ps hb.ps,ws_if hc.ok ha.ok hb.ok⟩
theorem wst_for {tg iter:Kv} {body:List Kx} {wi:TI} {g:TG} {tb:TS} {fi:Ev->Option (List D)} {ug:D->Ev->Option Ev} (hc:X.calm=true) (hi:SI X true os tg iter wi fi) (hg:SG X os tg g ug) (hk:JD i ug) (hb:WSs X κ os os os i body tb M1)
  (hp:PassesOwn (Ky X.prog X.w) X.A X.env X.xe:=by exact PassesOwn.never) (hs:∀ x,foldedSetIterable iter X.env x=pure x:=by intro _;rfl):WS X κ os os ol i (.For tg iter body [] pos) (tFor wi g tb) (wFor fi ug M1):=⟨ps_for hp hc hi.pi hg.pg hb.ps hs,ws_forOk hi.ok hg.ok hk hb.ok⟩
end
section
variable {X:Cx} {κ:Kd} {os os' ol:List Nat} {i:Nat} {pos:KB} {scope:Scope} {own N':List Kw} {k:Nat} {elt target iter:Kv} {wi:TI} {g:TG} {te:TE} {fi:Ev->Option (List D)} {u:D->Ev->Option Ev} {F:WF}
end
section
variable {P:Ki} {w:Kk} {K:KC} {κ:Kd} {mg:Kw->Option Ka} {base:Kl}
def yW (k n:Nat) (M:WM):List D->List D->Option (D×List D):=fun ds S=>if ds.length=k then (M (Zh n ds) S).bind fun r=>(outD r.1).map fun d=>(d,r.2) else none
open Classical in
theorem fnW_ok {x qual:Kw} {st:Kx} {f:Kc} {fd:Kh} {N ps:List Kw} {k i0:Nat} {M:WM} (F:Fun K x qual st f fd) (S:FnScope N ps (zO st)) (hi0:i0<ps.length)
  (hbody:∀ (cdv:Ka) (A:Kj) (outer:List Env) (s:Kb) (H:Hp) (E:XK),Room k (A.deeper (PyProof.Rows.envOfC qual (zO st) s.heap.objs.size f cdv)) ->
   ∃ t os',WSs (gw CX0 P w K mg base N qual (zO st) f cdv A outer s H E).nox κ [] os' [] i0 (ZK st) t M):FnOk P w K mg base CX0 (k+1) f fd ps (spW K κ i0 (yW ps.length N.length M)):=by
 refine F.ok S (fun vs H Q E h=>?_) (fun cdv A outer s H vs Q E hr h=>?_)
 ·obtain ⟨B,Pt,ds,d,S0,S',h,hB,hb,h1,r,e,q,_⟩:=h
  unfold yW at q
  split at q
  ·rw [r.length];assumption
  ·cases q
 ·obtain ⟨B,Pt,ds,d,S0,S',h,hB,hb,h1,r,e,q,kk⟩:=h
  unfold yW at q
  split at q
  case isFalse=>cases q
  rename_i hlen
  obtain ⟨⟨o,S1⟩,q1,q2⟩:=zc q
  obtain ⟨d',q3,q4⟩:=map_some q2
  cases q4
  obtain ⟨t,os',hS⟩:=hbody cdv A outer s H E hr
  have m0:=JY (N:=N) hB r
  have m1:Md K (fun b=>if Pt b then none else H b) B [] (L2.yM N vs) H (Zh N.length ds):=⟨fun b o q=>by
   by_cases z:Pt b
   ·simp [z] at q
   ·simpa [z] using q,m0.blk,m0.len,m0.sh,fun i hi=>(by cases hi),fun i j a hi=>by cases hi⟩
  have slot:(Zh N.length ds)[i0]?=some (some (.adr h)):=by
   unfold Zh
   rw [QO (by rw [Ql];omega),QE,e];rfl
  have but:∀ {H':Hp},zT (fun b=>if Pt b then none else H b) H'->∀ b o,H b=some o->¬ Pt b->H' b=some o:=fun s b o q n=>s b o (by simpa [n] using q)
  refine ⟨t,hS.ps,hS.ok (fun b=>if Pt b then none else H b) B Pt h (L2.yM N vs) H (Zh N.length ds) S0 o _ _ ⟨m1,hb,fun b z=>by simp [z],by rw [yT];exact h1,slot,by simp⟩ q1 ?_⟩
  cases o with
  | nx ρ =>
   simp only [outD] at q3;cases q3
   exact fun σ' H' w'=>kk _ H' (but w'.md.grow) w'.out (by simp [Rep])
  | rt d' =>
   simp only [outD] at q3;cases q3
   exact fun v H' s' e1 _ r'=>kk v H' (but s') e1 r'
  | bk ρ=>cases q3
  | ct ρ=>cases q3
theorem _root_.L2.FnOk.noW {i0 k:Nat} {f:Kc} {fd:Kh} {ps:List Kw}:FnOk P w K mg base CX0 k f fd ps (spW K κ i0 fun _ _=>none) :=
 ⟨fun _ _ _ _ z=>(by obtain ⟨_,_,_,_,_,_,_,_,_,_,_,_,e,_⟩:=z;cases e),fun _ _ _ _ _ _ _ _ _ _ _ _ _ z=>(by obtain ⟨_,_,_,_,_,_,_,_,_,_,_,_,e,_⟩:=z;cases e)⟩
end
open Classical in
def mLend (j:Nat) (M:WM):Ev->Option Out:=fun ρ=>(ρ[j]?.join).bind fun x=>(asL x).bind fun S =>
 if h:∃ r:Ev×List D,∀ a,M (ρ.set j (some (.adr a))) S=some (.nx (r.1.set j (some (.adr a))),r.2) then some (.nx (h.choose.1.set j (some (.lst h.choose.2)))) else none
section
variable {K:KC} {fr:Bool} {os os1 ol ol1:List Nat} {j:Nat}
end
theorem se_globT {X:Cx} {st:Bool} {os:List Nat} {x:Kw} {a:Kc} {o:KA} {KP:Array Ka} {n:Nat} {ds:List D} {vs:List V} {pos:KB} (hg:Gl X x) (hm:X.mg x=some (.ref a)) (hl:X.K.lookup a=some o) (hc:o.cls=.type "tuple") (hd:o.data=.seq KP n) (hz:KP.size<=Kg) (hv:zY vs KP.toList)
  (hr:∀ H B,zr X.K H B ds vs) (hdb:(x == ("__debug__":Kw))=false:=by decide):SE X st os (.Name x pos) (tC (.ref a)) (fC (.tup ds)) :=
 ⟨pe_glob hg hm rfl hdb,fun P6 P7 σ H ρ d Q m q k=>by
  cases q
  refine k _ H (.refl H) ?_
  simp only [Rep]
  exact ⟨a,vs,rfl,.inr ⟨o,KP,n,hl,hc,hd,hz,hv⟩,hr _ _⟩⟩
abbrev lFs (vb vl:V) (c:Int) (s:Kc):List (Kw×V):=[("bodies",vb),("laying",vl),("count",.int c),("steps",.ref s)]
def kO (C:Kc):Kd where
 hd K H B P h S:=∃ (dx s:Kc) (hs:List V) (c:Int) (vb vl:V) (b l:D) (st:List D),(∀ x,P x↔x=h\/x=s)/\h≠s/\H h=some (.ins C dx (lFs vb vl c s))/\H s=some (.lst hs)/\S=.int c::b::l::st/\Rep K H B b vb/\Rep K H B l vl/\zr K H B st hs
 mtb:=fun z x hx=>by
  obtain ⟨dx,s,hs,c,vb,vl,b,l,st,p,ne,h1,h2,_⟩:=z
  rcases (p x).1 hx with rfl | rfl
  ·exact ⟨_,h1,trivial⟩
  ·exact ⟨_,h2,trivial⟩
 goes:=fun z g k=>by
  obtain ⟨dx,s,hs,c,vb,vl,b,l,st,p,ne,h1,h2,e,r1,r2,r3⟩:=z
  exact ⟨dx,s,hs,c,vb,vl,b,l,st,p,ne,k _ _ ((p _).2 (.inl rfl)) h1,k _ _ ((p _).2 (.inr rfl)) h2,e,Rep.goes g _ _ r1,Rep.goes g _ _ r2,zr.goes g _ _ r3⟩
structure LCls (K:KC) (C:Kc):Prop where
 cls:Cls K C
 nb:Yt K C "bodies"
 nl:Yt K C "laying"
 nc:Yt K C "count"
 ns:Yt K C "steps"
def wFld (n:Nat):WF:=fun ρ S=>(S[n]?).map fun d=>(d,S)
section
variable {K:KC} {C:Kc} {os os' ol:List Nat} {i:Nat} {st:Bool}
theorem we_cnt (T:LCls K C):YF K (kO C) st os i (Wc K (ZA i) "count") (wFld 0):=fun P6 P7 P h σ H ρ S d S' Q w q k=>by
 obtain ⟨dx,s,hs,c,vb,vl,b,l,sts,p,ne,h1,h2,e,r1,r2,r3⟩:=w.at_
 subst e
 cases q
 exact ⟨.ref h,w.ref,h,C,dx,_,.int c,rfl,h1,T.cls,T.nc,rfl,k _ H (fun b o q _=>q) w (by simp [Rep])⟩
theorem we_bod (T:LCls K C):YF K (kO C) st os i (Wc K (ZA i) "bodies") (wFld 1):=fun P6 P7 P h σ H ρ S d S' Q w q k=>by
 obtain ⟨dx,s,hs,c,vb,vl,b,l,sts,p,ne,h1,h2,e,r1,r2,r3⟩:=w.at_
 subst e
 cases q
 exact ⟨.ref h,w.ref,h,C,dx,_,vb,rfl,h1,T.cls,T.nb,rfl,k _ H (fun b o q _=>q) w r1.low⟩
theorem we_lay (T:LCls K C):YF K (kO C) st os i (Wc K (ZA i) "laying") (wFld 2):=fun P6 P7 P h σ H ρ S d S' Q w q k=>by
 obtain ⟨dx,s,hs,c,vb,vl,b,l,sts,p,ne,h1,h2,e,r1,r2,r3⟩:=w.at_
 subst e
 cases q
 exact ⟨.ref h,w.ref,h,C,dx,_,vl,rfl,h1,T.cls,T.nl,rfl,k _ H (fun b o q _=>q) w r2.low⟩
def wIxL (F:WF) (fk:Ev->Option D):WF:=fun ρ S=>(F ρ S).bind fun r=>(asL r.1).bind fun ds=>(fk ρ).bind fun d=>(asI d).bind fun k=>(atI ds k).map fun x=>(x,r.2)
theorem we_wixOk {κ:Kd} {ta tb:TE} {F:WF} {fk:Ev->Option D} (ha:YF K κ true os i ta F) (hb:EOk K true os tb fk):YF K κ st os i (tOp (rIxL K) ta tb) (wIxL F fk):=fun P6 P7 P h σ H ρ S d S' Q w q k=>by
 obtain ⟨⟨y,S1⟩,q1,qa⟩:=zc q
 obtain ⟨ds,q2,qb⟩:=zc qa
 obtain ⟨dk,q3,qc⟩:=zc qb
 obtain ⟨n,q4,qd⟩:=zc qc
 obtain ⟨x,q5,q6⟩:=map_some qd
 cases q6
 cases y <;> simp only [asL] at q2 <;> cases q2
 refine ha P6 P7 P h σ H ρ S _ S1 _ w q1 fun v H1 k1 w1 r1=>?_
 refine hb P6 P7 σ H1 ρ dk _ w1.md q3 fun u H2 s2 r2=>?_
 have e2:=gH r2 q4
 subst e2
 have r1':Rep K H2 (Bl P7 os σ) (.lst ds) v:=Rep.up s2 r1
 simp only [Rep] at r1'
 obtain ⟨a,xs,rfl,hq,hr⟩:=r1'
 obtain ⟨v,e1,r3⟩:=hr.atI q5
 exact ⟨a,xs,n,v,rfl,rfl,.inl hq.1,e1,k v H2 (fun b o q n=>s2 _ _ (k1 _ _ q n)) (w1.up s2) r3.low⟩
def wDGet (F:WF) (fk:Ev->Option D):WF:=fun ρ S=>(F ρ S).bind fun r=>(fk ρ).bind fun y=>(gv r.1 y).map fun x=>(x,r.2)
theorem we_wdgetOk {κ:Kd} {ta tb:TE} {F:WF} {fk:Ev->Option D} (ha:YF K κ true os i ta F) (hb:EOk K true os tb fk):YF K κ st os i (tDGet ta tb) (wDGet F fk):=fun P6 P7 P h σ H ρ S d S' Q w q k=>by
 obtain ⟨⟨x,S1⟩,q1,qa⟩:=zc q
 obtain ⟨y,q2,qb⟩:=zc qa
 obtain ⟨z,h4,q6⟩:=map_some qb
 cases q6
 refine ha P6 P7 P h σ H ρ S _ S1 _ w q1 fun v H1 k1 w1 r1=>?_
 refine hb P6 P7 σ H1 ρ y _ w1.md q2 fun u H2 s2 r2=>?_
 cases x <;> cases y <;> simp only [gv] at h4 <;> try (cases h4)
 have r1':=Rep.up s2 r1
 simp only [Rep] at r1' r2
 obtain ⟨b,KO,rfl,⟨hb,_⟩,rfl,hr⟩:=r1'
 subst r2
 obtain ⟨w',g1,g2⟩:=look_v hr h4
 exact ⟨b,w',rfl,by rw [<- g1];exact J8.k (k:=.inl _) hb,k w' H2 (fun b o q n=>s2 _ _ (k1 _ _ q n)) (w1.up s2) g2.low⟩
def wInc:WM:=fun ρ S=>match S with
 | .int c::r=>some (.nx ρ,.int (c+1)::r)
 | _=>none
theorem ws_inc (T:LCls K C):WOk K (kO C) os os ol i (sFldAug K (ZA i) (tC (.int 1)) rAdd "count") wInc:=fun P6 P7 P h σ H ρ S o S' E w q k=>by
 obtain ⟨dx,s,hs,c,vb,vl,b,l,sts,p,ne,h1,h2,e,r1,r2,r3⟩:=w.at_
 subst e
 cases q
 refine ⟨.ref h,w.ref,h,C,dx,_,.int c,rfl,h1,T.cls,T.nc,rfl,c,1,rfl,rfl,dx,_,h1,by show 4<1000;decide,?_⟩
 have hk:∀ b o,H b=some o->¬ P b->upd H h (.ins C dx (lFs vb vl (c+1) s)) b=some o:=fun b o q n=>by rw [zv (fun e=>n ((p b).2 (.inl e)))];exact q
 have g:=w.goes hk
 exact k σ _ (w.write hk ⟨dx,s,hs,c+1,vb,vl,b,l,sts,p,ne,zw,by rw [zv (Ne.symm ne)];exact h2,rfl,Rep.goes g _ _ r1,Rep.goes g _ _ r2,zr.goes g _ _ r3⟩)
def wStep (f:Ev->Option D):WM:=fun ρ S=>(f ρ).bind fun d=>if S.length<Kg then some (.nx ρ,S++[d]) else none
theorem ws_step (T:LCls K C) {te:TE} {f:Ev->Option D} (he:EOk K true os te f):WOk K (kO C) os os ol i (YJ (tBM K "list" yP (Wc K (ZA i) "steps") (zW te ZS))) (wStep f):=fun P6 P7 P h σ H ρ S o S' E w q k=>by
 obtain ⟨d,q1,q2⟩:=zc q
 split at q2
 case isFalse=>cases q2
 rename_i hl
 cases q2
 obtain ⟨dx,s,hs,c,vb,vl,b,l,sts,p,ne,h1,h2,e,r1,r2,r3⟩:=w.at_
 subst e
 refine ⟨.ref h,w.ref,h,C,dx,_,.ref s,rfl,h1,T.cls,T.ns,rfl,.inl ⟨rfl,hs,.inl (.inl h2)⟩,?_⟩
 refine he P6 P7 σ H ρ d _ w.md q1 fun v H' s' r=>?_
 have w':=w.up s'
 have hk:∀ b o,H' b=some o->¬ P b->upd H' s (.lst (hs++[v])) b=some o:=fun b o q n=>by rw [zv (fun e=>n ((p b).2 (.inr e)))];exact q
 have g:=w'.goes hk
 have hlen:hs.length<Kg:=by rw [r3.length];simp only [Qg] at hl;omega
 exact ⟨s,hs,v,rfl,rfl,s' _ _ h2,hlen,k σ _ (w'.write hk ⟨dx,s,hs++[v],c,vb,vl,b,l,sts++[d],p,ne,by rw [zv ne];exact s' _ _ h1,zw,rfl,Rep.goes g _ _ (r1.up s'),Rep.goes g _ _ (r2.up s'),zr.goes g _ _ ((r3.up s').append (.one r))⟩)⟩
def Yx (i:Nat) (mf:List D->List D->Option (D×List D)) (G:WL):WF:=fun ρ S=>(ρ[i]?.join).bind fun x=>(G ρ S).bind fun r=>mf (x::r.1) r.2
theorem we_methOk {mn:Kw} {mf:List D->List D->Option (D×List D)} {tl:TA} {G:WL} (hm:∀ vb vl c s,(lFs vb vl c s).lookup mn=none) (ha:WAOk K (kO C) os i tl G):YF K (kO C) st os i (WJ C mn (spW K (kO C) 0 mf) [] E0 (ZA i) tl) (Yx i mf G):=fun P6 P7 P h σ H ρ S d S' Q w q k=>by
 obtain ⟨x,q0,q⟩:=zc q
 obtain ⟨⟨ds,S1⟩,q1,q2⟩:=zc q
 have ex:=Yz q0
 rw [w.slot] at ex
 cases ex
 obtain ⟨dx,s,hs,c,vb,vl,b,l,sts,p,ne,h1,h2,e,r1,r2,r3⟩:=w.at_
 refine ⟨.ref h,w.ref,h,dx,_,rfl,h1,hm _ _ _ _,?_⟩
 refine ha P6 P7 P h σ H ρ S ds S1 _ w q1 fun vs H1 k1 w1 r=>?_
 rw [Pl]
 refine ⟨Bl P7 os σ,P,_,d,S1,S',h,fun a ha=>w1.md.tracked ha,fun b hb=>.inl (w1.blk b hb),w1.at_,.cons (by simp [Rep]) r,rfl,q2,fun v H' hk r1 r2=>?_⟩
 exact k v H' (fun b o q n=>hk _ _ (k1 _ _ q n) n) (w1.write hk r1) r2.low
end
section
variable {X:Cx} {C:Kc} {os os' ol:List Nat} {i:Nat} {st:Bool} {x:Kw} {p pos:KB}
theorem wl_fld {f:Kw} {F:WF} (hw:YF X.K (kO C) st os i (Wc X.K (ZA i) f) F) (hN:X.N[i]?=some x:=by rfl) (hv:Vis X.env.scope x:=by first | exact Or.inl rfl | exact Or.inr (Or.inl rfl) | exact Or.inr (Or.inr rfl)) (hd:(x == ("__debug__":Kw))=false:=by decide)
  (hcd:(x == ("__classdict__":Kw))=false:=by decide) (hb:Kp (.Name x p) f X.env (Kz (.Name x p) X.env)=Kz (.Name x p) X.env:=by rfl):WE X (kO C) st os i (.Attribute (.Name x p) f pos) (Wc X.K (ZA i) f) F:=⟨pe_fld (pv i hN hv hd hcd) hb,hw⟩
theorem wl_ix {κ:Kd} {a b:Kv} {ta tb:TE} {F:WF} {fk:Ev->Option D} (ha:WE X κ true os i a ta F) (hb:SE X true os b tb fk) (hs:Wy b:=by intro _ _;rfl) {K':KC} (hK:X.K=K':=by rfl):WE X κ st os i (.Subscript a b pos) (tOp (rIxL K') ta tb) (wIxL F fk):=by
 subst hK
 exact ⟨wW j3 ha.pe hb.pe hs,we_wixOk ha.ok hb.ok⟩
theorem wl_dget {κ:Kd} {k:Nat} {a b:Kv} {ta tb:TE} {F:WF} {fk:Ev->Option D} (hr:Room k X.A) (ha:WE X κ true os i a ta F) (hb:SE X true os b tb fk) (hs:NoSl b:=by intro _ _;rfl):WE X κ st os i (.Subscript a b pos) (tDGet ta tb) (wDGet F fk):=⟨JV (gc hr) ha.pe hb.pe hs,we_wdgetOk ha.ok hb.ok⟩
theorem wl_inc {tpos:KB} {j:Nat} {cp:KB} (T:LCls X.K C) (hN:X.N[i]?=some x:=by rfl) (hv:Vis X.env.scope x:=by first | exact Or.inl rfl | exact Or.inr (Or.inl rfl) | exact Or.inr (Or.inr rfl)) (hd:(x == ("__debug__":Kw))=false:=by decide)
  (hcd:(x == ("__classdict__":Kw))=false:=by decide):WS X (kO C) os os ol i (.AugAssign (.Attribute (.Name x p) "count" tpos) .Add (.Constant (.int 1) j cp) pos) (sFldAug X.K (ZA i) (tC (.int 1)) rAdd "count") wInc:=⟨ps_fldaug (pv i hN hv hd hcd) yj in_add,ws_inc T⟩
theorem wl_step {e:Kv} {te:TE} {f:Ev->Option D} {apos bpos cpos:KB} (T:LCls X.K C) (h:SE X true os e te f) (hN:X.N[i]?=some x:=by rfl) (hv:Vis X.env.scope x:=by first | exact Or.inl rfl | exact Or.inr (Or.inl rfl) | exact Or.inr (Or.inr rfl)) (hd:(x == ("__debug__":Kw))=false:=by decide)
  (hcd:(x == ("__classdict__":Kw))=false:=by decide) (hb:Kp (.Name x p) "steps" X.env (Kz (.Name x p) X.env)=Kz (.Name x p) X.env:=by rfl) (hs1:Ke [e] X.env=(false,Kz e X.env)::Ke [] X.env:=by rfl)
  (hbase:Kp (.Attribute (.Name x p) "steps" bpos) "append" X.env (Kz (.Attribute (.Name x p) "steps" bpos) X.env)=Kz (.Attribute (.Name x p) "steps" bpos) X.env:=by rfl)
  (hfew:((Kq cpos (Ke [e] X.env)).all (fun x=>!x.1)&&(Kr cpos (Ks [] X.env)).all (fun x=>x.1.isSome)
   && decide ([e].length+([]:List Keyword).length+(if ([]:List Keyword).isEmpty then 0 else 1)<30))=true:=by rfl)
  (hline:(apos.endLine == cpos.line)=true:=by rfl) (hplain:(Kq cpos (Ke [] X.env)).any (·.1)=false:=by rfl) (hs:Kt (.Call (.Attribute (.Attribute (.Name x p) "steps" bpos) "append" apos) [e] [] cpos) none pos.line X.env=pure false:=by rfl) :
  WS X (kO C) os os ol i (.Expr (.Call (.Attribute (.Attribute (.Name x p) "steps" bpos) "append" apos) [e] [] cpos) pos) (YJ (tBM X.K "list" yP (Wc X.K (ZA i) "steps") (zW te ZS))) (wStep f) :=
 ⟨YN (W0 KI PySem.F.slot_list_append PySem.F.type_list_append Yw (pe_fld (pv i hN hv hd hcd) hb) (zM h.pe Zj hs1) hbase hfew hline hs1 hplain) hs,ws_step T h.ok⟩
variable {k:Nat} {fn:Kc} {fd:Kh} {ps:List Kw} {mf:List D->List D->Option (D×List D)} {mn:Kw}
theorem wl_meth {pl:Sem Bool} {e:Kv} {es:List Kv} {tl:TA} {G:WL} {apos:KB} (T:LCls X.K C) (hm:Meth X.K C mn fn) (F:FnOk X.prog X.w X.K X.mg X.base CX0 k fn fd ps (spW X.K (kO C) 0 mf)) (hr:Room k X.A) (hb:Yq X.K fd ps []) (ha:WA X (kO C) os i (e::es) tl G)
  (hl:∀ vb vl c s,(lFs vb vl c s).lookup mn=none) (hN:X.N[i]?=some x:=by rfl) (hv:Vis X.env.scope x:=by first | exact Or.inl rfl | exact Or.inr (Or.inl rfl) | exact Or.inr (Or.inr rfl)) (hd:(x == ("__debug__":Kw))=false:=by decide) (hcd:(x == ("__classdict__":Kw))=false:=by decide)
  (hst:Ke (e::es) X.env=(false,Kz e X.env)::Ke es X.env:=by rfl) (hpl:(Kq pos (Ke es X.env)).any (·.1)=false:=by rfl)
  (ht:Kz (.Call (.Attribute (.Name x p) mn apos) (e::es) [] pos) X.env=(do
   let ov <- Kz (.Name x p) X.env
   standAt apos.atName
   let (f,first) <- holding [ov] (getMethod ov mn pl)
   callWith pos f first (Kq pos (Ke (e::es) X.env)) (Kr pos (Ks [] X.env))):=by rfl) {K':KC} (hK:X.K=K':=by rfl) :
  WE X (kO C) st os i (.Call (.Attribute (.Name x p) mn apos) (e::es) [] pos) (WJ C mn (spW K' (kO C) 0 mf) [] E0 (ZA i) tl) (Yx i mf G):=by
 subst hK
 exact ⟨pe_meth (pv i hN hv hd hcd) T.cls hm F hr hb .nil W1 ha.pa hst hpl ht,we_methOk hl ha.ok⟩
theorem wl_meth0 {pl:Sem Bool} {apos:KB} (T:LCls X.K C) (hm:Meth X.K C mn fn) (F:FnOk X.prog X.w X.K X.mg X.base CX0 k fn fd ps (spW X.K (kO C) 0 mf)) (hr:Room k X.A) (hb:Yq X.K fd ps [])
  (hl:∀ vb vl c s,(lFs vb vl c s).lookup mn=none) (hN:X.N[i]?=some x:=by rfl) (hv:Vis X.env.scope x:=by first | exact Or.inl rfl | exact Or.inr (Or.inl rfl) | exact Or.inr (Or.inr rfl)) (hd:(x == ("__debug__":Kw))=false:=by decide) (hcd:(x == ("__classdict__":Kw))=false:=by decide)
  (ht:Kz (.Call (.Attribute (.Name x p) mn apos) [] [] pos) X.env=(do
   let ov <- Kz (.Name x p) X.env
   standAt apos.atName
   let (f,first) <- holding [ov] (getMethod ov mn pl)
   callWith pos f first (Kq pos (Ke [] X.env)) (Kr pos (Ks [] X.env))):=by rfl) {K':KC} (hK:X.K=K':=by rfl) :
  WE X (kO C) st os i (.Call (.Attribute (.Name x p) mn apos) [] [] pos) (WJ C mn (spW K' (kO C) 0 mf) [] E0 (ZA i) ZS) (Yx i mf (wL zt)):=by
 subst hK
 exact ⟨pe_meth0 (pv i hN hv hd hcd) T.cls hm F hr hb .nil W1 ht,we_methOk hl (wa_lift zA.ok)⟩
end
def inCls (s:Kx) (j:Nat):Kx:=match s with
 | .ClassDef _ _ _ body _ _ _ _ _ _ _=>body.getD j (.Pass ⟨0,0,0,0⟩)
 | _=>.Pass ⟨0,0,0,0⟩
def WO (K:KC) (C:Kc) (m:List D->Option D):Sp:=fun vs H Q _=>∃ (B:Kc->Prop) (x dx:Kc) (vb:V) (b l:D),vs=[.ref x,vb]/\(∀ a,B a->∃ o,H a=some o)/\H x=some (.ins C dx [])/\Rep K H (fun c=>B c\/c=x) b vb/\m [b]=some l /\
 ∀ H' s vl,(∀ c o,H c=some o->c≠x->H' c=some o)->s≠x->H s=none->H' s=some (.lst [])->H' x=some (.ins C dx (lFs vb vl 1 s))->Rep K H' (fun c=>B c\/c=x\/c=s) b vb->Rep K H' (fun c=>B c\/c=x\/c=s) l vl->Q .non H'
abbrev tInit (K:KC) (m:List D->Option D):TS:=y9 (sFld K (ZA 0) (ZA 1) "bodies") (y9 (sFld K (ZA 0) (jx (spM K m) [] E0 (zW (ZA 1) ZS)) "laying") (y9 (sFld K (ZA 0) (tC (.int 1)) "count") (sFld K (ZA 0) (tLst ZS) "steps")))
theorem init_read {K:KC} {C:Kc} {m:List D->Option D} (T:LCls K C) {vs:List V} {H:Hp} {Q:VK} {E:XK} (h:WO K C m vs H Q E):tInit K m { nx:=fun _ H'=>Q .non H',rt:=Q } (L2.yM ["self","bodies"] vs) H:=by
 obtain ⟨B,x,dx,vb,b,l,rfl,hB,hx,rb,hm,k⟩:=h
 refine ⟨vb,rfl,.ref x,rfl,x,C,dx,[],rfl,hx,T.cls,T.nb,by show 0<1000;decide,?_⟩
 refine ⟨vb,rfl,?_⟩
 have ux:∀ {H1:Hp} {o:HO},upd H1 x o x=some o:=zw
 have un:∀ {H1:Hp} {o:HO} {c:Kc},c≠x->upd H1 x o c=H1 c:=fun n=>zv n
 refine ⟨fun c=>B c\/c=x,[b],l,fun a ha=>?_,.cons (Rep.goes (Goes.write (B:=fun c=>B c\/c=x) (.inr rfl) hx trivial) _ _ rb) .nil,hm,fun vl H2 s2 r2=>?_⟩
 ·by_cases e:a=x
  ·rw [e];exact ⟨_,ux⟩
  ·rw [un e];exact hB a (ha.resolve_right e)
 have h2x:=s2 _ _ (ux (H1:=H) (o:=.ins C dx (jr "bodies" vb [])))
 refine ⟨.ref x,rfl,x,C,dx,_,rfl,h2x,T.cls,T.nl,by show 1<1000;decide,?_⟩
 refine ⟨.ref x,rfl,x,C,dx,_,rfl,ux,T.cls,T.nc,by show 2<1000;decide,?_⟩
 refine ⟨by show 0<=_;omega,fun s hs=>?_⟩
 have hsx:s≠x:=fun e=>by rw [e,ux] at hs;cases hs
 refine ⟨.ref x,rfl,x,C,dx,_,rfl,by rw [zv (Ne.symm hsx)];exact ux,T.cls,T.ns,by show 3<1000;decide,?_⟩
 have hs2:H2 s=none:=by rwa [un hsx,un hsx] at hs
 have f2:∀ c o,H2 c=some o->c≠x->∀ (o1 o2 o3 o4:HO),upd (upd (upd (upd H2 x o1) x o2) s o3) x o4 c=some o:=fun c o q n o1 o2 o3 o4=>by
  rw [un n,zv (fun e=>by rw [e,hs2] at q;cases q),un n,un n];exact q
 have f0:∀ c o,H c=some o->c≠x->H2 c=some o:=fun c o q n=>s2 _ _ (by rw [un n];exact q)
 have hs0:H s=none:=by
  cases q:H s with
  | none=>rfl
  | some o=>have:=f0 s o q hsx;rw [hs2] at this;cases this
 refine k _ s vl (fun c o q n=>f2 c o (f0 c o q n) n _ _ _ _) hsx hs0 (by rw [un hsx];exact zw) ux ?_ ?_
 ·refine Rep.goes (Ye (P:=fun c=>c=x) (fun c o q n=>f2 c o (f0 c o q n) n _ _ _ _) (fun c o z q=>by rw [z,hx] at q;cases q;trivial) (fun c z=>.inr z) fun c z=>?_) _ _ rb
  rcases z with z | z | z
  ·exact .inl (.inl z)
  ·exact .inl (.inr z)
  ·exact .inr (by rw [z];exact hs0)
 ·refine Rep.goes (Ye (P:=fun c=>c=x) (fun c o q n=>f2 c o q n _ _ _ _) (fun c o z q=>by rw [z,h2x] at q;cases q;trivial) (fun c z=>.inr z) fun c z=>?_) _ _ r2
  rcases z with z | z | z
  ·exact .inl (.inl z)
  ·exact .inl (.inr z)
  ·exact .inr (by rw [z];exact hs2)
def TL (K:KC) (H H':Hp) (B:Kc->Prop) (d:D) (v:V):Prop:=∃ (p s:Kc) (c e:Int) (hs:List V) (st:List D),v=.ref p/\d=.tup [.int c,.lst st,.int e]/\H s=none/\H' s=some (.lst hs)/\SqT K H' p [.int c,.ref s,.int e]/\zr K H' (fun b=>B b\/b=s) st hs
theorem TL.rep {K:KC} {H H':Hp} {B:Kc->Prop} {d:D} {v:V} (h:TL K H H' B d v) (hB:∀ a,B a->∃ o,H a=some o):Rep K H' B d v:=by
 obtain ⟨p,s,c,e,hs,st,rfl,rfl,h1,h2,h3,h4⟩:=h
 have nb:¬ B s:=fun z=>by obtain ⟨o,q⟩:=hB s z;rw [h1] at q;cases q
 simp only [Rep]
 exact ⟨p,_,rfl,h3,.cons (by simp [Rep]) (.cons (by
  simp only [Rep]
  exact ⟨s,hs,rfl,⟨.inl h2,nb⟩,zr.goes (.less (fun _ z=>.inl z) (.refl H')) _ _ h4⟩) (.cons (by simp [Rep]) .nil))⟩
def spL (K:KC) (m:List D->Option D):Sp:=fun vs H Q _=>∃ (B:Kc->Prop) (ds:List D) (d:D),(∀ a,B a->∃ o,H a=some o)/\zr K H B ds vs/\m ds=some d/\∀ v H',zT H H'->TL K H H' B d v->Q v H'
theorem _root_.L2.FnOk.told {P:Ki} {w:Kk} {K:KC} {mg:Kw->Option Ka} {base:Kl} {k:Nat} {f:Kc} {fd:Kh} {ps:List Kw} {m:List D->Option D} (h:FnOk P w K mg base CX0 k f fd ps (spL K m)):FnOk P w K mg base CX0 k f fd ps (spM K m) :=
 have z:∀ {vs:List V} {H:Hp} {Q:VK} {E:XK},spM K m vs H Q E->spL K m vs H Q E:=fun ⟨B,ds,d,hB,r,q,kk⟩=>⟨B,ds,d,hB,r,q,fun v H' s t=>kk v H' s (t.rep hB)⟩
 ⟨fun vs H Q E x=>h.len vs H Q E (z x),fun A outer s H bd us vs Q E hr I hb r x=>h.run A outer s H bd us vs Q E hr I hb r (z x)⟩
open Classical in
def mLaid (mp:List D->Option D) (f:Ev->Option D) (M2:WM):Ev->Option Out:=fun ρ=>(f ρ).bind fun b=>(mp [b]).bind fun l =>
 if h:∃ r:Int×List D,∀ a,∃ ρ',M2 (ρ.set 1 (some (.adr a))) [.int 1,b,l]=some (.nx ρ',r.2)/\ρ'[2]?=some (some (.int r.1)) then
  match h.choose.2 with
  | .int c::_::_::st=>some (.rt (.tup [.int c,.lst st,.int h.choose.1]))
  | _=>none
 else none
theorem mLaid_eq {mp:List D->Option D} {f:Ev->Option D} {M2:WM} {ρ:Ev} {b l b' l':D} {c e:Int} {st:List D} (h1:f ρ=some b) (h2:mp [b]=some l) (h3:∀ a,∃ ρ',M2 (ρ.set 1 (some (.adr a))) [.int 1,b,l]=some (.nx ρ',.int c::b'::l'::st)/\ρ'[2]?=some (some (.int e))) :
  mLaid mp f M2 ρ=some (.rt (.tup [.int c,.lst st,.int e])):=by
 have h:∃ r:Int×List D,∀ a,∃ ρ',M2 (ρ.set 1 (some (.adr a))) [.int 1,b,l]=some (.nx ρ',r.2)/\ρ'[2]?=some (some (.int r.1)):=⟨(e,_),h3⟩
 unfold mLaid
 rw [h1]
 simp only [oB]
 rw [h2]
 simp only [oB]
 rw [dif_pos h]
 obtain ⟨ρ1,a1,a2⟩:=h.choose_spec 0
 obtain ⟨ρ2,b1,b2⟩:=h3 0
 rw [b1] at a1
 injection a1 with a1
 injection a1 with a1 a3
 injection a1 with a1
 subst a1
 rw [b2] at a2
 injection a2 with a2
 injection a2 with a2
 injection a2 with a2
 rw [<- a2,<- a3]
abbrev tLaid (K:KC) (C:Kc) (mp:List D->Option D) (te:TE) (t2:TS):TS:=y9 (yJ (tMake C (WO K C mp) [] E0 (zW te ZS)) (ZM 1)) (y9 t2 (WH (tTup (zW (Wc K (ZA 1) "count") (zW (Wc K (ZA 1) "steps") (zW (ZA 2) ZS))))))
section
variable {P:Ki} {w:Kk} {K:KC} {mg:Kw->Option Ka} {base:Kl} {C:Kc}
theorem fnLaid_ok {x qual:Kw} {st:Kx} {f:Kc} {fd:Kh} {N ps:List Kw} {k:Nat} {mp:List D->Option D} {fe:Ev->Option D} {M2:WM} (T:LCls K C) (F:Fun K x qual st f fd) (S:FnScope N ps (zO st)) (hps:ps.length=1) (hN:N.length=3)
  (hbody:∀ (cdv:Ka) (A:Kj) (outer:List Env) (s:Kb) (H:Hp) (E:XK),Room k (A.deeper (PyProof.Rows.envOfC qual (zO st) s.heap.objs.size f cdv)) ->
   ∃ te t2,PSs (gw CX0 P w K mg base N qual (zO st) f cdv A outer s H E).nox (ZK st) (tLaid K C mp te t2)/\EOk K true [] te fe/\WOk K (kO C) [] [] [] 1 t2 M2):FnOk P w K mg base CX0 (k+1) f fd ps (spL K (yg ps.length N.length (mLaid mp fe M2))):=by
 refine F.ok S (fun vs H Q E h=>?_) (fun cdv A outer s H vs Q E hr h=>?_)
 ·obtain ⟨B,ds,d,hB,r,q,_⟩:=h
  unfold yg at q
  split at q
  ·rw [r.length];assumption
  ·cases q
 ·obtain ⟨B,ds,d,hB,r,q,kk⟩:=h
  unfold yg at q
  split at q
  case isFalse=>cases q
  rename_i hlen
  obtain ⟨o,q1,q2⟩:=zc q
  obtain ⟨te,t2,hp,he,h2⟩:=hbody cdv A outer s H E hr
  obtain ⟨b,c1,c2⟩:=zc q1
  obtain ⟨l,c3,c4⟩:=zc c2
  split at c4
  case isFalse=>cases c4
  rename_i hc
  have spec:=hc.choose_spec
  generalize hc.choose=rr at *
  obtain ⟨e,S'⟩:=rr
  dsimp only at c4 spec
  have m0:=JY (N:=N) hB r
  refine ⟨_,hp,he H B (L2.yM N vs) H (Zh N.length ds) b _ m0 c1 fun vb H1 s1 rb=>?_⟩
  intro y dx hy hdx hne
  have rb':Rep K H1 B b vb:=by have:Rep K H1 (Bl B [] (L2.yM N vs)) b vb:=rb;rwa [yT] at this
  have d1:∀ a o,H1 a=some o->a≠y/\a≠dx:=fun a o q=>⟨fun z=>(by rw [z,hy] at q;cases q),fun z=>by rw [z,hdx] at q;cases q⟩
  have s1':zT H1 (upd (upd H1 dx (.own y)) y (.ins C dx [])):=fun a o q=>by rw [zv (d1 a o q).1,zv (d1 a o q).2];exact q
  refine ⟨B,y,dx,vb,b,l,rfl,fun a ha=>by obtain ⟨o,q⟩:=hB a ha;exact ⟨o,s1' _ _ (s1 _ _ q)⟩,zw,Rep.goes (Ye (P:=fun _=>False) (fun a o q _=>s1' _ _ q) (fun _ _ z=>z.elim) (fun _ z=>z.elim) fun a z=>z.imp id fun z=>by rw [z];exact hy) _ _ rb',c3,fun H2 s' vl hk hsx hs0 hs2 hx2 r1 r2=>⟨rfl,?_⟩⟩
  have hs1:H1 s'=none:=by
   cases z:H1 s' with
   | none=>rfl
   | some o=>have:=s1' _ _ z;rw [hs0] at this;cases this
  have s12:zT H1 H2:=fun a o q=>hk _ _ (s1' _ _ q) (d1 a o q).1
  have s02:zT H H2:=s1.trans s12
  have hyN:H y=none:=s1.free hy
  have hsN:H s'=none:=s1.free hs1
  have gB:Goes H H2 B (fun c=>B c\/c=y\/c=s'):=Ye (P:=fun _=>False) (fun a o q _=>s02 _ _ q) (fun _ _ z=>z.elim) (fun _ z=>z.elim) fun a z=>by
   rcases z with z | z | z
   ·exact .inl z
   ·exact .inr (by rw [z];exact hyN)
   ·exact .inr (by rw [z];exact hsN)
  have ln:(Zh N.length ds).length=3:=by rw [<- m0.len];simp [L2.yM,r.length,hlen,hps,hN]
  have w0:Wd K (kO C) H (fun c=>B c\/c=y\/c=s') (fun c=>c=y\/c=s') [] 1 y [.int 1,b,l] ((L2.yM N vs).set 1 (some (.ref y))) H2 ((Zh N.length ds).set 1 (some (.adr y))):=by
   refine ⟨⟨s02,fun a ha=>?_,by rw [Qo,Qo];exact m0.len,fun j d q _=>?_,fun j hj=>(nomatch hj),fun j _ _ hj=>(nomatch hj)⟩,fun a z=>.inr z,fun a z=>?_,⟨dx,s',[],1,vb,vl,b,l,[],fun a=>Iff.rfl,Ne.symm hsx,hx2,hs2,rfl,by rw [yT];exact r1,by rw [yT];exact r2,.nil⟩,zH (by omega),by simp⟩
   ·rcases ha with ha | ha | ha
    ·obtain ⟨o,q⟩:=hB a ha;exact ⟨o,s02 _ _ q⟩
    ·rw [ha];exact ⟨_,hx2⟩
    ·rw [ha];exact ⟨_,hs2⟩
   ·rw [yT]
    by_cases ej:j=1
    ·subst ej
     rw [zH (by omega)] at q;cases q
     exact ⟨.ref y,zH (by rw [m0.len];omega),by simp [Rep]⟩
    ·rw [zd ej] at q
     obtain ⟨v,g1,g2⟩:=m0.sh j d q (by simp)
     rw [yT] at g2
     exact ⟨v,by rw [zd ej];exact g1,Rep.goes gB _ _ g2⟩
   ·rcases z with z | z
    ·rw [z];exact hyN
    ·rw [z];exact hsN
  obtain ⟨ρ',e1,e2⟩:=spec y
  refine h2 H _ _ y _ H2 _ _ _ _ _ w0 e1 fun σ' H' w'=>?_
  obtain ⟨dx',s2,hs',c,vb',vl',b',l',st',p,ne,f1,f2,f3,f4,f5,f6⟩:=w'.at_
  subst f3
  cases c4
  simp only [outD] at q2
  cases q2
  obtain ⟨ve,g1,g2⟩:=w'.md.sh 2 _ e2 (by simp)
  simp only [Rep] at g2
  subst g2
  refine ⟨.ref y,w'.ref,y,C,dx',_,.int c,rfl,f1,T.cls,T.nc,rfl,.ref y,w'.ref,y,C,dx',_,.ref s2,rfl,f1,T.cls,T.ns,rfl,.int e,g1,by show 3<=_;decide,fun p' hp'=>?_⟩
  have ns:s2≠p':=fun z=>by rw [z,hp'] at f2;cases f2
  refine kk _ _ (w'.md.grow.trans (zG hp')) ⟨p',s2,c,e,hs',st',rfl,rfl,w'.new s2 ((p s2).2 (.inr rfl)),by rw [zv ns];exact f2,.inl (.inl zw),?_⟩
  rw [yT] at f6
  exact zr.goes (.less (fun a z=>by
   rcases z with z | z
   ·exact .inl z
   ·rw [z];exact w'.blk s2 ((p s2).2 (.inr rfl))) (zG hp')) _ _ f6
end
theorem ld_mk {X:Cx} {C:Kc} {mp:List D->Option D} {fe:Ev->Option D} {M2:WM} {e:Kv} {te:TE} {x cn:Kw} {p pc pos pos':KB} {s2 s3:Kx} {t2:TS} (hE:SE X true [] e te fe) (hW:WS X (kO C) [] [] [] 1 s2 t2 M2)
  (h1:PE X e te->PS X (.Assign [.Name x pos'] (.Call (.Name cn p) [e] [] pc) pos) (yJ (tMake C (WO X.K C mp) [] E0 (zW te ZS)) (ZM 1)))
  (h3:PS X s3 (WH (tTup (zW (Wc X.K (ZA 1) "count") (zW (Wc X.K (ZA 1) "steps") (zW (ZA 2) ZS)))))) :
  ∃ te t2,PSs X [.Assign [.Name x pos'] (.Call (.Name cn p) [e] [] pc) pos,s2,s3] (tLaid X.K C mp te t2)/\EOk X.K true [] te fe/\WOk X.K (kO C) [] [] [] 1 t2 M2:=⟨te,t2,Zw (h1 hE.pe) (Zw hW.ps (Yb h3)),hE.ok,hW.ok⟩
section
variable {X:Cx} {fr:Bool} {i:Nat} {os' ol:List Nat} {Zc:List Kx} {t:TS} {m:Ev->Option Out} {pos:KB}
end
theorem se_globS {X:Cx} {st:Bool} {os:List Nat} {x s:Kw} {tk:Tok} {a:Kc} {od:Option Kc} {n:Nat} {sl:Array (Option Ka)} {pos:KB} (hg:Gl X x) (hm:X.mg x=some (.ref a)) (hl:X.K.lookup a=some ⟨.type "tuple",od,.seq #[.str s tk] n,sl⟩) (hdb:(x == ("__debug__":Kw))=false:=by decide) :
  SE X st os (.Name x pos) (tC (.ref a)) (fC (.tup [.str s])):=se_globT (vs:=[.str s]) hg hm hl rfl rfl (by show 1<=Kg;decide) (.cons ⟨tk,rfl⟩ .nil) (fun _ _=>.cons (by simp [Rep]) .nil) hdb
section
variable {K:KC} {κ:Kd} {os os1 os' ol:List Nat} {i:Nat} {t u:TS} {P6 H H':Hp} {P7 P:Kc->Prop} {σ:St} {ρ:Ev} {h:Kc} {S S':List D}
end
section
variable {K:KC} {κ:Kd} {os:List Nat} {i:Nat} {st:Bool}
end
section
variable {X:Cx} {κ:Kd} {st:Bool} {os os' ol:List Nat} {i:Nat} {e a b:Kv} {ta tb te:TE} {F G:WF} {x:Kw} {p pos:KB}
end
section
variable {X:Cx} {κ:Kd} {os os' ol:List Nat} {i:Nat} {pos:KB} {scope:Scope} {own N':List Kw} {k:Nat} {elt target iter:Kv} {wi:TI} {g:TG} {te:TE} {fi:Ev->Option (List D)} {u:D->Ev->Option Ev} {F:WF}
end
section
variable {i j:Nat} {f:Ev->Option D}
end
section
variable {K:KC} {fr:Bool} {os os' os1 os2 ol ol1:List Nat} {j:Nat}
end
section
variable {X:Cx} {st:Bool} {os:List Nat} {e:Kv} {es:List Kv} {tl:TA} {fl:Ev->Option (List D)} {x:Kw} {p pos:KB}
end
open Classical in
def hideF (mf:Kc->List D->Option D):List D->Option D:=fun ds=>if h:∃ d,∀ f,mf f (ds++[.adr f])=some d then some h.choose else none
def wP:List D->Option (List Kw)
 | []=>some []
 | .str x::r=>(wP r).map (x::·)
 | _::_=>none
theorem of_strsD {K:KC} {H:Hp} {B:Kc->Prop}:∀ {ds:List D} {xs:List Kw} {vs:List V},wP ds=some xs->zr K H B ds vs->vs=xs.map V.str
 | [],xs,vs,e,r=>by cases e;simp only [zr] at r;exact r
 | .str x::ds,xs,vs,e,r=>by
  obtain ⟨ys,e1,rfl⟩:=map_some e
  simp only [zr] at r
  obtain ⟨v,t,rfl,h1,h2⟩:=r
  simp only [Rep] at h1
  rw [h1,of_strsD e1 h2];rfl
 | .non::_,_,_,e,_ | .bl _::_,_,_,e,_ | .int _::_,_,_,e,_ | .tup _::_,_,_,e,_ | .lst _::_,_,_,e,_ | .dict _ _::_,_,_,e,_ | .scr _::_,_,_,e,_ | .adr _::_,_,_,e,_ | .kset _::_,_,_,e,_ | .tk _::_,_,_,e,_ | .pin _ _::_,_,_,e,_=>by simp [wP] at e
def dInT:D->D->Option D
 | .str x,.tup ds=>(wP ds).map fun xs=>.bl (inV (.str x) (xs.map V.str))
 | _,_=>none
theorem rok_inT {K:KC}:ROk K (rIn K false) dInT:=fun H B x y d1 d2 d Q hB r1 r2 e k=>by
 cases d1 <;> cases d2 <;> simp only [dInT] at e <;> try (cases e;done)
 rename_i x0 ds
 obtain ⟨xs,e1,rfl⟩:=map_some e
 simp only [Rep] at r1 r2
 subst r1
 obtain ⟨p,vs,rfl,hq,hr⟩:=r2
 have:=of_strsD e1 hr
 subst this
 exact ⟨p,_,rfl,.inr hq,rfl,by simp [J3],k _ H (.refl H) (by simp [Rep])⟩
theorem dInT_t {x:Kw} {xs:List Kw} (h:x∈xs) {ds:List D} (hd:wP ds=some xs):dInT (.str x) (.tup ds)=some (.bl true):=by
 show (wP ds).map _=_
 rw [hd]
 show some (D.bl _)=_
 have:inV (.str x) (xs.map V.str)=true:=by
  unfold inV
  rw [List.any_eq_true]
  exact ⟨.str x,Q3.mpr ⟨x,h,rfl⟩,by simp [eqV]⟩
 rw [this]
theorem dInT_f {x:Kw} {xs:List Kw} (h:x∉xs) {ds:List D} (hd:wP ds=some xs):dInT (.str x) (.tup ds)=some (.bl false):=by
 show (wP ds).map _=_
 rw [hd]
 show some (D.bl _)=_
 have:inV (.str x) (xs.map V.str)=false:=by
  unfold inV
  rw [List.any_eq_false]
  intro y hy
  obtain ⟨z,hz,rfl⟩:=Q3.mp hy
  simp [eqV]
  exact fun e=>h (by rw [<- e];exact hz)
 rw [this]
end M
namespace L2
open PySem PySem.Spec PyProof.Rows
abbrev IsZ (h:Kl) (z:Kc) (f0 f1:Ka) (TI TO:Kc):Prop:=h.get? z=some { cls:=.type "zip",data:=.fields #[f0,f1,.bool false,.ref TI,.ref TO] }
section
variable {prog:Ki} {w:Kk} {A:Kj} {E:Ka->Kb->Prop} {s:Kb}
variable {z TI TO i1 i2 l1 l2:Kc} {j1 j2:Bool} {k1 k2:Nat} {xs ys:Array Ka} {x y a b:Ka}
theorem alive_ {a:Kc} {o:KA} {Q:Option KA->Kb->Prop} (h:s.heap.get? a=some o) (q:Q (some o) s):Ko (Ky prog w) A (loadIfAlive a) Q E s:=by
 intro Γ p hΓ
 unfold loadIfAlive
 rw [Sem.wp_loadIfAlive,h]
 exact q
theorem notFree {Q:Bool->Kb->Prop} {k0:Nat} {f1:Bool} {o0:KA} (hz:IsZ s.heap z (rawInt k0) (.bool f1) TI TO) (ho:s.heap.get? k0=some o0)
  (hQ:∀ g1,IsZ g1 z (rawInt k0) (.bool true) TI TO->g1.objs.size=s.heap.objs.size->(∀ c o,c≠z->s.heap.get? c=some o->g1.get? c=some o)->Q false { s with heap:=g1 }):Ko (Ky prog w) A (Builtin.SmallTypes.ownedTupleIsFree (.ref z)) Q E s:=by
 unfold Builtin.SmallTypes.ownedTupleIsFree
 refine Qa (QD hz rfl (x:=rawInt k0) rfl ?_)
 unfold rawInt
 dsimp only
 refine Qa (alive_ (by rw [Q9];exact ho) ?_)
 simp only [Option.isNone_some,Pj,if_false]
 refine Qa (QD hz rfl (x:=.bool f1) rfl ?_)
 cases f1 with
 | true =>
  rw [KR (by decide)]
  exact Qf (hQ s.heap hz rfl fun c o _ e=>e)
 | false =>
  rw [KQ (by decide)]
  refine Qa (Q6 hz (by simp) fun g1 hz1 s1=>Qf ?_)
  exact hQ g1 hz1 s1.1 fun c o n e=>s1.extBut _ _ n e
theorem zipn_again {Q:Ka->Kb->Prop} (D:ZApart z TI TO i1 i2) (n1:J7 z TI TO i1 i2 l1) (n2:J7 z TI TO i1 i2 l2) {k0:Nat} {f1:Bool} {o0:KA} (hz:IsZ s.heap z (rawInt k0) (.bool f1) TI TO) (ho:s.heap.get? k0=some o0) (hTI:IsPair s.heap TI (.ref i1) (.ref i2))
  (h1:Zn j1 s.heap i1 l1 k1) (h2:Zn j2 s.heap i2 l2 k2) (hl1:SeqAt j1 s.heap l1 xs) (hl2:SeqAt j2 s.heap l2 ys) (hx:xs[k1]?=some x) (hy:ys[k2]?=some y)
  (hQ:∀ h',IsZ h' z (rawInt k0) (.bool true) TI TO->Zn j1 h' i1 l1 (k1+1)->Zn j2 h' i2 l2 (k2+1)->IsPair h' s.heap.objs.size x y->h'.objs.size=s.heap.objs.size+1 ->
   (∀ c o,c≠z->c≠i1->c≠i2->s.heap.get? c=some o->h'.get? c=some o)->Q (.ref s.heap.objs.size) { s with heap:=h' }) :
  Ko (Ky prog w) A (Builtin.«zip.__next__» ⟨[.ref z],[]⟩) (fun fin s'=>∃ v,fin=.done (.ret v)/\Q v s') E s:=by
 obtain ⟨p1,p2,p3,p4⟩:=n1
 obtain ⟨q1,q2,q3,q4⟩:=n2
 show Ko _ _ (field (.ref z) 2 >>= _) _ _ _;refine Qa (QD hz rfl (x:=.bool false) rfl ?_)
 show Ko _ _ (field (.ref z) 3 >>= _) _ _ _;refine Qa (QD hz rfl (x:=.ref TI) rfl ?_)
 refine Qa (QT hTI rfl ?_)
 show Ko _ _ (Builtin.SmallTypes.ownedTupleIsFree (.ref z) >>= _) _ _ _
 refine Qa (notFree hz ho fun g1 hz1 sz1 kp1=>?_)
 simp only [Pj,if_false]
 refine Qa ?_
 rw [<- Array.forIn_toList]
 simp only [PJ,PL]
 refine Qa (Qa (Pb ?_))
 show Ko _ _ (Builtin.SmallTypes.nextOf (.ref i1) >>= _) _ _ _
 refine Qa (yV (h1.at fun o e=>kp1 _ o D.i1z e) (hl1.at fun o e=>kp1 _ o p1 e) hx fun g2 u2 s2=>Qf (Qf ?_))
 refine Qa (Qa (Pb ?_))
 show Ko _ _ (Builtin.SmallTypes.nextOf (.ref i2) >>= _) _ _ _
 refine Qa (yV ((h2.at fun o e=>kp1 _ o D.i2z e).but s2.extBut D.i12.symm) ((hl2.at fun o e=>kp1 _ o q1 e).but s2.extBut q3) hy fun g4 u4 s4=>Qf (Qf (Qf ?_)))
 show Ko _ _ (newTuple [x,y] >>= _) _ _ _
 refine Qa (wpAny_newTuple ?_)
 have sz:g4.objs.size=s.heap.objs.size:=by rw [s4.1,s2.1];exact sz1
 have hz4:IsZ g4 z (rawInt k0) (.bool true) TI TO:=s4.extBut _ _ D.i2z.symm (s2.extBut _ _ D.i1z.symm hz1)
 refine Qf ⟨_,rfl,?_⟩
 show Q (.ref g4.objs.size) _
 have T:IsPair (g4.push { cls:=.type "tuple",data:=.seq #[x,y] }) g4.objs.size x y:=Qp _ rfl
 rw [sz] at T ⊢
 refine hQ _ (Qb _ hz4) ((u2.but s4.extBut D.i12).at fun o e=>Qb _ e) (u4.at fun o e=>Qb _ e) T (by rw [QH,sz]) fun c o c1 c2 c3 e=>Qb _ (s4.extBut _ _ c3 (s2.extBut _ _ c2 (kp1 _ _ c1 e)))
theorem zipn_out {Q:Fin->Kb->Prop} (hh:A.handled=none) (D:ZApart z TI TO i1 i2) (n1:J7 z TI TO i1 i2 l1) (n2:J7 z TI TO i1 i2 l2) {k0:Nat} {f1:Bool} {o0:KA} (hz:IsZ s.heap z (rawInt k0) (.bool f1) TI TO) (ho:s.heap.get? k0=some o0) (hTI:IsPair s.heap TI (.ref i1) (.ref i2))
  (h1:Zn j1 s.heap i1 l1 k1) (h2:Zn j2 s.heap i2 l2 k2) (hl1:SeqAt j1 s.heap l1 xs) (hl2:SeqAt j2 s.heap l2 ys) (hend:xs[k1]?=none\/ys[k2]?=none)
  (hE:∀ h' e,(∀ c o,c≠z->c≠i1->c≠i2->s.heap.get? c=some o->h'.get? c=some o)->(∃ o,h'.get? e=some o/\o.cls=.type "StopIteration")->E (.ref e) { s with heap:=h' }) :
  Ko (Ky prog w) A (Builtin.«zip.__next__» ⟨[.ref z],[]⟩) Q E s:=by
 obtain ⟨p1,p2,p3,p4⟩:=n1
 obtain ⟨q1,q2,q3,q4⟩:=n2
 show Ko _ _ (field (.ref z) 2 >>= _) _ _ _;refine Qa (QD hz rfl (x:=.bool false) rfl ?_)
 show Ko _ _ (field (.ref z) 3 >>= _) _ _ _;refine Qa (QD hz rfl (x:=.ref TI) rfl ?_)
 refine Qa (QT hTI rfl ?_)
 show Ko _ _ (Builtin.SmallTypes.ownedTupleIsFree (.ref z) >>= _) _ _ _
 refine Qa (notFree hz ho fun g1 hz1 sz1 kp1=>?_)
 simp only [Pj,if_false]
 refine Qa ?_
 rw [<- Array.forIn_toList]
 simp only [PJ,PL]
 refine Qa (Qa (Pb ?_))
 show Ko _ _ (Builtin.SmallTypes.nextOf (.ref i1) >>= _) _ _ _
 cases hx:xs[k1]? with
 | none =>
  exact Qa (jf hh (h1.at fun o e=>kp1 _ o D.i1z e) (hl1.at fun o e=>kp1 _ o p1 e) hx fun g2 e s2 he=>hE g2 e (fun c o c1 c2 _ x=>s2 _ _ c2 (kp1 _ _ c1 x)) he)
 | some x =>
  have hy:ys[k2]?=none:=by rcases hend with h | h;rw [hx] at h;cases h;exact h
  refine Qa (yV (h1.at fun o e=>kp1 _ o D.i1z e) (hl1.at fun o e=>kp1 _ o p1 e) hx fun g2 u2 s2=>Qf (Qf ?_))
  refine Qa (Qa (Pb ?_))
  show Ko _ _ (Builtin.SmallTypes.nextOf (.ref i2) >>= _) _ _ _
  exact Qa (jf hh ((h2.at fun o e=>kp1 _ o D.i2z e).but s2.extBut D.i12.symm) ((hl2.at fun o e=>kp1 _ o q1 e).but s2.extBut q3) hy fun g4 e s4 he=>hE g4 e (fun c o c1 c2 c3 x=>s4 _ _ c3 (s2.extBut _ _ c2 (kp1 _ _ c1 x))) he)
structure ZSt (h:Kl) (z TI TO i1 i2 l1 l2:Kc) (j1 j2:Bool) (xs ys:Array Ka) (k:Nat):Prop where
 z:IsZip h z TI TO .none\/∃ (k0:Nat) (f1:Bool) (o0:KA),IsZ h z (rawInt k0) (.bool f1) TI TO/\h.get? k0=some o0/\z<k0
 ti:IsPair h TI (.ref i1) (.ref i2)
 to:∃ a b,IsPair h TO a b
 h1:Zn j1 h i1 l1 k
 h2:Zn j2 h i2 l2 k
 l1:SeqAt j1 h l1 xs
 l2:SeqAt j2 h l2 ys
structure ZLow (z TI TO i1 i2 l1 l2:Kc):Prop where
 ap:ZApart z TI TO i1 i2
 a:TI<z
 b:TO<z
 c:i1<z
 d:i2<z
 n1:J7 z TI TO i1 i2 l1
 n2:J7 z TI TO i1 i2 l2
theorem znext_item {Q:Option Ka->Kb->Prop} {k:Nat} (L:ZLow z TI TO i1 i2 l1 l2) (Z:ZSt s.heap z TI TO i1 i2 l1 l2 j1 j2 xs ys k) (hx:xs[k]?=some x) (hy:ys[k]?=some y)
  (hQ:∀ h',ZSt h' z TI TO i1 i2 l1 l2 j1 j2 xs ys (k+1)->IsPair h' s.heap.objs.size x y->h'.objs.size=s.heap.objs.size+1 ->
   (∀ c o,c≠z->c≠TO->c≠i1->c≠i2->s.heap.get? c=some o->h'.get? c=some o)->Q (some (.ref s.heap.objs.size)) { s with heap:=h' }):Ko (Ky prog w) A (pyNext (.ref z)) Q E s:=by
 obtain ⟨hz,hTI,⟨a,b,hTO⟩,h1,h2,hl1,hl2⟩:=Z
 have D:=L.ap
 have m1:=L.n1
 have m2:=L.n2
 rcases hz with hz | ⟨k0,f1,o0,hz,h0,g0⟩
 ·have zl:z<s.heap.objs.size:=Qk hz
  refine jp D L.n1 L.n2 hz hTI hTO h1 h2 hl1 hl2 hx hy fun h' b1 b2 b3 b4 b5 b6 b7=>hQ h' ⟨Or.inr ⟨_,_,_,b1,b5,zl⟩,b7 _ _ D.TIz D.TITO D.TIi1 D.TIi2 hTI,⟨_,_,b2⟩,b3,b4,hl1.at fun o e=>b7 _ o m1.1 m1.2.1 m1.2.2.1 m1.2.2.2 e,hl2.at fun o e=>b7 _ o m2.1 m2.2.1 m2.2.2.1 m2.2.2.2 e⟩ b5 b6 b7
 ·have hT:s.TypeIs (.ref z) "zip":=⟨_,hz,rfl⟩
  unfold pyNext
  have kz:k0≠z:=QC g0
  have ki1:k0≠i1:=QC (QG L.c g0)
  have ki2:k0≠i2:=QC (QG L.d g0)
  exact Qa (P3 (QR (name:=Str.ofString "__next__") hT F.slot_zip_next (QQ F.slot_zip_next hT F.entry_zip_next
   (zipn_again D L.n1 L.n2 hz h0 hTI h1 h2 hl1 hl2 hx hy fun h' b1 b3 b4 b5 b6 b7=>Qf (hQ h' ⟨Or.inr ⟨_,_,_,b1,b7 _ _ kz ki1 ki2 h0,g0⟩,b7 _ _ D.TIz D.TIi1 D.TIi2 hTI,⟨_,_,b7 _ _ D.TOz D.TOi1 D.TOi2 hTO⟩,b3,b4,hl1.at fun o e=>b7 _ o m1.1 m1.2.2.1 m1.2.2.2 e,hl2.at fun o e=>b7 _ o m2.1 m2.2.2.1 m2.2.2.2 e⟩ b5 b6 fun c o c1 _ c3 c4 e=>b7 c o c1 c3 c4 e)) (F.args_zip_next_1 _))))
theorem znext_end {Q:Option Ka->Kb->Prop} {k:Nat} (hh:A.handled=none) (L:ZLow z TI TO i1 i2 l1 l2) (Z:ZSt s.heap z TI TO i1 i2 l1 l2 j1 j2 xs ys k) (hend:xs[k]?=none\/ys[k]?=none)
  (hQ:∀ h',(∀ c o,c≠z->c≠TO->c≠i1->c≠i2->s.heap.get? c=some o->h'.get? c=some o)->Q none { s with heap:=h' }):Ko (Ky prog w) A (pyNext (.ref z)) Q E s:=by
 obtain ⟨hz,hTI,⟨a,b,hTO⟩,h1,h2,hl1,hl2⟩:=Z
 rcases hz with hz | ⟨k0,f1,o0,hz,h0,g0⟩
 ·exact jE hh L.ap L.n1 L.n2 hz hTI hTO h1 h2 hl1 hl2 hend hQ
 ·have hT:s.TypeIs (.ref z) "zip":=⟨_,hz,rfl⟩
  unfold pyNext
  refine Qa (P3 (QR (name:=Str.ofString "__next__") hT F.slot_zip_next (QQ F.slot_zip_next hT F.entry_zip_next (zipn_out hh L.ap L.n1 L.n2 hz h0 hTI h1 h2 hl1 hl2 hend fun h' e hk he=>?_) (F.args_zip_next_1 _))))
  obtain ⟨o,ho,hc⟩:=he
  refine Qa (wpAny_isInstance (T:="StopIteration") (b:=true) ⟨o,ho,hc⟩ isSubtype_stop ?_)
  exact Qf (hQ _ fun c o c1 _ c3 c4 e=>hk c o c1 c3 c4 e)
theorem ZSt.keep {h h':Kl} {k:Nat} {S:Kc} (L:ZLow z TI TO i1 i2 l1 l2) (hS:z<S) (n1:l1≠S) (n2:l2≠S) (Z:ZSt h z TI TO i1 i2 l1 l2 j1 j2 xs ys k) (hg:∃ o,h'.get? S=some o) (e:∀ b o,b≠S->h.get? b=some o->h'.get? b=some o):ZSt h' z TI TO i1 i2 l1 l2 j1 j2 xs ys k:=by
 have zS:z≠S:=Qu hS
 have aS:TI≠S:=Qu (QG L.a hS)
 have bS:TO≠S:=Qu (QG L.b hS)
 have cS:i1≠S:=Qu (QG L.c hS)
 have dS:i2≠S:=Qu (QG L.d hS)
 obtain ⟨hz,hTI,⟨a,b,hTO⟩,h1,h2,hl1,hl2⟩:=Z
 refine ⟨?_,e _ _ aS hTI,⟨a,b,e _ _ bS hTO⟩,h1.at fun o q=>e _ o cS q,h2.at fun o q=>e _ o dS q,hl1.at fun o q=>e _ o n1 q,hl2.at fun o q=>e _ o n2 q⟩
 rcases hz with hz | ⟨k0,f1,o0,hz,h0,g0⟩
 ·exact Or.inl (e _ _ zS hz)
 ·by_cases hk:k0=S
  ·subst hk
   obtain ⟨o,ho⟩:=hg
   exact Or.inr ⟨_,f1,o,e _ _ zS hz,ho,g0⟩
  ·exact Or.inr ⟨k0,f1,o0,e _ _ zS hz,e _ _ hk h0,g0⟩
structure ZG (h:Kl) (S:Kc) (xs ys:Array Ka) (as:List Kc):Prop where
 rise:as.Pairwise (·<·)
 above:∀ a∈as,S<a
 pairs:∀ (j:Nat) (a:Kc),as[j]?=some a->∃ x y,xs[j]?=some x/\ys[j]?=some y/\IsPair h a x y
theorem zip_loop {R:Result->Kb->Prop} {S:Kc} (hh:A.handled=none) (L:ZLow z TI TO i1 i2 l1 l2) (hS:z<S) (n1:l1≠S) (n2:l2≠S) {n:Nat} (e1:n<=xs.size) (e2:n<=ys.size) (e3:xs[n]?=none\/ys[n]?=none) (hn:n<=Kg) (res:Ka) {h₁:Kl}
  (hR:∀ h' acc c as,(∀ b o,b≠S->b≠z->b≠TO->b≠i1->b≠i2->h₁.get? b=some o->h'.get? b=some o)->h'.get? S=some { cls:=.type "list",dict:=none,data:=.seq acc c,slots:=#[] }->as.length=n->ZG h' S xs ys as ->
   acc.toList=as.map Value.ref->R (.ok (.ret res)) { s with heap:=h' }) :
  ∀ (k i:Nat) (h:Kl) (c:Nat) (acc:Array Ka) (as:List Kc),n - i=k->i<=n->ZSt h z TI TO i1 i2 l1 l2 j1 j2 xs ys i->(∀ b o,b≠S->b≠z->b≠TO->b≠i1->b≠i2->h₁.get? b=some o->h.get? b=some o) ->
   h.get? S=some { cls:=.type "list",dict:=none,data:=.seq acc c,slots:=#[] }->acc.toList=as.map Value.ref->as.length=i->ZG h S xs ys as ->
   codeAny (Ky prog w) A (.builtin "list.extend.loop" ⟨[.ref S,.ref z,res],[]⟩) R { s with heap:=h }:=by
 have zS:S≠z:=QC hS
 have bS:S≠TO:=QC (QG L.b hS)
 have cS:S≠i1:=QC (QG L.c hS)
 have dS:S≠i2:=QC (QG L.d hS)
 have far:∀ a,S<a->a≠z/\a≠TO/\a≠i1/\a≠i2:=fun a ha=>⟨QC (QG hS ha),QC (QG (QG L.b hS) ha),QC (QG (QG L.c hS) ha),QC (QG (QG L.d hS) ha)⟩
 intro k
 induction k with
 | zero =>
  intro i h c acc as hk hi hst hkeep hS' hacc hal hG
  have hin:i=n:=by omega
  refine codeAny_builtin PySem.F.entry_extend_loop ?_
  rw [Around.under_plainId PySem.F.plain_extend_loop _]
  show Ko _ A.in1 (pyNext (.ref z) >>= _) _ _ _
  refine Qa (znext_end (s:={ s with heap:=h }) (A:=A.in1) hh L hst (by rw [hin];exact e3) fun h' he=>?_)
  refine Qf (hR h' acc c as (fun b o b0 b1 b2 b3 b4 e=>he b o b1 b2 b3 b4 (hkeep b o b0 b1 b2 b3 b4 e)) (he S _ zS bS cS dS hS') (by omega) ⟨hG.rise,hG.above,fun j a hj=>?_⟩ hacc)
  obtain ⟨x,y,q1,q2,q3⟩:=hG.pairs j a hj
  obtain ⟨f1,f2,f3,f4⟩:=far a (hG.above a (QS hj))
  exact ⟨x,y,q1,q2,he a _ f1 f2 f3 f4 q3⟩
 | succ k ih =>
  intro i h c acc as hk hi hst hkeep hS' hacc hal hG
  have hlt:i<n:=by omega
  obtain ⟨x,hx⟩:∃ p,xs[i]?=some p:=⟨xs[i],Array.getElem?_eq_getElem (by omega)⟩
  obtain ⟨y,hy⟩:∃ p,ys[i]?=some p:=⟨ys[i],Array.getElem?_eq_getElem (by omega)⟩
  have hsz:acc.size=i:=by rw [<- Array.length_toList,hacc,Ql,hal]
  have hSl:S<h.objs.size:=Qk hS'
  refine codeAny_builtin PySem.F.entry_extend_loop ?_
  rw [Around.under_plainId PySem.F.plain_extend_loop _]
  show Ko _ A.in1 (pyNext (.ref z) >>= _) _ _ _
  refine Qa (znext_item (s:={ s with heap:=h }) L hst hx hy fun h' hst' ht hz hkp=>?_)
  dsimp only at ht hz hkp ⊢
  have hS2:=hkp S _ zS bS cS dS hS'
  have up:∀ b o,b≠S->h'.get? b=some o->(h'.update S (Obj.mapSeq (·.push (Value.ref h.objs.size)))).get? b=some o:=fun b o hb e=>(Pi _ _ (Ne.symm hb)).trans e
  show Ko _ A.in1 (updateSeq S (·.push (Value.ref h.objs.size)) >>= _) _ _ _
  refine Qa ?_
  refine PR hS2 rfl (Qf ⟨plainId_quiet PySem.F.plain_extend_loop _,ih (i+1) _ _ (acc.push (Value.ref h.objs.size)) (as++[h.objs.size]) (by omega) hlt (hst'.keep L hS n1 n2 ⟨_,QZ _ hS2 rfl⟩ up)
   (fun b o b0 b1 b2 b3 b4 e=>up b o b0 (hkp b o b1 b2 b3 b4 (hkeep b o b0 b1 b2 b3 b4 e))) (QZ _ hS2 rfl) (by rw [Array.toList_push,hacc,Q8];rfl) (by rw [Qd,hal];rfl) ⟨?_,?_,?_⟩⟩) (by rw [hsz];omega) (by show (acc.push (Value.ref h.objs.size)).size<=Kg+1;rw [Array.size_push,hsz];omega)
  ·refine List.pairwise_append.mpr ⟨hG.rise,List.pairwise_singleton _ _,fun a ha b hb=>?_⟩
   rw [Qs.mp hb]
   obtain ⟨j,hj⟩:=List.mem_iff_getElem?.mp ha
   obtain ⟨_,_,_,_,q⟩:=hG.pairs j a hj
   exact Qk q
  ·intro a ha
   rcases QL.mp ha with ha | ha
   ·exact hG.above a ha
   ·rw [Qs.mp ha];exact hSl
  ·intro j a hj
   rw [List.getElem?_append] at hj
   split at hj
   ·obtain ⟨x',y',q1,q2,q3⟩:=hG.pairs j a hj
    have hab:=hG.above a (QS hj)
    obtain ⟨f1,f2,f3,f4⟩:=far a hab
    exact ⟨x',y',q1,q2,up _ _ (QC hab) (hkp _ _ f1 f2 f3 f4 q3)⟩
   ·rename_i hnl
    have hj0:j=i:=by
     rcases Nat.eq_or_lt_of_le (Nat.le_of_not_lt hnl) with q | q
     ·omega
     ·rw [Pz (by simp;omega)] at hj;cases hj
    subst hj0
    rw [hal,Nat.sub_self] at hj
    cases hj
    exact ⟨x,y,hx,hy,up _ _ (QC hSl) ht⟩
end
theorem zip_hint:typeLookup (Value.type "zip") (Str.ofString "__length_hint__")=pure none:=by rfl
theorem zip_len:typeLookup (Value.type "zip") (Str.ofString "__len__")=pure none:=by rfl
theorem zipv_hint {prog:Ki} {w:Kk} {A:Kj} {E:Ka->Kb->Prop} {s:Kb} {I:Kc} {Q:Bool->Kb->Prop} (T:s.TypeIs (.ref I) "zip") (q:Q true s) :
  Ko (Ky prog w) A (Builtin.List.listLengthHint (.ref I)) Q E s:=by
 unfold Builtin.List.listLengthHint
 refine Qa (wpAny_specialOf T zip_len ?_)
 dsimp only
 rw [KR (by decide)]
 rw [KR (by decide)]
 refine Qa (wpAny_specialOf T zip_hint ?_)
 exact Qf q
section
variable {prog:Ki} {w:Kk} {A:Kj} {E:Ka->Kb->Prop} {s:Kb}
variable {z TI TO i1 i2 l1 l2:Kc} {j1 j2:Bool} {xs ys:Array Ka}
theorem list_init_zip {R:Result->Kb->Prop} {S:Kc} (hh:A.handled=none) (L:ZLow z TI TO i1 i2 l1 l2) (hS:z<S) (n1:l1≠S) (n2:l2≠S) {n:Nat} (e1:n<=xs.size) (e2:n<=ys.size) (e3:xs[n]?=none\/ys[n]?=none) (hn:n<=Kg)
  (hz:IsZip s.heap z TI TO .none) (Z:ZSt s.heap z TI TO i1 i2 l1 l2 j1 j2 xs ys 0) (hS0:s.heap.get? S=some { cls:=.type "list",data:=.seq #[] })
  (hR:∀ h' acc c as,(∀ b o,b≠S->b≠z->b≠TO->b≠i1->b≠i2->s.heap.get? b=some o->h'.get? b=some o)->h'.get? S=some { cls:=.type "list",dict:=none,data:=.seq acc c,slots:=#[] }->as.length=n->ZG h' S xs ys as ->
   acc.toList=as.map Value.ref->R (.ok (.ret .none)) { s with heap:=h' }) :
  Ko (Ky prog w) A.in1 (Builtin.«list.__init__» { pos:=[.ref S,.ref z] }) (fun fin s'=>match fin with
   | .done f=>R (.ok f) s'
   | .again c'=>c'.quiet=true/\codeAny (Ky prog w) A c' R s') (fun e s'=>R (.error e) s') s:=by
 have zS:S≠z:=QC hS
 unfold Builtin.«list.__init__»
 dsimp only
 rw [KR (by simp)]
 rw [KR (by simp)]
 refine Qa (wpAny_listItems hS0 rfl ?_)
 refine Qa ?_
 unfold Builtin.List.listUpdate
 dsimp only
 refine PR hS0 rfl ?_ (by simp) (by simp)
 have hS2:(s.heap.update S (Obj.mapSeq fun _=>#[])).get? S=some { cls:=.type "list",data:=.seq #[] }:=QZ _ hS0 rfl
 have mv:∀ b o,b≠S->s.heap.get? b=some o->(s.heap.update S (Obj.mapSeq fun _=>#[])).get? b=some o:=fun b o hb q=>((Heap.SameBut.update s.heap S (Obj.mapSeq fun _=>#[])).2 b hb).trans q
 generalize s.heap.update S (Obj.mapSeq fun _=>#[])=h2 at *
 refine Qa (wpAny_letGo ?_)
 have hz2:IsZip h2 z TI TO .none:=mv _ _ (Ne.symm zS) hz
 have T2:({ s with heap:=h2 }:Kb).TypeIs (.ref z) "zip":=⟨_,hz2,rfl⟩
 unfold Builtin.List.listExtendWith
 refine Qa (wpAny_typeOf T2 ?_)
 rw [KR (by simp [Builtin.List.listSameRef,zS])]
 refine Qa (wpAny_pyIter_zip (s:={ s with heap:=h2 }) hz2 ?_)
 refine Qa (Pb (zipv_hint T2 ?_))
 rw [KQ (by rfl)]
 refine Qa (PP ?_)
 refine Qa ?_
 show Ko _ A.in1 (updateSeq S (·.push .none) >>= fun _=>updateSeq S (·.pop)) _ _ _
 refine Qa (PR hS2 rfl ?_)
 have hS3:=QZ (Obj.mapSeq (·.push Value.none)) hS2 rfl
 refine PR hS3 rfl ?_
 have hS4:=QZ (Obj.mapSeq (·.pop)) hS3 rfl
 have oth:∀ b o,b≠S->h2.get? b=some o->((h2.update S (Obj.mapSeq (·.push Value.none))).update S (Obj.mapSeq (·.pop))).get? b=some o :=
  fun b o hb e=>(Pi _ _ (Ne.symm hb)).trans ((Pi _ _ (Ne.symm hb)).trans e)
 refine Qf ⟨plainId_quiet F.plain_extend_loop _,?_⟩
 exact zip_loop (s:=s) hh L hS n1 n2 e1 e2 e3 hn .none (h₁:=s.heap) hR n 0 _ _ _ [] (by omega) (by omega) (Z.keep L hS n1 n2 ⟨_,hS4⟩ fun b o hb e=>oth b o hb (mv b o hb e)) (fun b o b0 _ _ _ _ e=>oth b o b0 (mv b o b0 e)) hS4 rfl rfl ⟨List.Pairwise.nil,fun a ha=>(by cases ha),fun j a hj=>by simp at hj⟩
theorem call_list_zip {Q:Ka->Kb->Prop} (hh:A.handled=none) (L:ZLow z TI TO i1 i2 l1 l2) {n:Nat} (e1:n<=xs.size) (e2:n<=ys.size) (e3:xs[n]?=none\/ys[n]?=none) (hn:n<=Kg)
  (hz:IsZip s.heap z TI TO .none) (Z:ZSt s.heap z TI TO i1 i2 l1 l2 j1 j2 xs ys 0)
  (h:∀ h' acc c as,(∀ b o,b≠z->b≠TO->b≠i1->b≠i2->s.heap.get? b=some o->h'.get? b=some o)->h'.get? s.heap.objs.size=some { cls:=.type "list",dict:=none,data:=.seq acc c,slots:=#[] }->as.length=n->ZG h' s.heap.objs.size xs ys as ->
   acc.toList=as.map Value.ref->Q (.ref s.heap.objs.size) { s with heap:=h' }) :
  Ko (Ky prog w) A (call (.type "list") [.ref z]) Q E s:=by
 refine callType_codes F.called_list (F.typeCall_list_1 _) F.entry_list_init (code_list_new (.ref z) (Q₁:=fun obj s₁=>obj=.ref s.heap.objs.size/\s₁={ s with heap:=s.heap.push { cls:=.type "list",data:=.seq #[] } }) ⟨rfl,rfl⟩) ?_
 rintro obj s₁ ⟨rfl,rfl⟩
 have hnew:(s.heap.push { cls:=.type "list",data:=.seq #[] }).get? s.heap.objs.size=some { cls:=.type "list",data:=.seq #[] }:=Qp _ rfl
 have kp:∀ b o,s.heap.get? b=some o->(s.heap.push { cls:=.type "list",data:=.seq #[] }).get? b=some o:=fun b o q=>Qb _ q
 have zS:z<s.heap.objs.size:=Qk hz
 have ne1:l1≠s.heap.objs.size:=Qu (by cases j1 <;> (obtain ⟨o,ho,_⟩:=Z.l1;exact Qk ho))
 have ne2:l2≠s.heap.objs.size:=Qu (by cases j2 <;> (obtain ⟨o,ho,_⟩:=Z.l2;exact Qk ho))
 refine ⟨⟨_,hnew,rfl⟩,F.args_list_init_2 _ _,?_⟩
 refine list_init_zip (A:=A.in1) (s:={ s with heap:=s.heap.push { cls:=.type "list",data:=.seq #[] } }) hh L zS ne1 ne2 e1 e2 e3 hn (kp _ _ hz) (Z.keep L zS ne1 ne2 ⟨_,hnew⟩ fun b o _ e=>kp b o e) hnew fun h' acc c as k e al g ea=>?_
 exact ⟨rfl,h h' acc c as (fun b o b1 b2 b3 b4 q=>k b o (Qu (Qk q)) b1 b2 b3 b4 (kp b o q)) e al g ea⟩
end
end L2
namespace L2
open PySem PySem.Spec PyProof.Rows
def JZ (H:Hp):List Kc->List (V×V)->Hp
 | a::as,p::ps=>JZ (upd H a (.tup [p.1,p.2])) as ps
 | _,_=>H
theorem Y4:∀ (as:List Kc) (ps:List (V×V)) (H:Hp) (b:Kc),(∀ a∈as,b≠a)->JZ H as ps b=H b
 | [],_,_,_,_=>rfl
 | _::_,[],_,_,_=>rfl
 | a::as,p::ps,H,b,h=>by
  unfold JZ
  rw [Y4 as ps _ b fun c hc=>h c (Qe _ hc),zv (h a Qt)]
theorem layT_in:∀ (as:List Kc) (ps:List (V×V)) (H:Hp) (j:Nat) (a:Kc) (p:V×V),as.Pairwise (·<·)->as[j]?=some a->ps[j]?=some p->JZ H as ps a=some (.tup [p.1,p.2])
 | [],_,_,j,_,_,_,h,_=>by simp at h
 | _::_,[],_,j,_,_,_,_,h=>by simp at h
 | b::as,q::ps,H,0,a,p,hp,h,h'=>by
  cases h
  cases h'
  unfold JZ
  rw [Y4 as ps _ b fun c hc=>Qu ((P5.mp hp).1 c hc),zw]
 | b::as,q::ps,H,j+1,a,p,hp,h,h'=>by
  unfold JZ
  exact layT_in as ps _ j a p (P5.mp hp).2 (by simpa using h) (by simpa using h')
theorem vals_refs:∀ as:List Kc,zY (as.map V.ref) (as.map Value.ref)
 | []=>.nil
 | _::as=>.cons rfl (vals_refs as)
section
variable {X:Cx} {a b:Kv} {ta:TA} {p p2 pos pos2:KB}
def tListZip (j1 j2:Bool) (K:KC) (ta:TA):TE:=fun σ H Q=>ta σ H fun vs H1=>∃ (fa fb:Kc) (xs ys:List V),vs=[.ref fa,.ref fb]/\Sq j1 K H1 fa xs/\Sq j2 K H1 fb ys /\
 ∀ (as:List Kc) (l:Kc),as.length=(xs.zip ys).length->as.Pairwise (·<·)->(∀ c∈as,H1 c=none/\l<c)->H1 l=none->Q (.ref l) (upd (JZ H1 as (xs.zip ys)) l (.lst (as.map V.ref)))
theorem pe_listZip (j1 j2:Bool) {k:Nat} (hr:Room k X.A) (hg:Gl X "list") (hm:X.mg "list"=none) (hg2:Gl X "zip") (hm2:X.mg "zip"=none) (ha:PA X [a,b] ta)
  (hs:Ke [a,b] X.env=[(false,Kz a X.env),(false,Kz b X.env)]:=by rfl) (hs2:Ke [b] X.env=[(false,Kz b X.env)]:=by rfl)
  (h2:Ke [.Call (.Name "zip" p2) [a,b] [] pos2] X.env=(false,Kz (.Call (.Name "zip" p2) [a,b] [] pos2) X.env)::Ke [] X.env:=by rfl)
  (hpl:(Kq pos (Ke [] X.env)).any (·.1)=false:=by rfl) :
  PE X (.Call (.Name "list" p) [.Call (.Name "zip" p2) [a,b] [] pos2] [] pos) (tListZip j1 j2 X.K ta):=by
 intro KJ s σ H Q I h
 refine Pg (jL I hg hm boot_list ?_)
 refine KH ?_ h2 hpl
 rw [h2]
 show Ko _ _ (spliced ((false,Kz (.Call (.Name "zip" p2) [a,b] [] pos2) X.env)::Kq pos (Ke [] X.env))) _ _ s
 refine Calls.spliced_cons ?_
 refine Pg (jL I hg2 hm2 boot_zip ?_)
 refine KH (thn (ha pos2 KJ s σ H _ I h) fun us s1 ⟨vs,H1,I1,r1,q1⟩=>?_) (by rw [hs,hs2]) (by rw [hs2];rfl)
 obtain ⟨fa,fb,xs,ys,e,hx,hy,q⟩:=q1
 subst e
 cases r1 with
 | cons r rr =>
  cases rr with
  | cons r' rr =>
   cases rr
   cases r
   cases r'
   obtain ⟨its1,v1,p1,z1⟩:=I1.seq hx
   obtain ⟨its2,v2,p2',z2⟩:=I1.seq hy
   have L1:=v1.length
   have L2:=v2.length
   refine J6 p1 p2' fun h' c1 c2 c3 c4 c5 c6 up=>?_
   have I2:Inv X KJ σ H1 { s1 with heap:=h' }:=I1.kept (t':=s1.toks) up
   have n1:fa<s1.heap.objs.size:=by cases j1 <;> (obtain ⟨o,ho,_⟩:=p1;exact Qk ho)
   have n2:fb<s1.heap.objs.size:=by cases j2 <;> (obtain ⟨o,ho,_⟩:=p2';exact Qk ho)
   have fO:∀ c,@LE.le Nat instLENat s1.heap.objs.size c->JE X KJ H1 c:=fun c hc=>I1.fpOk (H':=H1) hc (I1.hok.fresh hc)
   generalize hN:s1.heap.objs.size=N at *
   have LO:ZLow (N+4) (N+2) (N+3) N (N+1) fa fb:=by
    refine ⟨zapart_new N,Q1 (Q0 _),Q0 _,Q1 (Q1 (Q1 (Q0 _))),Q1 (Q1 (Q0 _)),⟨?_,?_,?_,?_⟩,⟨?_,?_,?_,?_⟩⟩ <;> refine Qu ?_
    all_goals first | exact n1 | exact n2 | exact Nat.lt_add_right _ n1 | exact Nat.lt_add_right _ n2
   have Z:ZSt h' (N+4) (N+2) (N+3) N (N+1) fa fb j1 j2 its1.toArray its2.toArray 0:=⟨Or.inl c1,c2,⟨_,_,c3⟩,c4,c5,p1.at fun o e=>up _ o e,p2'.at fun o e=>up _ o e⟩
   have hl:(xs.zip ys).length=min its1.length its2.length:=by rw [List.length_zip,L1,L2]
   show Ko _ _ (spliced (Kq pos (Ke [] X.env))) _ _ _
   refine Qf ?_
   refine call_list_zip (s:={ s1 with heap:=h' }) hr.hd LO (n:=min its1.length its2.length) (by rw [Qj];exact Nat.min_le_left _ _) (by rw [Qj];exact Nat.min_le_right _ _) ?_ (by rw [<- L1];exact Qv (Nat.min_le_left _ _) z1) c1 Z fun h2 acc c as k2 e al g ea=>?_
   ·rcases Nat.le_total its1.length its2.length with q | q
    ·exact .inl (by rw [PH q];simp)
    ·exact .inr (by rw [PM q];simp)
   have fr:H1 h'.objs.size=none:=I2.hok.fresh (Qh _)
   have fras:∀ c∈as,H1 c=none/\h'.objs.size<c:=fun c hc=>⟨I2.hok.fresh (Q2 (g.above c hc)),g.above c hc⟩
   refine ⟨.ref h'.objs.size,upd (JZ H1 as (xs.zip ys)) h'.objs.size (.lst (as.map V.ref)),?_,rfl,q as _ (by rw [al,hl]) g.rise fras fr⟩
   have out:∀ b,H1 b≠none->upd (JZ H1 as (xs.zip ys)) h'.objs.size (.lst (as.map V.ref)) b=H1 b:=fun b hb=>by
    rw [zv (fun z=>hb (by rw [z];exact fr)),Y4 _ _ _ _ fun c hc z=>hb (by rw [z];exact (fras c hc).1)]
   have old:∀ b o,h'.get? b=some o->upd (JZ H1 as (xs.zip ys)) h'.objs.size (.lst (as.map V.ref)) b=H1 b:=fun b o ho=>by
    have hb:b<h'.objs.size:=Qk ho
    rw [zv (Qu hb),Y4 _ _ _ _ fun c hc=>Qu (QG hb (g.above c hc))]
   have k3:∀ b o,b∉[N+4,N+3,N,N+1]->h'.get? b=some o->h2.get? b=some o:=fun b o hb e=>by
    simp only [Qc,Qn,or_false,not_or] at hb
    exact k2 b o hb.1 hb.2.1 hb.2.2.1 hb.2.2.2 e
   have fch:∀ b∈[N+4,N+3,N,N+1],JE X KJ H1 b:=fun b hb=>fO b (by
    simp only [Qc,Qn,or_false] at hb
    rcases hb with rfl | rfl | rfl | rfl
    ·exact Q5 _ 4
    ·exact Q5 _ 3
    ·exact Qh _
    ·exact Q5 _ 1)
   have hch:∀ b∈[N+4,N+3,N,N+1],(b∈X.ex\/X.s₀.heap.objs.size<=b)/\b≠X.env.locals/\(∀ x c,X.env.cells.lookup x=some c->c≠b)/\∀ p∈X.pn++KJ,p.1≠b:=fun b hb=>by
    have fb:=fch b hb
    exact ⟨fb.2.2.2.1,fb.2.1,fb.2.2.2.2.1,fb.2.2.2.2.2⟩
   have ntr:∀ b u,H1 b=some u->b∉[N+4,N+3,N,N+1]:=fun b u e hb=>by rw [(fch b hb).1] at e;cases e
   have Hok:HOk X.prog X.w (upd (JZ H1 as (xs.zip ys)) h'.objs.size (.lst (as.map V.ref))) h2:=fun c o e'=>by
    by_cases hcs:c=h'.objs.size
    ·subst hcs
     rw [zw] at e'
     cases e'
     exact ⟨by rw [Ql,al,<- L1];exact Qv (Nat.min_le_left _ _) z1,as.map Value.ref,_,vals_refs as,by rw [<- ea];simpa using e⟩
    ·by_cases hca:c∈as
     ·obtain ⟨j,hj⟩:=List.mem_iff_getElem?.mp hca
      obtain ⟨u1,u2,q1,q2,q3⟩:=g.pairs j c hj
      have hjl:j<(xs.zip ys).length:=by rw [hl,<- al];exact (Qm.mp hj).1
      obtain ⟨pr,hpr⟩:∃ pr,(xs.zip ys)[j]?=some pr:=⟨_,Qz hjl⟩
      rw [zv hcs,layT_in as (xs.zip ys) H1 j c pr g.rise hj hpr] at e'
      cases e'
      obtain ⟨x,y⟩:=pr
      have hz:=List.getElem?_zip_eq_some.mp hpr
      obtain ⟨u1',b1,ru1⟩:=v1.get hz.1
      obtain ⟨u2',b2,ru2⟩:=v2.get hz.2
      rw [List.getElem?_toArray] at q1 q2
      rw [b1] at q1
      rw [b2] at q2
      cases q1
      cases q2
      exact ⟨by show 2<=Kg;decide,[u1,u2],.cons ru1 (.cons ru2 .nil),⟨_,q3,rfl,_,rfl⟩⟩
     ·rw [zv hcs,Y4 _ _ _ _ fun d hd z=>hca (by rw [z];exact hd)] at e'
      refine (I2.hok c o e').stay (fun d v hd q'=>k3 d v ?_ q') (fun d q'=>?_) fun d xs q'=>?_
      ·rcases hd with rfl | hd
       ·exact ntr _ _ e'
       ·exact ntr _ _ hd
      ·rw [out d (by rw [q'];simp)];exact q'
      ·rw [out d (by rw [q'];simp)];exact q'
   refine I2.step (g':=s1.gens) (d':=s1.drawn) (t':=s1.toks) (ch:=[N+4,N+3,N,N+1]) hch (fun b o _ _ hb q _=>k3 b o hb q) (fun b o _ _ hb q _=>⟨o.slots,k3 b o hb q⟩) (fun b o _ q n=>by rw [old b o q];exact n) (fun b o hb q=>⟨o,k3 b o hb q⟩)
    (fun b xs q=>by rw [out b (by rw [q];simp)];exact q) (fun b o u q=>by rw [out b (by rw [q];simp)];exact q) (fun b ps q=>⟨#[],by rw [out b (by rw [q];simp),q];simp⟩) (fun m hm=>?_) Hok I2.bare
   obtain ⟨o,es,ep,ho,r⟩:=hm
   exact ⟨o,es,ep,k3 _ o (fun hb=>(hch _ hb).2.1 rfl) ho,r⟩
end
end L2
namespace L2
open PySem PySem.Spec PyProof.Rows
section
variable {X:Cx}
def rRepZ (K:KC):R2:=fun x y H Q=>∃ l k xs,x=.ref l/\y=.int k/\SqT K H l xs/\xs≠[]/\0<=k/\xs.length*k.toNat<=1000/\k<=1000/\(k=1->Q (.ref l) H)/\(k≠1->∀ p,H p=none->Q (.ref p) (upd H p (.tup (List.replicate k.toNat xs).flatten)))
theorem op_repZ {K':KC} (hK:X.K=K':=by rfl):OpR X (binaryOp .Mult) (rRepZ K'):=by
 subst hK
 intro KJ s σ H x y v u Q I rx ry h
 obtain ⟨l,k,xs,rfl,rfl,hq,hne,h1,hz,hk,q1,q2⟩:=h
 cases rx
 obtain ⟨t,rfl⟩:=ry
 obtain ⟨KP,r,hT,hlen⟩:=I.tuple hq
 have hT0:=hT
 obtain ⟨o,ho,hc,n,hd⟩:=hT
 have T:s.TypeIs (.ref l) "tuple":=⟨o,ho,hc⟩
 have hl:=r.length
 refine wpAny_binaryOp_repeat_ref (T:="tuple") (U:="int") (by decide) T (fun s'=>typeIs_int s' k t) wx F.fills_int_mul F.slot_int_rmul repeat_tuple F.slot_int_index.lookup ?_
 refine QQ F.slot_int_rmul (typeIs_int s k t) F.entry_int_rmul ?_ (F.args_int_rmul_2 _ _)
 unfold Builtin.«int.__rmul__» Builtin.Int.intBinary
 rw [show slotArgs "__rmul__" 1 { pos:=[Value.int k t,Value.ref l] }=pure (Value.int k t,[Value.ref l]) by rfl]
 refine Qa (Qf ?_)
 dsimp only
 rw [show Builtin.Int.intOfSelf (Value.int k t)=pure k by rfl]
 refine Qa (Qf ?_)
 refine Qa ?_
 show Ko _ _ (asInt? (Value.ref l)) _ _ _
 unfold asInt?
 refine Qa (wpAny_load ho ?_)
 rw [hd]
 refine Qf ?_
 refine Qa (PP ?_)
 refine Qf ⟨_,rfl,rfl,T,?_⟩
 refine QQ F.slot_tuple_mul T F.entry_tuple_mul ?_ (F.args_tuple_mul_2 _ _)
 refine Qa ?_
 rw [show asIndex (Value.int k t)=pure k by rfl]
 refine Qf ?_
 dsimp only
 rw [KR (by simp;omega)]
 unfold Builtin.Tuple.tupleItemsOf
 refine Qa (Qa (QT ho hd ?_))
 refine Qf ?_
 have hne':KP≠[]:=fun e=>by rw [e] at hl;exact hne (List.eq_nil_of_length_eq_zero hl)
 have hem:KP.toArray.isEmpty=false:=by
  cases KP with
  | nil=>exact absurd rfl hne'
  | cons _ _=>rfl
 rw [hem,Bool.false_or]
 by_cases hk1:k=1
 ·subst hk1
  rw [KQ (by rfl)]
  unfold Builtin.Tuple.tupleIsExact
  refine Qa (Qa (wpAny_typeOf T ?_))
  refine Qf ?_
  rw [KQ (by rfl)]
  refine Qa (PP ?_)
  exact Qf ⟨_,rfl,.ref l,H,I,rfl,q1 rfl⟩
 ·rw [KR (by simpa using hk1)]
  by_cases hk0:k=0
  ·subst hk0
   rw [KQ (by rfl)]
   unfold Builtin.Tuple.tupleExact
   refine Qa (QU ?_ (by show 0<=Kg;decide))
   have hf:H s.heap.objs.size=none:=I.hok.fresh (Qh _)
   refine Qf ⟨_,rfl,.ref s.heap.objs.size,upd H s.heap.objs.size (.tup []),I.laid (t':=s.toks) (fun b u e=>Qb _ e) (Qh _) ?_,rfl,q2 hk1 _ hf⟩
   exact ⟨by show 0<=Kg;decide,[],.nil,⟨_,Qp _ rfl,rfl,_,rfl⟩⟩
  rw [KR (by simp;omega)]
  have hsz:KP.toArray.size*k.toNat<=1000:=by rw [Qj,<- hl];exact hz
  have hcast:(KP.toArray.size:Int)*k<=1000:=by
   have:((KP.toArray.size*k.toNat:Nat):Int)=(KP.toArray.size:Int)*k:=by
    rw [Int.natCast_mul,P0 (by omega)]
   omega
  rw [KR (by omega)]
  have htm:Builtin.Tuple.tupleTooMany ((KP.toArray.size:Int)*k)=false:=by
   unfold Builtin.Tuple.tupleTooMany
   exact KU (Int.not_lt.mpr (Int.le_trans hcast (by decide)))
  rw [htm,KR Qi]
  have f0:List.foldl (fun x1 x2=>x1++x2) #[] (List.replicate k.toNat KP.toArray)=(List.replicate k.toNat KP).flatten.toArray:=by
   have:=wF KP k.toNat []
   rw [Ps] at this
   exact this
  have hlen2:(List.replicate k.toNat KP).flatten.length<=Kg:=by
   rw [len_rep,Nat.mul_comm]
   rw [Qj] at hsz
   exact Qv hsz (by decide)
  rw [f0]
  unfold Builtin.Tuple.tupleExact
  refine Qa (QU ?_ (by exact hlen2))
  have rr:zY (List.replicate k.toNat xs).flatten (List.replicate k.toNat KP).flatten:=by
   generalize k.toNat=m
   induction m with
   | zero=>exact .nil
   | succ m ih =>
    rw [QJ,QJ,QX,QX]
    exact zY.append r ih
  have hf:H s.heap.objs.size=none:=I.hok.fresh (Qh _)
  refine Qf ⟨_,rfl,.ref s.heap.objs.size,upd H s.heap.objs.size (.tup (List.replicate k.toNat xs).flatten),I.laid (t':=s.toks) (fun b u e=>Qb _ e) (Qh _) ?_,rfl,q2 hk1 _ hf⟩
  exact ⟨by rw [rr.length];exact hlen2,_,rr,⟨_,Qp _ rfl,rfl,_,rfl⟩⟩
end
end L2
namespace M
open PySem PySem.Spec L2
open PySem.W (Frag)
theorem same_lay:∀ (as:List Kc) (ps:List (V×V)) (H:Hp),as.Pairwise (·<·)->(∀ a∈as,H a=none)->zT H (JZ H as ps)
 | [],_,H,_,_=>.refl H
 | _::_,[],H,_,_=>.refl H
 | a::as,p::ps,H,hp,h=>by
  unfold JZ
  have hp':=P5.mp hp
  exact (zG (h a Qt)).trans (same_lay as ps _ hp'.2 fun b hb=>by rw [zv (QC (hp'.1 b hb))];exact h b (Qe _ hb))
section
variable {X:Cx} {os:List Nat} {a b:Kv} {ta tb:TE} {ca cb:Ev->Option (List D)} {p p2 pos pos2:KB} {k:Nat}
def gi (ca cb:Ev->Option (List D)):Ev->Option D:=fun ρ=>(ca ρ).bind fun xs=>(cb ρ).map fun ys=>.lst (zipD xs ys)
theorem sf_listZip {s j1 j2:Bool} (hr:Room k X.A) (hg:Gl X "list") (hm:X.mg "list"=none) (hg2:Gl X "zip") (hm2:X.mg "zip"=none) (ha:SN X s j1 os a ta ca) (hb:SN X s j2 os b tb cb)
  (h1:Ke [a,b] X.env=(false,Kz a X.env)::Ke [b] X.env:=by rfl) (h2:Ke [b] X.env=(false,Kz b X.env)::Ke [] X.env:=by rfl)
  (hs:Ke [a,b] X.env=[(false,Kz a X.env),(false,Kz b X.env)]:=by rfl) (hs2:Ke [b] X.env=[(false,Kz b X.env)]:=by rfl)
  (h3:Ke [.Call (.Name "zip" p2) [a,b] [] pos2] X.env=(false,Kz (.Call (.Name "zip" p2) [a,b] [] pos2) X.env)::Ke [] X.env:=by rfl)
  (hpl:(Kq pos (Ke [] X.env)).any (·.1)=false:=by rfl) {K':KC} (hK:X.K=K':=by rfl) :
  SF X os (.Call (.Name "list" p) [.Call (.Name "zip" p2) [a,b] [] pos2] [] pos) (tListZip j1 j2 K' (zW ta (zW tb ZS))) (gi ca cb):=by
 subst hK
 exact
 ⟨pe_listZip j1 j2 hr hg hm hg2 hm2 (zM ha.pe (zM hb.pe Zj h2) h1) hs hs2 h3 hpl,fun P6 P7 σ H ρ d Q m q kk=>by
  obtain ⟨dx,h1,h2⟩:=zc q
  obtain ⟨dy,h3,rfl⟩:=map_some h2
  refine ha.ok P6 P7 σ H ρ dx _ m h1 fun a xs H1 s1 hc1 r1=>?_
  refine hb.ok P6 P7 σ H1 ρ dy _ (m.up s1) h3 fun b ys H2 s2 hc2 r2=>?_
  have r1':=r1.up s2
  have hc1':=hc1.up s2
  refine ⟨a,b,xs,ys,rfl,hc1'.sq,hc2.sq,fun as l hal hp hfr hl=>?_⟩
  have hS:=same_lay as (xs.zip ys) H2 hp fun c hc=>(hfr c hc).1
  have hl':JZ H2 as (xs.zip ys) l=none:=by rw [Y4 _ _ _ _ fun c hc=>Qu (hfr c hc).2];exact hl
  have hS2:=hS.trans (zG (o:=.lst (as.map V.ref)) hl')
  refine kk l _ _ (s1.trans (s2.trans hS2)) (s1.free (s2.free hl)) zw ?_
  have g:Goes H2 _ (Bl P7 os σ) (fun b=>Bl P7 os σ b\/b=l):=.fresh hl hS2
  have q1:=zr.goes g _ _ r1'
  have q2:=zr.goes g _ _ r2
  have l1:=r1'.length
  have l2:=r2.length
  refine zr.of_at (by rw [Ql,hal];simp [zipD,List.length_zip,l1,l2]) fun i d v e1 e2=>?_
  rw [QE] at e2
  obtain ⟨c,e3,rfl⟩:=Ph.mp e2
  have hi:i<(xs.zip ys).length:=by rw [<- hal];exact (Qm.mp e3).1
  have hi':=hi
  rw [List.length_zip] at hi'
  obtain ⟨⟨x,y⟩,e4⟩:∃ pr,(xs.zip ys)[i]?=some pr:=⟨_,Qz hi⟩
  have hz:=List.getElem?_zip_eq_some.mp e4
  obtain ⟨u,h5,h5'⟩:=q1.get (i:=i) (d:=dx[i]) (by simp [show i<dx.length by omega])
  obtain ⟨v,h6,h6'⟩:=q2.get (i:=i) (d:=dy[i]) (by simp [show i<dy.length by omega])
  rw [hz.1] at h5;cases h5
  rw [hz.2] at h6;cases h6
  have e5:d=.tup [dx[i],dy[i]]:=by
   simp only [zipD] at e1
   rw [Px] at e1
   simp [show i<dx.length by omega,show i<dy.length by omega] at e1
   exact e1.symm
  subst e5
  simp only [Rep]
  refine ⟨c,_,rfl,.inl (.inl ?_),.cons h5' (.one h6')⟩
  rw [zv (QC (hfr c (QS e3)).2)]
  exact layT_in as _ H2 i c (x,y) hp e3 e4⟩
end
def tNever:TS:=fun _ _ _=>False
def mNever:Ev->Option Out:=fun _=>none
theorem ss_never {X:Cx} {fr:Bool} {os os' ol:List Nat} {st:Kx}:SS X fr os os' ol st tNever mNever :=
 ⟨fun _ _ _ _ _ _ h=>h.elim,fun _ _ _ _ _ _ _ _ q _=>by cases q⟩
def rNotB:R2:=fun x y H Q=>∃ a b,x=.bl a/\y=.bl b/\Q (.bl (!(a == b))) H
theorem op_notB {X:Cx}:OpR X (Km .IsNot) rNotB:=by
 intro KJ s σ H x y v u Q I rx ry h
 obtain ⟨a,b,rfl,rfl,q⟩:=h
 cases rx
 cases ry
 exact wpAny_isNot_plain rfl (Zr I q (by cases a <;> cases b <;> rfl))
def dNotB:D->D->Option D
 | .bl a,.bl b=>some (.bl (!(a == b)))
 | _,_=>none
theorem rok_notB {K:KC}:ROk K rNotB dNotB:=fun H B x y d1 d2 d Q hB r1 r2 e k=>by
 cases d1 <;> cases d2 <;> simp only [dNotB] at e <;> cases e
 simp only [Rep] at r1 r2
 exact ⟨_,_,r1,r2,k _ H (.refl H) (by simp [Rep])⟩
def gu:D->D->Option D
 | .tup ds,.int k=>if ds≠[]/\0<=k/\ds.length*k.toNat<=1000/\k<=1000 then some (.tup (List.replicate k.toNat ds).flatten) else none
 | _,_=>none
section
variable {X:Cx} {st:Bool} {os:List Nat} {a b:Kv} {ta tb:TE} {fa fb:Ev->Option D} {pos:KB}
theorem rok_repZ {K:KC}:ROk K (rRepZ K) gu:=fun H B x y d1 d2 d Q hB r1 r2 e kk=>by
 cases d1 <;> cases d2 <;> simp only [gu] at e <;> try (cases e)
 split at e
 case isFalse=>cases e
 rename_i hc
 cases e
 simp only [Rep] at r1 r2
 obtain ⟨l,xs,rfl,hq,hr⟩:=r1
 subst r2
 rename_i ds n
 have hl:=hr.length
 refine ⟨l,n,xs,rfl,rfl,hq,fun z=>?_,hc.2.1,by rw [hl];exact hc.2.2.1,hc.2.2.2,fun h1=>?_,fun h1 p hp=>?_⟩
 ·rw [z] at hl;exact hc.1 (List.eq_nil_of_length_eq_zero hl.symm)
 ·subst h1
  refine kk _ H (.refl H) ?_
  simp only [Rep]
  exact ⟨l,xs,rfl,hq,by simpa using hr⟩
 ·refine kk _ _ (zG hp) ?_
  simp only [Rep]
  exact ⟨p,_,rfl,.inl (.inl zw),(hr.rep n.toNat).up (zG hp)⟩
theorem se_repZ (ha:SE X st os a ta fa) (hb:SE X st os b tb fb) {K':KC} (hK:X.K=K':=by rfl):SE X st os (.BinOp a .Mult b pos) (tOp (rRepZ K') ta tb) (f2 gu fa fb):=by
 subst hK
 exact zE op_repZ rok_repZ ha hb
end
end M
namespace L2
open PySem PySem.Spec PyProof.Rows
section
variable {prog:Ki} {w:Kk} {A:Kj} {E:Ka->Kb->Prop} {s:Kb}
variable {z TI TO i1 i2 i3 l1 l2 l3:Kc} {j:Bool} {k:Nat} {xs ys zs:Array Ka} {x y u a b c:Ka}
end
section
variable {prog:Ki} {w:Kk} {A:Kj} {E:Ka->Kb->Prop} {s:Kb}
end
end L2
namespace L2
open PySem PySem.Spec PyProof.Rows
section
variable {prog:Ki} {w:Kk} {A:Kj} {E:Ka->Kb->Prop} {s:Kb} {z TI TO i1 i2 i3 l1 l2 l3:Kc} {j:Bool} {k:Nat} {xs ys zs:Array Ka} {x y u a b c:Ka}
end
section
variable {X:Cx}
end
end L2
namespace M
open PySem PySem.Spec L2
open PySem.W (Frag)
section
variable {X:Cx} {s j:Bool} {os:List Nat} {a b c:Kv} {ta tb tc:TE} {ca cb cc:Ev->Option (List D)} {pos p:KB}
end
section
variable {X:Cx} {st:Bool} {os:List Nat} {o e:Kv} {to te:TE} {fo fe:Ev->Option D} {apos cpos:KB}
end
theorem sqT {X:Cx} {os:List Nat} {e:Kv} {t:TE} {f:Ev->Option D} (h:SE X true os e t f):SC X true os e t (zj true f):=h.seq
theorem sqF {X:Cx} {os:List Nat} {e:Kv} {t:TE} {f:Ev->Option D} (h:SE X true os e t f):SC X false os e t (zj false f):=h.seq
theorem fsc {N P:List Kw} {sc:Scope} (h1:sc.kind=.function:=by rfl) (h2:sc.isCoroutine=false:=by rfl) (h3:sc.isGenerator=false:=by rfl) (h4:N.Nodup:=by decide +kernel) (h5:N.take P.length=P:=by rfl) (h6:∀ x∈P,sc.names.lookup x=some .local\/sc.names.lookup x=some .cell:=by decide +kernel) (h7:∀ y∈sc.names,y.2≠.free:=by decide +kernel):FnScope N P sc:=⟨h1,h2,h3,h4,h5,h6,h7⟩
end M
namespace L2
open PySem PySem.Spec
open PySem.W (Frag)
theorem Fun.one {K:KC} {x qual y:Kw} {st:Kx} {f:Kc} {fd:Kh} (F:Fun K x qual st f fd)
  (h:∀ (kV doc pm:Ka) (an:Option Kc) (cdv ct u:Ka),bindArgs (fnOf x qual (Yl st) (ZK st) (zO st) .none kV doc pm an cdv ct) ⟨[u],[]⟩=pure [(y,u)]:=by exact fun _ _ _ _ _ _ _=>rfl) (s:Kb) (v:Ka):BindsTo s fd ⟨[v],[]⟩ [(y,v)]:=by
 obtain ⟨oc,od,kV,doc,pm,an,cdv,ct,osl,rfl,lk,hcd⟩:=F.ex
 exact .of_eq (h _ _ _ _ _ _ _)
end L2
namespace M
open PySem PySem.Spec L2
open PySem.W (Frag)
def ownT:Kv->List Kw
 | .Name x _=>[x]
 | .Tuple es _ _=>es.filterMap fun e=>match e with | .Name x _=>some x | _=>none
 | _=>[]
def ndB:List Kw->Bool
 | []=>true
 | x::xs=>!xs.contains x&&ndB xs
theorem nd_of:∀ {N:List Kw},ndB N=true->N.Nodup
 | [],_=>List.nodup_nil
 | x::xs,h=>by
  simp only [ndB,QI,Bool.not_eq_true'] at h
  have q:x∉xs:=fun z=>by
   have:=h.1
   rw [List.contains_iff_mem.mpr z] at this
   exact nomatch this
  exact Qx.mpr (And.intro q (nd_of h.2))
section
variable {X:Cx} {fr:Bool} {os os' ol:List Nat} {pos:KB} {s:Bool} {scope:Scope} {k:Nat} {elt target iter:Kv} {ifs:List Kv} {wi:TI} {g:TG} {tc:TT} {te:TE} {fi:Ev->Option (List D)} {u:D->Ev->Option Ev} {cf:Ev->Option Bool} {e:Ev->Option D}
theorem ZW {i:Nat} {x:Kw} (hN:ndB X.N=true:=by kernel_rfl) (hi:X.N[i]?=some x:=by rfl) (hx:Loc X.env.scope x:=by first | exact Or.inl rfl | exact Or.inr rfl) (ho:i∉os:=by decide) (hf:X.fn x=true\/X.env.scope.names.lookup x=some .local:=by first | exact .inl rfl | exact .inr rfl | assumption) :
  SG X os (.Name x pos) (ZM i) (zP i):=sg_name (nd_of hN) hi hx ho hf
abbrev cxT (X:Cx) (scope:Scope) (target:Kv) (s₂:Kb) (H₂:Hp) (fp:List Kc) (C:Kc):Cx:=ZC X scope (ownT target) (X.N++ownT target) s₂ H₂ fp C
theorem Jb (hi:SI X false os target iter wi fi) (hg:∀ s₂ H₂ fp C,SG (cxT X scope target s₂ H₂ fp C) os target g u) (ht:∀ s₂ H₂ fp C,SPF (cxT X scope target s₂ H₂ fp C) os ifs tc cf) (he:∀ s₂ H₂ fp C,SE (cxT X scope target s₂ H₂ fp C) true os elt te e)
  (c:CompOk X scope (ownT target) (X.N++ownT target) k:=by exact compOk_of (by kernel_rfl)) (hc:X.calm=true:=by rfl) (hs:∀ x,foldedSetIterable iter X.env x=pure x:=by intro _;rfl):SF X os (.ListComp elt [⟨target,iter,ifs,0⟩] scope pos) (wO k wi g tc te) (ZX k fi u cf e):=sf_comp c hc hi hg ht he hs
theorem ss_sT {i:Nat} {x:Kw} {pos' spos:KB} (hN:X.N.Nodup) (hi:SI X false os target iter wi fi:=by left) (hg:∀ s₂ H₂ fp C,SG (cxT X scope target s₂ H₂ fp C) os target g u:=by left) (ht:∀ s₂ H₂ fp C,SPF (cxT X scope target s₂ H₂ fp C) os ifs tc cf:=by left) (he:∀ s₂ H₂ fp C,SE (cxT X scope target s₂ H₂ fp C) true os elt te e:=by left)
  (c:CompOk X scope (ownT target) (X.N++ownT target) k:=by exact compOk_of (by kernel_rfl)) (hix:X.N[i]?=some x:=by rfl) (hx:X.env.scope.names.lookup x=some .local:=by rfl) (hc:X.calm=true:=by rfl) (hsw:Kt (.ListComp elt [⟨target,iter,ifs,0⟩] scope pos) (some (.Name x pos')) spos.line X.env=pure true:=by rfl)
  (h1:∀ j∈os',j∈os/\j≠i:=by decide) (h2:∀ j∈os,j∈os'\/j=i:=by decide) (hs:∀ x,foldedSetIterable iter X.env x=pure x:=by intro _;rfl) :
  SS X fr os os' ol (.Assign [.Name x pos'] (.ListComp elt [⟨target,iter,ifs,0⟩] scope pos) spos) (yJ (wO k wi g tc te) (ZM i)) (Zx i (ZX k fi u cf e)):=ss_setComp hN hix hx c hc hi hg ht he hsw h1 h2 hs
end
def Kn (P:Ki) (w:Kk) (K:KC) (mg:Kw->Option Ka) (base:Kl) (x:Kw) (k:Nat) (ps:List Kw) (sp:Sp):Prop :=
 ∃ f fd,FnOk P w K mg base CX0 k f fd ps sp/\mg x=some (.ref f)/\keepIn K (.ref f)=true/\Yq K fd ps []
def KnM (P:Ki) (w:Kk) (K:KC) (mg:Kw->Option Ka) (base:Kl) (C:Kc) (x:Kw) (k:Nat) (ps:List Kw) (sp:Sp):Prop :=
 ∃ f fd,FnOk P w K mg base CX0 k f fd ps sp/\Meth K C x f/\Yq K fd ps []
def Df (K:KC) (mg:Kw->Option Ka) (x:Kw) (st:Kx):Prop:=∃ f fd,Fun K x x st f fd/\mg x=some (.ref f)
def DfM (K:KC) (C:Kc) (x q:Kw) (st:Kx):Prop:=∃ f fd,Fun K x q st f fd/\Meth K C x f
def DfI (K:KC) (C:Kc) (q:Kw) (st:Kx):Prop:=∃ f fd,Fun K "__init__" q st f fd/\Mk K C f
def BD (x q:Kw) (st:Kx) (ps:List Kw):Prop:=∀ (kV doc pm:Ka) (an:Option Kc) (cdv ct:Ka) (us:List Ka),us.length=ps.length->bindArgs (fnOf x q (Yl st) (ZK st) (zO st) .none kV doc pm an cdv ct) ⟨us,[]⟩=pure (ps.zip us)
abbrev BoX (P:Ki) (w:Kk) (K:KC) (mg:Kw->Option Ka) (base:Kl) (N:List Kw) (q:Kw) (st:Kx) (k:Nat) (R:Cx->Prop):Prop :=
 ∀ (f:Kc) (cdv:Ka) (A:Kj) (outer:List Env) (s:Kb) (H:Hp) (E:XK),Room k (A.deeper (PyProof.Rows.envOfC q (zO st) s.heap.objs.size f cdv))->R (gw CX0 P w K mg base N q (zO st) f cdv A outer s H E).nox
def KnI (P:Ki) (w:Kk) (K:KC) (mg:Kw->Option Ka) (base:Kl) (C:Kc) (k:Nat) (ps:List Kw) (sp:Sp):Prop :=
 ∃ f fd,FnOk P w K mg base CX0 k f fd ps sp/\Mk K C f/\Yq K fd ps []
def TS1 (K:KC) (a:Kc) (s:Kw):Prop:=∃ (od:Option Kc) (tk:Tok) (n:Nat) (sl:Array (Option Ka)),K.lookup a=some ⟨.type "tuple",od,.seq #[.str s tk] n,sl⟩
theorem bd1 {x q:Kw} {st:Kx} {ps:List Kw} (h:BD x q st ps:=by exact fun _ _ _ _ _ _ us hl=>by first | exact (match us,hl with | [_],_=>rfl) | exact (match us,hl with | [_,_],_=>rfl) | exact (match us,hl with | [_,_,_],_=>rfl) | exact (match us,hl with | [_,_,_,_],_=>rfl) | exact (match us,hl with | [_,_,_,_,_],_=>rfl) | exact (match us,hl with | [_,_,_,_,_,_],_=>rfl) | exact (match us,hl with | [],_=>rfl)):BD x q st ps:=h
section
variable (P:Ki) (w:Kk) {K:KC} {mg:Kw->Option Ka} (base:Kl) {x q:Kw} {st:Kx} {κ:Kd} {C:Kc} {f:Kc} {fd:Kh}
theorem fn_kX (k:Nat) (N ps:List Kw) (m:Ev->Option Out) (F:Fun K x x st f fd) (nd:N.Nodup) (h:N.Nodup->BoX P w K mg base N x st k fun X=>∃ t os',SSs X false [] os' [] (ZK st) t m) (S:N.Nodup->FnScope N ps (zO st):=by exact fun nd=>⟨rfl,rfl,rfl,nd,rfl,by decide +kernel,by decide +kernel⟩):FnOk P w K mg base CX0 (k+1) f fd ps (spM K (yg ps.length N.length m)):=fn_ok F (S nd) (h nd f)
theorem jP (k:Nat) (N ps:List Kw) (m:Ev->Option Out) (F:Df K mg x st) (nd:N.Nodup) (h:N.Nodup->BoX P w K mg base N x st k fun X=>∃ t os',SSs X false [] os' [] (ZK st) t m) (S:N.Nodup->FnScope N ps (zO st):=by exact fun nd=>⟨rfl,rfl,rfl,nd,rfl,by decide +kernel,by decide +kernel⟩) (b:BD x x st ps:=by exact bd1):Kn P w K mg base x (k+1) ps (spM K (yg ps.length N.length m)):=by
 obtain ⟨f,fd,F,hm⟩:=F
 exact ⟨f,fd,fn_ok F (S nd) (h nd f),hm,F.kp,F.binds b⟩
theorem fn_kF (k:Nat) (N ps:List Kw) (m:Ev->Option Out) (F:Df K mg x st) (nd:N.Nodup) (h:N.Nodup->BoX P w K mg base N x st k fun X=>∃ t os',SSs X true [] os' [] (ZK st) t m) (S:N.Nodup->FnScope N ps (zO st):=by exact fun nd=>⟨rfl,rfl,rfl,nd,rfl,by decide +kernel,by decide +kernel⟩) (b:BD x x st ps:=by exact bd1):Kn P w K mg base x (k+1) ps (spF K (yg ps.length N.length m)):=by
 obtain ⟨f,fd,F,hm⟩:=F
 exact ⟨f,fd,fn_okF F (S nd) (h nd f),hm,F.kp,F.binds b⟩
theorem jO (k:Nat) (N ps:List Kw) (i0:Nat) (κ:Kd) (m:WM) (F:Df K mg x st) (nd:N.Nodup) (h:N.Nodup->BoX P w K mg base N x st k fun X=>∃ t os',WSs X κ [] os' [] i0 (ZK st) t m) (hi:i0<ps.length:=by decide) (S:N.Nodup->FnScope N ps (zO st):=by exact fun nd=>⟨rfl,rfl,rfl,nd,rfl,by decide +kernel,by decide +kernel⟩) (b:BD x x st ps:=by exact bd1):Kn P w K mg base x (k+1) ps (spW K κ i0 (yW ps.length N.length m)):=by
 obtain ⟨f,fd,F,hm⟩:=F
 exact ⟨f,fd,fnW_ok F (S nd) hi (h nd f),hm,F.kp,F.binds b⟩
theorem fn_kM (k:Nat) (N ps:List Kw) (i0:Nat) (κ:Kd) (m:WM) (F:DfM K C x q st) (nd:N.Nodup) (h:N.Nodup->BoX P w K mg base N q st k fun X=>∃ t os',WSs X κ [] os' [] i0 (ZK st) t m) (hi:i0<ps.length:=by decide) (S:N.Nodup->FnScope N ps (zO st):=by exact fun nd=>⟨rfl,rfl,rfl,nd,rfl,by decide +kernel,by decide +kernel⟩) (b:BD x q st ps:=by exact bd1):KnM P w K mg base C x (k+1) ps (spW K κ i0 (yW ps.length N.length m)):=by
 obtain ⟨f,fd,F,hm⟩:=F
 exact ⟨f,fd,fnW_ok F (S nd) hi (h nd f),hm,F.binds b⟩
theorem fn_kI (k:Nat) (m:List D->Option D) (F:DfI K C q st) (T:LCls K C) (h:BoX P w K mg base ["self","bodies"] q st k fun X=>PSs X (ZK st) (tInit K m)) (S:FnScope ["self","bodies"] ["self","bodies"] (zO st):=by exact fsc) (b:BD "__init__" q st ["self","bodies"]:=by exact bd1):KnI P w K mg base C (k+1) ["self","bodies"] (WO K C m):=by
 obtain ⟨f,fd,F,hm⟩:=F
 refine ⟨f,fd,F.ok S (fun vs H Q E h=>?_) (fun cdv A outer s H vs Q E hr z=>⟨_,h f cdv A outer s H E hr,init_read T z⟩),hm,F.binds b⟩
 obtain ⟨_,_,_,_,_,_,rfl,_⟩:=h
 rfl
theorem fn_kL (k:Nat) (N ps:List Kw) (mp:List D->Option D) (fe:Ev->Option D) (M2:WM) (T:LCls K C) (F:Df K mg x st) (nd:N.Nodup) (h:N.Nodup->BoX P w K mg base N x st k fun X=>∃ te t2,PSs X (ZK st) (tLaid K C mp te t2)/\EOk K true [] te fe/\WOk K (kO C) [] [] [] 1 t2 M2) (hps:ps.length=1:=by rfl) (hN:N.length=3:=by rfl) (S:N.Nodup->FnScope N ps (zO st):=by exact fun nd=>⟨rfl,rfl,rfl,nd,rfl,by decide +kernel,by decide +kernel⟩) (b:BD x x st ps:=by exact bd1) :
  Kn P w K mg base x (k+1) ps (spL K (yg ps.length N.length (mLaid mp fe M2))):=by
 obtain ⟨f,fd,F,hm⟩:=F
 exact ⟨f,fd,fnLaid_ok T F (S nd) hps hN (h nd f),hm,F.kp,F.binds b⟩
end
section
variable {P:Ki} {w:Kk} {K:KC} {mg:Kw->Option Ka} {base:Kl} {x q:Kw} {st:Kx} {N ps:List Kw} {k i0:Nat} {κ:Kd} {C:Kc}
theorem Kn.no (F:Df K mg x st) (b:BD x x st ps:=by exact bd1):Kn P w K mg base x k ps (spM K fun _=>none):=by
 obtain ⟨f,fd,F,hm⟩:=F
 exact ⟨f,fd,FnOk.no,hm,F.kp,F.binds b⟩
theorem Kn.noW (F:Df K mg x st) (b:BD x x st ps:=by exact bd1):Kn P w K mg base x k ps (spW K κ i0 fun _ _=>none):=by
 obtain ⟨f,fd,F,hm⟩:=F
 exact ⟨f,fd,FnOk.noW,hm,F.kp,F.binds b⟩
theorem Kn.told {m:List D->Option D} (h:Kn P w K mg base x k ps (spL K m)):Kn P w K mg base x k ps (spM K m):=by
 obtain ⟨f,fd,F,r⟩:=h
 exact ⟨f,fd,F.told,r⟩
theorem Z3 {h:Kl} {f:Kc} {oc:Ka} {od an:Option Kc} {osl:Array (Option Ka)} {kV doc pm cdv ct:Ka} (X:K.In h) (G:h.Ns Kf mg) (a:nsIn K Kf x=some (some (.ref f)))
  (l:K.lookup f=some ⟨oc,od,.func (fnOf x x (Yl st) (ZK st) (zO st) .none kV doc pm an cdv ct),osl⟩) (c:codeIn K cdv x=true) (k:keepIn K (.ref f)=true):Df K mg x st:=⟨f,_,fun_mk l c k,PySem.W.mg_of X G a⟩
theorem df_mkM {f:Kc} {oc:Ka} {od an:Option Kc} {osl:Array (Option Ka)} {kV doc pm cdv ct:Ka} (a:KD K (.ref C) x=some (some (.ref f)))
  (l:K.lookup f=some ⟨oc,od,.func (fnOf x q (Yl st) (ZK st) (zO st) .none kV doc pm an cdv ct),osl⟩) (c:codeIn K cdv q=true) (k:keepIn K (.ref f)=true) (i:PySem.W.isFn K (.ref f)=true):DfM K C x q st:=⟨f,_,fun_mk l c k,a,i,k⟩
theorem df_mkI {f:Kc} {oc:Ka} {od an:Option Kc} {osl:Array (Option Ka)} {kV doc pm cdv ct:Ka} (a:KD K (.ref C) "__init__"=some (some (.ref f)))
  (l:K.lookup f=some ⟨oc,od,.func (fnOf "__init__" q (Yl st) (ZK st) (zO st) .none kV doc pm an cdv ct),osl⟩) (c:codeIn K cdv q=true) (k:keepIn K (.ref f)=true) (mk:PySem.W.makesIn K C=true) (i:PySem.W.isFn K (.ref f)=true) (kc:keepIn K (.ref C)=true):DfI K C q st:=⟨f,_,fun_mk l c k,mk,a,i,kc⟩
end
section
variable {X:Cx} {st:Bool} {os:List Nat} {e:Kv} {es:List Kv} {tl:TA} {fl:Ev->Option (List D)} {pos p:KB} {x:Kw} {k:Nat} {ps:List Kw} {m:List D->Option D}
theorem ZZ (G:Kn X.prog X.w X.K X.mg X.base x k ps (spM X.K m)) (hr:Room k X.A) (ha:SA X st os (e::es) tl fl) (hg:Gl X x:=by rfl) (hdb:(x == ("__debug__":Kw))=false:=by decide) (he:Ke (e::es) X.env=(false,Kz e X.env)::Ke es X.env:=by rfl) (hpl:(Kq pos (Ke es X.env)).any (·.1)=false:=by rfl) {K':KC} (hK:X.K=K':=by rfl) :
  SE X st os (.Call (.Name x p) (e::es) [] pos) (jx (spM K' m) [] E0 tl) (fA m fl):=by
 obtain ⟨f,fd,F,hm,hk,hb⟩:=G
 exact se_call F hr hg hm hk hb ha hdb he hpl hK
theorem sr_kn (G:Kn X.prog X.w X.K X.mg X.base x k ps (spF X.K m)) (hr:Room k X.A) (ha:SA X st os (e::es) tl fl:=by left) (hg:Gl X x:=by rfl) (hdb:(x == ("__debug__":Kw))=false:=by decide) (he:Ke (e::es) X.env=(false,Kz e X.env)::Ke es X.env:=by rfl) (hpl:(Kq pos (Ke es X.env)).any (·.1)=false:=by rfl) :
  SR X st os (.Call (.Name x p) (e::es) [] pos) (jx (spF X.K m) [] E0 tl) (fA m fl):=by
 obtain ⟨f,fd,F,hm,hk,hb⟩:=G
 exact sr_call F hr hg hm hk hb ha hdb he hpl
theorem yq {κ:Kd} {i i0:Nat} {mw:List D->List D->Option (D×List D)} {G:WL} (F:Kn X.prog X.w X.K X.mg X.base x k ps (spW X.K κ i0 mw)) (hr:Room k X.A) (hi:HasAt i0 i G) (ha:WA X κ os i (e::es) tl G) (hg:Gl X x:=by rfl) (hdb:(x == ("__debug__":Kw))=false:=by decide) (he:Ke (e::es) X.env=(false,Kz e X.env)::Ke es X.env:=by rfl) (hpl:(Kq pos (Ke es X.env)).any (·.1)=false:=by rfl) {K':KC} (hK:X.K=K':=by rfl) :
  WE X κ st os i (.Call (.Name x p) (e::es) [] pos) (jx (spW K' κ i0 mw) [] E0 tl) (Zk i0 mw G):=by
 obtain ⟨f,fd,F,hm,hk,hb⟩:=F
 exact we_call F hr hg hm hk hb hi ha hdb he hpl hK
theorem wl_kn {mn:Kw} {i:Nat} {C:Kc} {mf:List D->List D->Option (D×List D)} {pl:Sem Bool} {G:WL} {apos:KB} (T:LCls X.K C) (F:KnM X.prog X.w X.K X.mg X.base C mn k ps (spW X.K (kO C) 0 mf)) (hr:Room k X.A) (ha:WA X (kO C) os i (e::es) tl G)
  (hl:∀ vb vl c s,(lFs vb vl c s).lookup mn=none:=by exact fun _ _ _ _=>rfl) (hN:X.N[i]?=some x:=by rfl) (hv:Vis X.env.scope x:=by first | exact Or.inl rfl | exact Or.inr (Or.inl rfl) | exact Or.inr (Or.inr rfl)) (hd:(x == ("__debug__":Kw))=false:=by decide) (hcd:(x == ("__classdict__":Kw))=false:=by decide)
  (hst:Ke (e::es) X.env=(false,Kz e X.env)::Ke es X.env:=by rfl) (hpl:(Kq pos (Ke es X.env)).any (·.1)=false:=by rfl)
  (ht:Kz (.Call (.Attribute (.Name x p) mn apos) (e::es) [] pos) X.env=(do
   let ov <- Kz (.Name x p) X.env
   standAt apos.atName
   let (f,first) <- holding [ov] (getMethod ov mn pl)
   callWith pos f first (Kq pos (Ke (e::es) X.env)) (Kr pos (Ks [] X.env))):=by rfl) {K':KC} (hK:X.K=K':=by rfl) :
  WE X (kO C) st os i (.Call (.Attribute (.Name x p) mn apos) (e::es) [] pos) (WJ C mn (spW K' (kO C) 0 mf) [] E0 (ZA i) tl) (Yx i mf G):=by
 obtain ⟨f,fd,F,hm,hb⟩:=F
 exact wl_meth T hm F hr hb ha hl hN hv hd hcd hst hpl ht hK
theorem wl_kn0 {mn:Kw} {i:Nat} {C:Kc} {mf:List D->List D->Option (D×List D)} {pl:Sem Bool} {apos:KB} (T:LCls X.K C) (F:KnM X.prog X.w X.K X.mg X.base C mn k ps (spW X.K (kO C) 0 mf)) (hr:Room k X.A)
  (hl:∀ vb vl c s,(lFs vb vl c s).lookup mn=none:=by exact fun _ _ _ _=>rfl) (hN:X.N[i]?=some x:=by rfl) (hv:Vis X.env.scope x:=by first | exact Or.inl rfl | exact Or.inr (Or.inl rfl) | exact Or.inr (Or.inr rfl)) (hd:(x == ("__debug__":Kw))=false:=by decide) (hcd:(x == ("__classdict__":Kw))=false:=by decide)
  (ht:Kz (.Call (.Attribute (.Name x p) mn apos) [] [] pos) X.env=(do
   let ov <- Kz (.Name x p) X.env
   standAt apos.atName
   let (f,first) <- holding [ov] (getMethod ov mn pl)
   callWith pos f first (Kq pos (Ke [] X.env)) (Kr pos (Ks [] X.env))):=by rfl) {K':KC} (hK:X.K=K':=by rfl) :
  WE X (kO C) st os i (.Call (.Attribute (.Name x p) mn apos) [] [] pos) (WJ C mn (spW K' (kO C) 0 mf) [] E0 (ZA i) ZS) (Yx i mf (wL zt)):=by
 obtain ⟨f,fd,F,hm,hb⟩:=F
 exact wl_meth0 T hm F hr hb hl hN hv hd hcd ht hK
theorem se_glS {a:Kc} {s:Kw} (hm:X.mg x=some (.ref a)) (hl:TS1 X.K a s) (hg:Gl X x:=by rfl) (hdb:(x == ("__debug__":Kw))=false:=by decide):SE X st os (.Name x pos) (tC (.ref a)) (fC (.tup [.str s])):=by
 obtain ⟨od,tk,n,sl,hl⟩:=hl
 exact se_globS hg hm hl hdb
theorem pe_kn {sp:Sp} {t:TA} (G:Kn X.prog X.w X.K X.mg X.base x k ps sp) (hr:Room k X.A) (hg:Gl X x) (ha:PA X (e::es) t) (hdb:(x == ("__debug__":Kw))=false:=by decide) (he:Ke (e::es) X.env=(false,Kz e X.env)::Ke es X.env:=by rfl) (hpl:(Kq pos (Ke es X.env)).any (·.1)=false:=by rfl) :
  PE X (.Call (.Name x p) (e::es) [] pos) (jx sp [] E0 t):=by
 obtain ⟨f,fd,F,hm,hk,hb⟩:=G
 exact Wr F hr hg hm hk hb .nil W1 ha hdb he hpl
theorem pe_mk {sp:Sp} {C:Kc} {t:TA} (G:KnI X.prog X.w X.K X.mg X.base C k ps sp) (hr:Room (k+1) X.A) (hg:Gl X x) (hm:X.mg x=some (.ref C)) (ha:PA X (e::es) t) (hdb:(x == ("__debug__":Kw))=false:=by decide) (he:Ke (e::es) X.env=(false,Kz e X.env)::Ke es X.env:=by rfl) (hpl:(Kq pos (Ke es X.env)).any (·.1)=false:=by rfl) :
  PE X (.Call (.Name x p) (e::es) [] pos) (tMake C sp [] E0 t):=by
 obtain ⟨f,fd,F,M1,hb⟩:=G
 exact pe_make M1 F hr hg hm hb .nil W1 ha hdb he hpl
end
theorem ts_mk {K:KC} {a:Kc} {s:Kw} {od:Option Kc} {tk:Tok} {n:Nat} {sl:Array (Option Ka)} (h:K.lookup a=some ⟨.type "tuple",od,.seq #[.str s tk] n,sl⟩):TS1 K a s:=⟨od,tk,n,sl,h⟩
theorem tx_mk {p:Kc->(Nat->Kc)->Prop} {C a:Kc} (h:p C fun _=>a):∃ C Z,p C Z:=⟨C,_,h⟩
theorem walk_kn {l:PySem.W.OpenLaw} {k:Nat} {q:Ki} {loose:List Kw} {XP:(Kw->Option Ka)->Kl->Prop} {YP:Kk->Kl->Prop} {d:DefRec} {K:Params->KC} {x:Kw} {m:List D->Option D} {st:Kx} (hn:l.most=some 63) (hdf:d.params.defaults=[]) (himp:PyProof.Rows.importsNone q=true) (htree:l.prog.given.tree=none)
  (hY:∀ (w:Kk) (h:Kl),YP w h->(K w.params).In h) (hd:d.name="law") (hr:Room k callerA)
  (hbd:∀ (kV doc pm:Ka) (an:Option Kc) (cdv ct u:Ka),bindArgs (fnOf "law" "law" (Yl st) (ZK st) (zO st) .none kV doc pm an cdv ct) ⟨[u],[]⟩=pure [(x,u)])
  (F:∀ (w:Kk) (mg:Kw->Option Ka) (h:Kl),(K w.params).In h->h.Ns Kf mg->Df (K w.params) mg "law" st/\∀ (base:Kl) (f:Kc) (fd:Kh),Fun (K w.params) "law" "law" st f fd->FnOk l.prog w (K w.params) mg base CX0 k f fd [x] (spM (K w.params) m))
  (hl:∀ ns:List Int,ns.length<=63->m [.scr ns]=some (.bl true)) :
  PySem.W.WalkO q loose XP YP l.row.toRowW d [] (fun f vs=>PySem.call f vs) :=
 L2.walk_of (n:=63) (k:=k) (x:=x) (CX:=fun _=>CX0) (sp:=fun w=>spM (K w.params) m) hn (by decide) hdf hr himp htree hY (fun w mg fa h X G hm=>by
  obtain ⟨⟨f,fd,Fu,hf⟩,hF⟩:=F w mg h X G
  rw [hd,hf] at hm
  cases hm
  exact ⟨fd,Fu.one hbd,fun base _ _=>hF base _ fd Fu⟩) (fun _ _ a ns hlen hO hS=>law_end (l:=l) hO hS (hl ns hlen)) fun _ _ _ _ _ z=>z
abbrev sKv (m r s:Kc) (v1 v2 v3:V):List (Key×V):=[(.inr "moves",.ref m),(.inr "rows",.ref r),(.inr "stand",.ref s),(.inr "place",v1),(.inr "over",v2),(.inr "at",v3)]
abbrev sKs:List Key:=[.inr "moves",.inr "rows",.inr "stand",.inr "place",.inr "over",.inr "at"]
structure SHd (K:KC) (H:Hp) (B P:Kc->Prop) (h m r s:Kc) (ms rs ss:List V) (v1 v2 v3:V) (a b c:List D) (d1 d2 d3:D):Prop where
 p:∀ x,P x↔x=h\/x=m\/x=r\/x=s
 hm:h≠m
 hr:h≠r
 hs:h≠s
 mr:m≠r
 ns:m≠s
 rn:r≠s
 e0:H h=some (.dK (sKv m r s v1 v2 v3))
 e1:H m=some (.lst ms)
 e2:H r=some (.lst rs)
 e3:H s=some (.lst ss)
 r1:zr K H B a ms
 r2:zr K H B b rs
 r3:zr K H B c ss
 fl:Z5 [d1,d2,d3]=true
 r4:zr K H B [d1,d2,d3] [v1,v2,v3]
section
variable {K:KC} {H H':Hp} {B B' P:Kc->Prop} {h m r s:Kc} {ms rs ss ms':List V} {v1 v2 v3 v:V} {a b c a':List D} {d1 d2 d3 d:D}
theorem SHd.goes (q:SHd K H B P h m r s ms rs ss v1 v2 v3 a b c d1 d2 d3) (g:Goes H H' B B') (k:∀ b o,P b->H b=some o->H' b=some o):SHd K H' B' P h m r s ms rs ss v1 v2 v3 a b c d1 d2 d3 :=
 ⟨q.p,q.hm,q.hr,q.hs,q.mr,q.ns,q.rn,k _ _ ((q.p _).2 (.inl rfl)) q.e0,k _ _ ((q.p _).2 (.inr (.inl rfl))) q.e1,k _ _ ((q.p _).2 (.inr (.inr (.inl rfl)))) q.e2,k _ _ ((q.p _).2 (.inr (.inr (.inr rfl)))) q.e3,zr.goes g _ _ q.r1,zr.goes g _ _ q.r2,zr.goes g _ _ q.r3,q.fl,zr.goes g _ _ q.r4⟩
theorem SHd.wM (q:SHd K H B P h m r s ms rs ss v1 v2 v3 a b c d1 d2 d3) (g:Goes H (upd H m (.lst ms')) B B) (k:zr K H B a' ms'):SHd K (upd H m (.lst ms')) B P h m r s ms' rs ss v1 v2 v3 a' b c d1 d2 d3 :=
 ⟨q.p,q.hm,q.hr,q.hs,q.mr,q.ns,q.rn,by rw [zv q.hm];exact q.e0,zw,by rw [zv (Ne.symm q.mr)];exact q.e2,by rw [zv (Ne.symm q.ns)];exact q.e3,zr.goes g _ _ k,zr.goes g _ _ q.r2,zr.goes g _ _ q.r3,q.fl,zr.goes g _ _ q.r4⟩
theorem SHd.wR (q:SHd K H B P h m r s ms rs ss v1 v2 v3 a b c d1 d2 d3) (g:Goes H (upd H r (.lst ms')) B B) (k:zr K H B a' ms'):SHd K (upd H r (.lst ms')) B P h m r s ms ms' ss v1 v2 v3 a a' c d1 d2 d3 :=
 ⟨q.p,q.hm,q.hr,q.hs,q.mr,q.ns,q.rn,by rw [zv q.hr];exact q.e0,by rw [zv q.mr];exact q.e1,zw,by rw [zv (Ne.symm q.rn)];exact q.e3,zr.goes g _ _ q.r1,zr.goes g _ _ k,zr.goes g _ _ q.r3,q.fl,zr.goes g _ _ q.r4⟩
theorem SHd.wS (q:SHd K H B P h m r s ms rs ss v1 v2 v3 a b c d1 d2 d3) (g:Goes H (upd H s (.lst ms')) B B) (k:zr K H B a' ms'):SHd K (upd H s (.lst ms')) B P h m r s ms rs ms' v1 v2 v3 a b a' d1 d2 d3 :=
 ⟨q.p,q.hm,q.hr,q.hs,q.mr,q.ns,q.rn,by rw [zv q.hs];exact q.e0,by rw [zv q.ns];exact q.e1,by rw [zv q.rn];exact q.e2,zw,zr.goes g _ _ q.r1,zr.goes g _ _ q.r2,zr.goes g _ _ k,q.fl,zr.goes g _ _ q.r4⟩
theorem SHd.wD {u1 u2 u3:V} {f1 f2 f3:D} (q:SHd K H B P h m r s ms rs ss v1 v2 v3 a b c d1 d2 d3) (g:Goes H (upd H h (.dK (sKv m r s u1 u2 u3))) B B) (f:Z5 [f1,f2,f3]=true) (k:zr K H B [f1,f2,f3] [u1,u2,u3]):SHd K (upd H h (.dK (sKv m r s u1 u2 u3))) B P h m r s ms rs ss u1 u2 u3 a b c f1 f2 f3 :=
 ⟨q.p,q.hm,q.hr,q.hs,q.mr,q.ns,q.rn,zw,by rw [zv (Ne.symm q.hm)];exact q.e1,by rw [zv (Ne.symm q.hr)];exact q.e2,by rw [zv (Ne.symm q.hs)];exact q.e3,zr.goes g _ _ q.r1,zr.goes g _ _ q.r2,zr.goes g _ _ q.r3,f,zr.goes g _ _ k⟩
end
def kS:Kd where
 hd K H B P h S:=∃ (m r s:Kc) (ms rs ss:List V) (v1 v2 v3:V) (a b c:List D) (d1 d2 d3:D),S=[.lst a,.lst b,.lst c,d1,d2,d3]/\SHd K H B P h m r s ms rs ss v1 v2 v3 a b c d1 d2 d3
 mtb:=fun z x hx=>by
  obtain ⟨m,r,s,ms,rs,ss,v1,v2,v3,a,b,c,d1,d2,d3,_,q⟩:=z
  rcases (q.p x).1 hx with rfl | rfl | rfl | rfl
  ·exact ⟨_,q.e0,trivial⟩
  ·exact ⟨_,q.e1,trivial⟩
  ·exact ⟨_,q.e2,trivial⟩
  ·exact ⟨_,q.e3,trivial⟩
 goes:=fun z g k=>by
  obtain ⟨m,r,s,ms,rs,ss,v1,v2,v3,a,b,c,d1,d2,d3,e,q⟩:=z
  exact ⟨m,r,s,ms,rs,ss,v1,v2,v3,a,b,c,d1,d2,d3,e,q.goes g k⟩
section
variable {K:KC} {P6 H:Hp} {P7 P:Kc->Prop} {os os' ol:List Nat} {σ:St} {ρ:Ev} {h:Kc} {i:Nat} {S:List D} {st st':Bool}
theorem Wd.frz (w:Wd K kS P6 P7 P os i h S σ H ρ):Md K P6 (fun b=>P7 b/\¬ P b) os σ H (ρ.set i (some (.dict sKs S))):=by
 obtain ⟨m,r,s,ms,rs,ss,v1,v2,v3,a,b,c,d1,d2,d3,rfl,q⟩:=w.at_
 have g:Goes H H (Bl P7 os σ) (Bl (fun b=>P7 b/\¬ P b) os σ):=.less (fun x z=>z.imp And.left id) (.refl H)
 have nb:∀ x,P x->¬ Bl (fun b=>P7 b/\¬ P b) os σ x:=fun x hx z=>z.elim (fun z=>z.2 hx) (w.free hx)
 have hil:=(Qm.mp w.slot).1
 refine ⟨w.md.grow,fun b hb=>w.md.blk b hb.1,by rw [Qo];exact w.md.len,fun j d e n=>?_,fun j hj=>?_,w.md.sep⟩
 ·by_cases ej:j=i
  ·subst ej
   rw [zH hil] at e
   cases e
   refine ⟨.ref h,w.ref,?_⟩
   have l1:Rep K H (Bl (fun b=>P7 b/\¬ P b) os σ) (.lst a) (.ref m):=by
    simp only [Rep]
    exact ⟨m,ms,rfl,⟨.inl q.e1,nb m ((q.p _).2 (.inr (.inl rfl)))⟩,zr.goes g _ _ q.r1⟩
   have l2:Rep K H (Bl (fun b=>P7 b/\¬ P b) os σ) (.lst b) (.ref r):=by
    simp only [Rep]
    exact ⟨r,rs,rfl,⟨.inl q.e2,nb r ((q.p _).2 (.inr (.inr (.inl rfl))))⟩,zr.goes g _ _ q.r2⟩
   have l3:Rep K H (Bl (fun b=>P7 b/\¬ P b) os σ) (.lst c) (.ref s):=by
    simp only [Rep]
    exact ⟨s,ss,rfl,⟨.inl q.e3,nb s ((q.p _).2 (.inr (.inr (.inr rfl))))⟩,zr.goes g _ _ q.r3⟩
   have l4:=zr.goes g _ _ q.r4
   simp only [Rep]
   exact ⟨h,sKv m r s v1 v2 v3,rfl,⟨q.e0,nb h ((q.p _).2 (.inl rfl))⟩,rfl,.cons l1 (.cons l2 (.cons l3 l4))⟩
  ·rw [zd ej] at e
   obtain ⟨v,h1,h2⟩:=w.md.sh j d e n
   exact ⟨v,h1,Rep.goes g _ _ h2⟩
 ·obtain ⟨a',u,d,h1,h2,h3,h4,h5⟩:=w.md.own j hj
  have hne:j≠i:=fun e=>w.off (e▸hj)
  exact ⟨a',u,d,h1,by rw [zd hne];exact h2,h3,⟨h4.1,fun z=>h4.2 z.1⟩,h5.goes g⟩
def wRd (i:Nat) (f:Ev->Option D):WF:=fun ρ S=>(f (ρ.set i (some (.dict sKs S)))).bind fun d=>if d.flat then some (d,S) else none
theorem we_rdOk {t:TE} {f:Ev->Option D} (e:EOk K st' os t f):YF K kS st os i t (wRd i f):=fun P6 P7 P h σ H ρ S d S' Q w q k=>by
 obtain ⟨d',q1,q2⟩:=zc q
 split at q2
 case isFalse=>cases q2
 rename_i hf
 cases q2
 exact e P6 _ σ H _ d _ w.frz q1 fun v H' s r=>k v H' (fun b o q _=>s _ _ q) (w.up s) (Rep.flat _ _ hf r)
def ju (i:Nat) (c:Ev->Option Bool):Ev->List D->Option (Bool×List D):=fun ρ S=>(c (ρ.set i (some (.dict sKs S)))).map fun b=>(b,S)
theorem wt_rdOk {t:TT} {c:Ev->Option Bool} (e:TOk K os t c):WTOk K kS os i t (ju i c):=fun P6 P7 P h σ H ρ S b S' Q w q k=>by
 obtain ⟨d',q1,q2⟩:=map_some q
 cases q2
 exact e P6 _ σ H _ b _ w.frz q1 fun H' s=>k H' (fun b o q _=>s _ _ q) (w.up s)
theorem Wd.read {te:TE} {f:Ev->Option D} {d:D} {Q:VK} (w:Wd K kS P6 P7 P os i h S σ H ρ) (he:EOk K st' os te f) (q:f (ρ.set i (some (.dict sKs S)))=some d) (hf:d.flat=true) (k:∀ v H',zT H H'->Wd K kS P6 P7 P os i h S σ H' ρ->Rep K H' (Bl P7 os σ) d v->Q v H'):te σ H Q :=
 he P6 _ σ H _ d _ w.frz q fun v H' s r=>k v H' s (w.up s) (Rep.flat _ _ hf r)
def wK (i n:Nat) (f:Ev->Option D):WM:=fun ρ S=>(f (ρ.set i (some (.dict sKs S)))).bind fun d=>match S[n]? with
 | some (.lst ds)=>if d.flat=true/\ds.length<Kg then some (.nx ρ,S.set n (.lst (ds++[d]))) else none
 | _=>none
abbrev tKey (i:Nat) (x:Kw):TE:=tDGet (ZA i) (tC (.str x))
theorem ws_appM {te:TE} {f:Ev->Option D} (he:EOk K st' os te f):WOk K kS os os ol i (YJ (tBM K "list" yP (tKey i "moves") (zW te ZS))) (wK i 0 f):=fun P6 P7 P h σ H ρ S o S' E w q k=>by
 obtain ⟨d,q1,q2⟩:=zc q
 obtain ⟨m,r,s,ms,rs,ss,v1,v2,v3,a,b,c,d1,d2,d3,rfl,z⟩:=w.at_
 dsimp only [PN] at q2
 split at q2
 case isFalse=>cases q2
 rename_i hl
 cases q2
 refine ⟨.ref h,w.ref,h,.ref m,rfl,J8.k (k:=.inr "moves") z.e0,.inl ⟨rfl,ms,.inl (.inl z.e1)⟩,?_⟩
 refine w.read he q1 hl.1 fun v H' s' w' rv=>?_
 have z':=z.goes (.same s') fun b o _ e=>s' _ _ e
 have hk:∀ b o,H' b=some o->¬ P b->upd H' m (.lst (ms++[v])) b=some o:=fun b o e n=>by rw [zv fun e=>n ((z.p b).2 (.inr (.inl e)))];exact e
 exact ⟨m,ms,v,rfl,rfl,z'.e1,by rw [z.r1.length];exact hl.2,k σ _ (w'.write hk ⟨m,r,s,_,rs,ss,v1,v2,v3,a++[d],b,c,d1,d2,d3,rfl,z'.wM (w'.goes hk) (z'.r1.append (.one rv))⟩)⟩
theorem ws_appR {te:TE} {f:Ev->Option D} (he:EOk K st' os te f):WOk K kS os os ol i (YJ (tBM K "list" yP (tKey i "rows") (zW te ZS))) (wK i 1 f):=fun P6 P7 P h σ H ρ S o S' E w q k=>by
 obtain ⟨d,q1,q2⟩:=zc q
 obtain ⟨m,r,s,ms,rs,ss,v1,v2,v3,a,b,c,d1,d2,d3,rfl,z⟩:=w.at_
 dsimp only [List.getElem?_cons_succ,PN] at q2
 split at q2
 case isFalse=>cases q2
 rename_i hl
 cases q2
 refine ⟨.ref h,w.ref,h,.ref r,rfl,J8.k (k:=.inr "rows") z.e0,.inl ⟨rfl,rs,.inl (.inl z.e2)⟩,?_⟩
 refine w.read he q1 hl.1 fun v H' s' w' rv=>?_
 have z':=z.goes (.same s') fun b o _ e=>s' _ _ e
 have hk:∀ b o,H' b=some o->¬ P b->upd H' r (.lst (rs++[v])) b=some o:=fun b o e n=>by rw [zv fun e=>n ((z.p b).2 (.inr (.inr (.inl e))))];exact e
 exact ⟨r,rs,v,rfl,rfl,z'.e2,by rw [z.r2.length];exact hl.2,k σ _ (w'.write hk ⟨m,r,s,ms,_,ss,v1,v2,v3,a,b++[d],c,d1,d2,d3,rfl,z'.wR (w'.goes hk) (z'.r2.append (.one rv))⟩)⟩
def wc (i:Nat) (f fk:Ev->Option D):WM:=fun ρ S=>(f (ρ.set i (some (.dict sKs S)))).bind fun d=>(fk ρ).bind fun kd=>(asI kd).bind fun k=>match (S[2]?:Option D) with
 | some (.lst ds)=>if d.flat=true then (ixN ds.length k).map fun j=>(.nx ρ,S.set 2 (.lst (ds.set j d))) else none
 | _=>none
theorem ws_stand {te ti:TE} {f fk:Ev->Option D} (he:EOk K st' os te f) (hk':EOk K false os ti fk):WOk K kS os os ol i (yJ te (gSub (tKey i "stand") ti rSetL)) (wc i f fk):=fun P6 P7 P h σ H ρ S o S' E w q k=>by
 obtain ⟨d,q1,q2⟩:=zc q
 obtain ⟨kd,q3,q4⟩:=zc q2
 obtain ⟨n,q5,q6⟩:=zc q4
 obtain ⟨m,r,s,ms,rs,ss,v1,v2,v3,a,b,c,d1,d2,d3,rfl,z⟩:=w.at_
 dsimp only [List.getElem?_cons_succ,PN] at q6
 split at q6
 case isFalse=>cases q6
 rename_i hf
 obtain ⟨j,q7,q8⟩:=map_some q6
 cases q8
 refine w.read he q1 hf fun v H' s' w' rv=>?_
 have z':=z.goes (.same s') fun b o _ e=>s' _ _ e
 refine ⟨.ref h,w'.ref,h,.ref s,rfl,J8.k (k:=.inr "stand") z'.e0,?_⟩
 refine hk' P6 P7 σ H' ρ kd _ w'.md q3 fun u H2 s2 r2=>?_
 have e2:=gH r2 q5
 subst e2
 have w2:=w'.up s2
 have z2:=z'.goes (.same s2) fun b o _ e=>s2 _ _ e
 have hk:∀ b o,H2 b=some o->¬ P b->upd H2 s (.lst (ss.set j v)) b=some o:=fun b o e n=>by rw [zv fun e=>n ((z.p b).2 (.inr (.inr (.inr e))))];exact e
 exact ⟨s,ss,n,j,rfl,rfl,z2.e3,by rw [z.r3.length];exact q7,k σ _ (w2.write hk ⟨m,r,s,ms,rs,_,v1,v2,v3,a,b,c.set j d,d1,d2,d3,rfl,z2.wS (w2.goes hk) (z2.r3.set j (Rep.up s2 rv))⟩)⟩
def JG (i n:Nat) (f:Ev->Option D):WM:=fun ρ S=>(f (ρ.set i (some (.dict sKs S)))).bind fun d=>if d.flat=true then some (.nx ρ,S.set n d) else none
theorem flats3 {d1 d2 d3:D}:Z5 [d1,d2,d3]=true↔d1.flat=true/\d2.flat=true/\d3.flat=true:=by simp [Z5]
theorem reps3 {B:Kc->Prop} {d1 d2 d3:D} {v1 v2 v3:V}:zr K H B [d1,d2,d3] [v1,v2,v3]↔Rep K H B d1 v1/\Rep K H B d2 v2/\Rep K H B d3 v3:=by
 constructor
 ·intro q
  simp only [zr] at q
  obtain ⟨_,_,e,h1,_,_,e2,h2,_,_,e3,h3,_⟩:=q
  cases e;cases e2;cases e3
  exact ⟨h1,h2,h3⟩
 ·rintro ⟨h1,h2,h3⟩
  exact .cons h1 (.cons h2 (.one h3))
theorem ws_putK {x:Kw} {n:Nat} {te:TE} {f:Ev->Option D} (he:EOk K st' os te f) (hx:(x="place"/\n=3)\/(x="over"/\n=4)\/(x="at"/\n=5)):WOk K kS os os ol i (sDPut (ZA i) (tC (.str x)) te) (JG i n f):=fun P6 P7 P h σ H ρ S o S' E w q k=>by
 obtain ⟨d,q1,q2⟩:=zc q
 split at q2
 case isFalse=>cases q2
 rename_i hf
 obtain ⟨m,r,s,ms,rs,ss,v1,v2,v3,a,b,c,d1,d2,d3,rfl,z⟩:=w.at_
 obtain ⟨f1,f2,f3⟩:=flats3.mp z.fl
 refine w.read he q1 hf fun v H' s' w' rv=>?_
 have z':=z.goes (.same s') fun b o _ e=>s' _ _ e
 obtain ⟨r1,r2,r3⟩:=reps3.mp z'.r4
 have hk:∀ u1 u2 u3 b o,H' b=some o->¬ P b->upd H' h (.dK (sKv m r s u1 u2 u3)) b=some o:=fun u1 u2 u3 b o e n=>by rw [zv fun e=>n ((z.p b).2 (.inl e))];exact e
 refine ⟨.ref h,w'.ref,h,upd H' h (.dK (jc (sKv m r s v1 v2 v3) (.inr x) v)),rfl,DPut.k (k:=.inr x) z'.e0 (by show 6<Kg;decide),?_⟩
 rcases hx with ⟨rfl,rfl⟩ | ⟨rfl,rfl⟩ | ⟨rfl,rfl⟩
 ·cases q2
  exact k σ _ (w'.write (hk v v2 v3) ⟨m,r,s,ms,rs,ss,v,v2,v3,a,b,c,d,d2,d3,rfl,z'.wD (w'.goes (hk v v2 v3)) (flats3.mpr ⟨hf,f2,f3⟩) (reps3.mpr ⟨rv,r2,r3⟩)⟩)
 ·cases q2
  exact k σ _ (w'.write (hk v1 v v3) ⟨m,r,s,ms,rs,ss,v1,v,v3,a,b,c,d1,d,d3,rfl,z'.wD (w'.goes (hk v1 v v3)) (flats3.mpr ⟨f1,hf,f3⟩) (reps3.mpr ⟨r1,rv,r3⟩)⟩)
 ·cases q2
  exact k σ _ (w'.write (hk v1 v2 v) ⟨m,r,s,ms,rs,ss,v1,v2,v,a,b,c,d1,d2,d,rfl,z'.wD (w'.goes (hk v1 v2 v)) (flats3.mpr ⟨f1,f2,hf⟩) (reps3.mpr ⟨r1,r2,rv⟩)⟩)
def wForR (F:WF) (u:D->Ev->Option Ev) (M:WM):WM:=fun ρ S=>(F ρ S).bind fun r=>wFor (jQ (fC r.1)) u M ρ r.2
theorem ws_forR {κ:Kd} {te:TE} {g:TG} {tb:TS} {F:WF} {ug:D->Ev->Option Ev} {M:WM} (he:YF K κ true os i te F) (hg:GOk K os g ug) (hk:JD i ug) (hb:WOk K κ os os os i tb M):WOk K κ os os ol i (tFor (iRng1 (zW te ZS)) g tb) (wForR F ug M):=fun P6 P7 P h σ H ρ S o S' E w q k=>by
 obtain ⟨⟨d,S1⟩,q1,q2⟩:=zc q
 refine he P6 P7 P h σ H ρ S d S1 _ w q1 fun v H' hk' w' rv=>?_
 have q2':=q2
 obtain ⟨ds,q3,q4⟩:=zc q2
 obtain ⟨x,q5,q6⟩:=zc q3
 cases q5
 obtain ⟨j,q7,q8⟩:=zc q6
 have e2:=gH rv q7
 subst e2
 have ej:d=.int j:=by cases d <;> simp only [asI] at q7 <;> cases q7;rfl
 subst ej
 have hi:IOk K true os (iRng1 (zW (tC (.int j)) ZS)) (jQ (fC (.int j))):=fun P6 P7 σ H ρ ds R m q kk=>by
  obtain ⟨x,h1,h2⟩:=zc q
  cases h1
  obtain ⟨j',h3,h4⟩:=zc h2
  cases h3
  split at h4
  ·cases h4
   rename_i hb
   exact ⟨j,rfl,hb.1,hb.2,kk _ H _ (.refl H) (iw_range 0 _) (fun _ _ _ _ _ _ _ _ _=>trivial) (fun _ _ _ _ _ _ _=>trivial) trivial⟩
  ·cases h4
 exact ws_forOk hi hg hk hb P6 P7 P h σ H' ρ S1 o S' E w' q2' k
end
def ZE:D->D->Option D
 | .dict ks ds,.str x=>yd ks ds (.inr x)
 | _,_=>none
section
variable {X:Cx} {st st':Bool} {os os' ol:List Nat} {o a i e z:Kv} {td ta ti te tz:TE} {fo fa fi f fz:Ev->Option D} {p p' pos pos':KB} {k:Nat}
theorem Z0 (hr:Room k X.A) (ho:SE X st os o td fo) (hi:SE X st os i ti fi) (hs:NoSl i:=by intro _ _;rfl):SE X st os (.Subscript o i pos) (tDGet td ti) (f2 ZE fo fi):=⟨JV (gc hr) ho.pe hi.pe hs,fun P6 P7 σ H ρ d Q m q kk=>by
 obtain ⟨x,h1,h2⟩:=zc q
 obtain ⟨y,h3,h4⟩:=zc h2
 refine ho.ok P6 P7 σ H ρ x _ m h1 fun v H1 s1 r1=>?_
 refine hi.ok P6 P7 σ H1 ρ y _ (m.up s1) h3 fun u H2 s2 r2=>?_
 cases x <;> cases y <;> simp only [ZE] at h4 <;> try (cases h4)
 have r1':=r1.up s2
 simp only [Rep] at r1' r2
 obtain ⟨b,KO,rfl,⟨hb,_⟩,rfl,hr⟩:=r1'
 subst r2
 obtain ⟨w',g1,g2⟩:=look_v hr h4
 exact ⟨b,w',rfl,by rw [<- g1];exact J8.k (k:=.inr _) hb,kk w' H2 (s1.trans s2) g2⟩⟩
def cKv (KO:List (Kw×Int)):List (Key×V):=KO.map fun kv=>(.inr kv.1,.int kv.2)
def cTr (KO:List (Kw×Int)):List (TE×TE):=KO.map fun kv=>(tC (.str kv.1),tC (.int kv.2))
def jJ:List (Kw×Int)->Kw->Option Int
 | [],_=>none
 | kv::r,x=>if kv.1=x then some kv.2 else jJ r x
def fGetC (KO:List (Kw×Int)) (fk:Ev->Option D) (z:Int):Ev->Option D:=fun ρ=>(fk ρ).bind fun d=>match d with
 | .str x=>some (.int ((jJ KO x).getD z))
 | _=>none
theorem pairs_c:∀ (KO:List (Kw×Int)) (σ:St) (H:Hp) (Q:List (V×V)->Hp->Prop),Q ((cKv KO).map fun kv=>(kV kv.1,kv.2)) H->WI (cTr KO) σ H Q
 | [],σ,H,Q,h=>h
 | kv::r,σ,H,Q,h=>pairs_c r σ H (fun ps H3=>Q ((.str kv.1,.int kv.2)::ps) H3) h
theorem look_c (x:Kw):∀ KO:List (Kw×Int),ja (cKv KO) (.inr x)=(jJ KO x).map V.int
 | []=>rfl
 | kv::r=>by
  have ih:=look_c x r
  by_cases h:kv.1=x
  ·rw [show cKv (kv::r)=(.inr kv.1,.int kv.2)::cKv r from rfl,JH (by rw [h]),jJ,KQ h];rfl
  ·rw [show cKv (kv::r)=(.inr kv.1,.int kv.2)::cKv r from rfl,JI (fun e=>h (Sum.inr.inj e)),jJ,KR h,ih]
theorem se_getC {keys:List (Option Kv)} {values:List Kv} {KO:List (Kw×Int)} {zi:Int} {kx:Kv} {tk:TE} {fk:Ev->Option D} {apos cpos dpos zpos:KB} {zk:Nat} (hp:PPs X dpos keys values (cTr KO)) (hk:SE X st os kx tk fk) (h15:KO.length<=15:=by decide) (hmk:wz [] (cKv KO)=cKv KO:=by rfl)
  (hall:keys.all (·.isSome)=true:=by rfl) (hl:keys.length=values.length:=by rfl) (h0:keys≠[]:=by simp) (hk15:keys.length<=15:=by decide)
  (h1:Ke [kx,.Constant (.int zi) zk zpos] X.env=(false,Kz kx X.env)::Ke [.Constant (.int zi) zk zpos] X.env:=by rfl) (h2:Ke [.Constant (.int zi) zk zpos] X.env=(false,Kz (.Constant (.int zi) zk zpos) X.env)::Ke [] X.env:=by rfl)
  (hbase:Kp (.Dict keys values dpos) "get" X.env (Kz (.Dict keys values dpos) X.env)=Kz (.Dict keys values dpos) X.env:=by rfl)
  (hfew:((Kq cpos (Ke [kx,.Constant (.int zi) zk zpos] X.env)).all (fun x=>!x.1)&&(Kr cpos (Ks [] X.env)).all (fun x=>x.1.isSome)
   && decide ([kx,Expr.Constant (.int zi) zk zpos].length+([]:List Keyword).length+(if ([]:List Keyword).isEmpty then 0 else 1)<30))=true:=by rfl)
  (hline:(apos.endLine == cpos.line)=true:=by rfl) (hplain:(Kq cpos (Ke [.Constant (.int zi) zk zpos] X.env)).any (·.1)=false:=by rfl) {K':KC} (hK:X.K=K':=by rfl) :
  SE X st os (.Call (.Attribute (.Dict keys values dpos) "get" apos) [kx,.Constant (.int zi) zk zpos] [] cpos) (tBM K' "dict" rDGet2 (tDisp (cTr KO)) (zW tk (zW (tC (.int zi)) ZS))) (fGetC KO fk zi):=by
 subst hK
 exact ⟨W0 PySem.F.plainAttrs_dict PySem.F.slot_dict_get PySem.F.type_dict_get mt_dget2 (pe_disp hp hall hl h0 hk15) (zM hk.pe (zM yj Zj h2) h1) hbase hfew hline h1 hplain,fun P6 P7 σ H ρ d Q m q kk=>by
  obtain ⟨x,q1,q2⟩:=zc q
  cases x <;> simp only at q2 <;> try (cases q2)
  rename_i x
  intro p hp
  refine pairs_c KO σ _ _ ⟨zw,cKv KO,rfl,by unfold cKv;rw [Ql];exact h15,?_⟩
  rw [hmk]
  have s1:zT H (upd (upd H p (.dK [])) p (.dK (cKv KO))):=fun b o e=>by
   have hne:b≠p:=fun z=>by rw [z,hp] at e;cases e
   rw [zv hne,zv hne];exact e
  refine ⟨.inr (.inr (.inl ⟨rfl,.inl ⟨cKv KO,zw⟩⟩)),?_⟩
  refine hk.ok P6 P7 σ _ ρ _ _ (m.up s1) q1 fun u H2 s2 r2=>?_
  simp only [Rep] at r2
  subst r2
  refine ⟨p,cKv KO,.inr x,.int zi,rfl,rfl,s2 _ _ zw,?_⟩
  rw [look_c]
  have:((jJ KO x).map V.int).getD (.int zi)=.int ((jJ KO x).getD zi):=by cases jJ KO x <;> rfl
  rw [this]
  exact kk _ _ (s1.trans s2) (by simp [Rep])⟩
end
section
variable {X:Cx} {st st':Bool} {os os' ol:List Nat} {i k n kd:Nat} {e:Kv} {te:TE} {f:Ev->Option D} {x y:Kw} {p pos ipos kp spos apos cpos:KB}
theorem we_rd (h:SE X true os e te f):WE X kS st os i e te (wRd i f):=⟨h.pe,we_rdOk h.ok⟩
theorem wb_rd {c:Ev->Option Bool} {tt:TT} (h:SB X os e tt c):WB X kS os i e tt (ju i c):=⟨h.pt,wt_rdOk h.ok⟩
theorem wst_appK (hw:EOk X.K true os te f->WOk X.K kS os os ol i (YJ (tBM X.K "list" yP (tKey i y) (zW te ZS))) (wK i n f)) (hr:Room k X.A) (h:SE X true os e te f) (hN:X.N[i]?=some x:=by rfl) (hv:Vis X.env.scope x:=by first | exact Or.inl rfl | exact Or.inr (Or.inl rfl) | exact Or.inr (Or.inr rfl)) (hd:(x == ("__debug__":Kw))=false:=by decide)
  (hcd:(x == ("__classdict__":Kw))=false:=by decide) (hs1:Ke [e] X.env=(false,Kz e X.env)::Ke [] X.env:=by rfl)
  (hbase:Kp (.Subscript (.Name x p) (.Constant (.str y) kd kp) ipos) "append" X.env (Kz (.Subscript (.Name x p) (.Constant (.str y) kd kp) ipos) X.env)=Kz (.Subscript (.Name x p) (.Constant (.str y) kd kp) ipos) X.env:=by rfl)
  (hfew:((Kq cpos (Ke [e] X.env)).all (fun x=>!x.1)&&(Kr cpos (Ks [] X.env)).all (fun x=>x.1.isSome)
   && decide ([e].length+([]:List Keyword).length+(if ([]:List Keyword).isEmpty then 0 else 1)<30))=true:=by rfl)
  (hline:(apos.endLine == cpos.line)=true:=by rfl) (hplain:(Kq cpos (Ke [] X.env)).any (·.1)=false:=by rfl) (hs:Kt (.Call (.Attribute (.Subscript (.Name x p) (.Constant (.str y) kd kp) ipos) "append" apos) [e] [] cpos) none pos.line X.env=pure false:=by rfl) :
  WS X kS os os ol i (.Expr (.Call (.Attribute (.Subscript (.Name x p) (.Constant (.str y) kd kp) ipos) "append" apos) [e] [] cpos) pos) (YJ (tBM X.K "list" yP (tKey i y) (zW te ZS))) (wK i n f) :=
 ⟨YN (W0 KI PySem.F.slot_list_append PySem.F.type_list_append Yw (JV (gc hr) (pv i hN hv hd hcd) yw (fun _ _=>rfl)) (zM h.pe Zj hs1) hbase hfew hline hs1 hplain) hs,hw h.ok⟩
theorem Wz (hr:Room k X.A) (h:SE X true os e te f) (hx:(y="place"/\n=3)\/(y="over"/\n=4)\/(y="at"/\n=5)) (hN:X.N[i]?=some x:=by rfl) (hv:Vis X.env.scope x:=by first | exact Or.inl rfl | exact Or.inr (Or.inl rfl) | exact Or.inr (Or.inr rfl)) (hd:(x == ("__debug__":Kw))=false:=by decide)
  (hcd:(x == ("__classdict__":Kw))=false:=by decide) (hs:Kt e (some (.Subscript (.Name x p) (.Constant (.str y) kd kp) spos)) pos.line X.env=pure false:=by rfl) :
  WS X kS os os ol i (.Assign [.Subscript (.Name x p) (.Constant (.str y) kd kp) spos] e pos) (sDPut (ZA i) (tC (.str y)) te) (JG i n f):=⟨ps_dput (gc hr) (pv i hN hv hd hcd) yw h.pe hs,ws_putK h.ok hx⟩
theorem wst_stand {ik:Kv} {ti:TE} {fi:Ev->Option D} (hr:Room k X.A) (h:SE X true os e te f) (hk:SE X false os ik ti fi) (hN:X.N[i]?=some x:=by rfl) (hv:Vis X.env.scope x:=by first | exact Or.inl rfl | exact Or.inr (Or.inl rfl) | exact Or.inr (Or.inr rfl)) (hd:(x == ("__debug__":Kw))=false:=by decide)
  (hcd:(x == ("__classdict__":Kw))=false:=by decide) (ha:∀ v,assign (.Subscript (.Subscript (.Name x p) (.Constant (.str "stand") kd kp) ipos) ik spos) X.env v=(do
   let ov <- holding [v] (Kz (.Subscript (.Name x p) (.Constant (.str "stand") kd kp) ipos) X.env)
   let iv <- holding [v,ov] (Kz ik X.env)
   standAt spos
   holding [v,ov,iv] (setItem ov iv v)
   release [v,ov,iv] []):=by intro _;rfl) (hs:swapsWithSole [.Subscript (.Subscript (.Name x p) (.Constant (.str "stand") kd kp) ipos) ik spos] e pos.line X.env=pure false:=by rfl) (hw:swappedStores [.Subscript (.Subscript (.Name x p) (.Constant (.str "stand") kd kp) ipos) ik spos] e X.env=pure none:=by rfl)
  (h1:(assignEach [.Subscript (.Subscript (.Name x p) (.Constant (.str "stand") kd kp) ipos) ik spos] X.env).map (·.2)=[assign (.Subscript (.Subscript (.Name x p) (.Constant (.str "stand") kd kp) ipos) ik spos) X.env]:=by rfl) :
  WS X kS os os ol i (.Assign [.Subscript (.Subscript (.Name x p) (.Constant (.str "stand") kd kp) ipos) ik spos] e pos) (yJ te (gSub (tKey i "stand") ti rSetL)) (wc i f fi):=⟨ps_asg h.pe (pg_sub (JV (gc hr) (pv i hN hv hd hcd) yw (fun _ _=>rfl)) hk.pe set_list ha) hs hw h1,ws_stand h.ok hk.ok⟩
theorem wst_forR {κ:Kd} {tg a:Kv} {body:List Kx} {ta:TE} {g:TG} {tb:TS} {F:WF} {ug:D->Ev->Option Ev} {M1:WM} (hc:X.calm=true) (hg:Gl X "range") (hm:X.mg "range"=none) (ha:WE X κ true os i a ta F) (hgg:SG X os tg g ug) (hk:JD i ug) (hb:WSs X κ os os os i body tb M1)
  (h1:Ke [a] X.env=(false,Kz a X.env)::Ke [] X.env:=by rfl) (hs:Ke [a] X.env=[(false,Kz a X.env)]:=by rfl) (hp:PassesOwn (Ky X.prog X.w) X.A X.env X.xe:=by exact PassesOwn.never) (hs2:∀ x,foldedSetIterable (.Call (.Name "range" p) [a] [] cpos) X.env x=pure x:=by intro _;rfl) :
  WS X κ os os ol i (.For tg (.Call (.Name "range" p) [a] [] cpos) body [] pos) (tFor (iRng1 (zW ta ZS)) g tb) (wForR F ug M1):=⟨ps_for hp hc (pi_range1 hg hm (zM ha.pe Zj h1) hs) hgg.pg hb.ps hs2,ws_forR ha.ok hgg.ok hk hb.ok⟩
end
open Classical in
def W7 (j1 j2:Nat) (f1 f3 f6:Ev->Option D) (M:WM):Ev->Option Out:=fun ρ=>(f1 ρ).bind fun d1=>(asL d1).bind fun c=>(f3 (ρ.set j1 (some d1))).bind fun d3=>(asL d3).bind fun b=>(f6 (ρ.set j1 (some d1))).bind fun d6 =>
 if h:(j1<ρ.length/\j2<ρ.length/\j1≠j2/\d6.flat=true/\Z5 b=true/\Z5 c=true)/\∃ S':List D,∀ s p,M ((ρ.set j1 (some (.adr s))).set j2 (some (.adr p))) [.lst [],.lst b,.lst c,.int 0,.bl false,d6]=some (.nx ((ρ.set j1 (some (.adr s))).set j2 (some (.adr p))),S') then
  some (.nx ((ρ.set j1 none).set j2 (some (.dict sKs h.2.choose)))) else none
theorem mState_eq {j1 j2:Nat} {f1 f3 f6:Ev->Option D} {M:WM} {ρ:Ev} {b c S':List D} {d6:D} (h1:f1 ρ=some (.lst c)) (h3:f3 (ρ.set j1 (some (.lst c)))=some (.lst b)) (h6:f6 (ρ.set j1 (some (.lst c)))=some d6) (hc:j1<ρ.length/\j2<ρ.length/\j1≠j2/\d6.flat=true/\Z5 b=true/\Z5 c=true)
  (hM:∀ s p,M ((ρ.set j1 (some (.adr s))).set j2 (some (.adr p))) [.lst [],.lst b,.lst c,.int 0,.bl false,d6]=some (.nx ((ρ.set j1 (some (.adr s))).set j2 (some (.adr p))),S')):W7 j1 j2 f1 f3 f6 M ρ=some (.nx ((ρ.set j1 none).set j2 (some (.dict sKs S')))):=by
 have h:(j1<ρ.length/\j2<ρ.length/\j1≠j2/\d6.flat=true/\Z5 b=true/\Z5 c=true)/\∃ S':List D,∀ s p,M ((ρ.set j1 (some (.adr s))).set j2 (some (.adr p))) [.lst [],.lst b,.lst c,.int 0,.bl false,d6]=some (.nx ((ρ.set j1 (some (.adr s))).set j2 (some (.adr p))),S'):=⟨hc,S',hM⟩
 unfold W7
 rw [h1]
 simp only [oB,asL]
 rw [h3]
 simp only [oB,asL]
 rw [h6]
 simp only [oB]
 rw [dif_pos h]
 have e:h.2.choose=S':=by
  have:=congrArg (fun o=>o.map Prod.snd) ((h.2.choose_spec 0 0).symm.trans (hM 0 0))
  simpa using this
 rw [e]
theorem nilL {ρ:Ev}:ZL zt ρ=some (.lst []):=Jg (ds:=[]) (yA (by simp))
abbrev tDict (t2 t3 t6:TE) (j1:Nat):TE:=tDisp [(tC (.str "moves"),t2),(tC (.str "rows"),t3),(tC (.str "stand"),ZA j1),(tC (.str "place"),tC (.int 0)),(tC (.str "over"),tC (.bl false)),(tC (.str "at"),t6)]
section
variable {K:KC} {fr:Bool} {ol:List Nat} {j1 j2:Nat} {t1 t2 t3 t6:TE} {f1 f3 f6:Ev->Option D} {tw:TS} {Mw:WM}
theorem sok_state (h1:FOk K [] t1 f1) (h2:FOk K [] t2 (ZL zt)) (h3:FOk K [] t3 f3) (h6:EOk K true [] t6 f6) (hw:WOk K kS [] [] [] j2 tw Mw):SOk K fr [] [] ol (y9 (yJ t1 (ZM j1)) (y9 (yJ (tDict t2 t3 t6 j1) (ZM j2)) tw)) (W7 j1 j2 f1 f3 f6 Mw):=fun P6 P7 σ H ρ o E mm q k=>by
 obtain ⟨x1,q1,qa⟩:=zc q
 obtain ⟨c,q2,qb⟩:=zc qa
 obtain ⟨x3,q3,qc⟩:=zc qb
 obtain ⟨b,q4,qd⟩:=zc qc
 obtain ⟨d6,q5,qe⟩:=zc qd
 split at qe
 case isFalse=>cases qe
 rename_i hc
 cases qe
 cases x1 <;> simp only [asL] at q2 <;> cases q2
 cases x3 <;> simp only [asL] at q4 <;> cases q4
 obtain ⟨⟨l1,l2,hne,fl6,flb,flc⟩,hS⟩:=hc
 have spec:=hS.choose_spec
 clear q qa qb qc qd
 generalize hS.choose=S' at *
 refine h1 P6 P7 σ H ρ _ _ mm q1 fun s os1 H1 s1 hs0 hs1 ow1=>?_
 have rs1:=ow1.rep hs1 (mm.ntracked hs0)
 have m1:Md K P6 P7 [] (σ.set j1 (some (.ref s))) H1 (ρ.set j1 (some (.lst c))):=(mm.up s1).put (os':=[]) (fun _ z=>nomatch z) (fun _ z=>nomatch z) rs1
 cases os1 <;> simp only [Own] at ow1
 rename_i ss
 have lσ:j1<σ.length:=by rw [mm.len];exact l1
 intro p hp
 simp only [WI,tC]
 have nsp:s≠p:=fun z=>by rw [z,hp] at hs1;cases hs1
 refine h2 P6 P7 _ _ _ _ _ (m1.up (zG hp)) nilL fun m om H2 s2 hm0 hm2 ow2=>?_
 cases om <;> simp only [Own] at ow2
 rename_i vs2
 have e2:vs2=[]:=by simpa [zr] using ow2
 subst e2
 have nmp:m≠p:=fun z=>by rw [z,zw] at hm0;cases hm0
 have nms:m≠s:=fun z=>by rw [z,zv nsp,hs1] at hm0;cases hm0
 refine h3 P6 P7 _ _ _ _ _ ((m1.up (zG hp)).up s2) q3 fun r or H3 s3 hr0 hr3 ow3=>?_
 cases or <;> simp only [Own] at ow3
 rename_i rs
 have s13:zT H1 H3:=((zG hp).trans s2).trans s3
 have hp2:H2 p=some (.dK []):=s2 _ _ zw
 have hs2:H2 s=some (.lst ss):=s2 _ _ (zG hp _ _ hs1)
 have nrp:r≠p:=fun z=>by rw [z,hp2] at hr0;cases hr0
 have nrs:r≠s:=fun z=>by rw [z,hs2] at hr0;cases hr0
 have nrm:r≠m:=fun z=>by rw [z,hm2] at hr0;cases hr0
 refine ⟨.ref s,zH lσ,?_⟩
 refine h6 P6 P7 _ _ _ _ _ (m1.up s13) q5 fun v6 H4 s4 r6=>?_
 have hp4:H4 p=some (.dK []):=s4 _ _ (s3 _ _ hp2)
 refine ⟨hp4,sKv m r s (.int 0) (.bl false) v6,rfl,by show 6<=15;decide,?_⟩
 have s14:zT H1 H4:=s13.trans s4
 have hpH:H p=none:=s1.free hp
 have hmH:H m=none:=s1.free ((zG hp).free hm0)
 have hrH:H r=none:=s1.free ((zG hp).free (s2.free hr0))
 show tw E ((σ.set j1 (some (.ref s))).set j2 (some (.ref p))) (upd H4 p (.dK (sKv m r s (.int 0) (.bl false) v6)))
 generalize hH5:upd H4 p (.dK (sKv m r s (.int 0) (.bl false) v6))=H5
 have k5:∀ x o,H4 x=some o->x≠p->H5 x=some o:=fun x o e n=>by rw [<- hH5,zv n];exact e
 have s05:zT H H5:=fun x o e=>k5 x o (s14 _ _ (s1 _ _ e)) fun z=>by rw [z,hpH] at e;cases e
 let P:Kc->Prop:=fun x=>x=p\/x=m\/x=r\/x=s
 have nB:∀ x,P x->H x=none:=fun x z=>by
  rcases z with rfl | rfl | rfl | rfl
  ·exact hpH
  ·exact hmH
  ·exact hrH
  ·exact hs0
 have nB0:∀ x,P x->¬ P7 x:=fun x z y=>by
  obtain ⟨o,e⟩:=mm.blk x y
  rw [nB x z] at e;cases e
 have hd5:SHd K H5 (Bl (fun x=>P7 x\/P x) [] ((σ.set j1 (some (.ref s))).set j2 (some (.ref p)))) P p m r s [] rs ss (.int 0) (.bl false) v6 [] b c (.int 0) (.bl false) d6:=by
  have g45:∀ {B B':Kc->Prop} {ds:List D} {vs:List V},Z5 ds=true->zr K H4 B ds vs->zr K H5 B' ds vs:=fun {B B' ds vs} hf hr=>by
   have:Goes H4 H5 (fun x=>B x\/x=p) B:=Ye (P:=fun x=>x=p) (fun e o q n=>k5 e o q n) (fun e o z q=>by rw [z,hp4] at q;cases q;trivial) (fun e z=>.inr z) fun e z=>.inl (.inl z)
   exact zr.flat _ _ hf (zr.goes this _ _ (zr.flat _ _ hf hr))
  refine ⟨fun x=>Iff.rfl,Ne.symm nmp,Ne.symm nrp,Ne.symm nsp,Ne.symm nrm,nms,nrs,by rw [<- hH5];exact zw,k5 _ _ (s4 _ _ (s3 _ _ hm2)) nmp,k5 _ _ (s4 _ _ hr3) nrp,k5 _ _ (s14 _ _ hs1) nsp,.nil,g45 flb (ow3.up s4),g45 flc (ow1.up s14),by simp [Z5,D.flat,fl6],?_⟩
  have r6':zr K H4 (Bl P7 [] (σ.set j1 (some (.ref s)))) [d6] [v6]:=.one r6
  have:=g45 (B':=Bl (fun x=>P7 x\/P x) [] ((σ.set j1 (some (.ref s))).set j2 (some (.ref p)))) (by simp [Z5,fl6]) r6'
  exact .cons (by simp [Rep]) (.cons (by simp [Rep]) this)
 have gB:Goes H H5 (Bl P7 [] σ) (fun x=>P7 x\/P x):=Ye (P:=fun _=>False) (fun a o q _=>s05 _ _ q) (fun _ _ z=>z.elim) (fun _ z=>z.elim) fun a z=>z.imp .inl fun z=>nB a z
 have w0:Wd K kS P6 (fun x=>P7 x\/P x) P [] j2 p [.lst [],.lst b,.lst c,.int 0,.bl false,d6] ((σ.set j1 (some (.ref s))).set j2 (some (.ref p))) H5 ((ρ.set j1 (some (.adr s))).set j2 (some (.adr p))):=by
  refine ⟨⟨mm.grow.trans s05,fun x hx=>?_,by simp only [Qo];exact mm.len,fun j d q _=>?_,fun j hj=>(nomatch hj),fun j _ _ hj=>(nomatch hj)⟩,fun x z=>.inr z,fun x z=>?_,⟨m,r,s,[],rs,ss,.int 0,.bl false,v6,[],b,c,.int 0,.bl false,d6,rfl,hd5⟩,zH (by simpa using l2),by simp⟩
  ·rcases hx with hx | hx
   ·obtain ⟨o,e⟩:=mm.blk x hx;exact ⟨o,s05 _ _ e⟩
   ·rcases hx with rfl | rfl | rfl | rfl
    ·exact ⟨_,hd5.e0⟩
    ·exact ⟨_,hd5.e1⟩
    ·exact ⟨_,hd5.e2⟩
    ·exact ⟨_,hd5.e3⟩
  ·rw [yT]
   by_cases e2:j=j2
   ·subst e2
    rw [zH (by simpa using l2)] at q;cases q
    exact ⟨.ref p,zH (by rw [Qo,mm.len];exact l2),by simp [Rep]⟩
   ·rw [zd e2] at q ⊢
    by_cases e1:j=j1
    ·subst e1
     rw [zH l1] at q;cases q
     exact ⟨.ref s,zH lσ,by simp [Rep]⟩
    ·rw [zd e1] at q ⊢
     obtain ⟨v,a1,a2⟩:=mm.sh j d q (by simp)
     exact ⟨v,a1,Rep.goes gB _ _ a2⟩
  ·cases z':P6 x with
   | none=>rfl
   | some o=>have:=mm.grow _ _ z';rw [nB x z] at this;cases this
 refine hw P6 _ P p _ H5 _ _ _ S' E w0 (spec s p) fun σ' H' w'=>?_
 obtain ⟨m',r',s',ms',rs',ss',v1',v2',v3',a',b',c',d1',d2',d3',eS,z⟩:=w'.at_
 have gl:Goes H' H' (Bl (fun x=>P7 x\/P x) [] σ') (Bl P7 [] σ'):=.less (fun x y=>y.imp .inl id) (.refl H')
 have nP:∀ x,P x->¬ Bl P7 [] σ' x:=fun x hx y=>by rw [yT] at y;exact nB0 x hx y
 have rs':Rep K H' (Bl P7 [] σ') (.lst c') (.ref s'):=by
  simp only [Rep]
  exact ⟨s',ss',rfl,⟨.inl z.e3,nP _ ((z.p _).2 (.inr (.inr (.inr rfl))))⟩,zr.goes gl _ _ z.r3⟩
 have rd:Rep K H' (Bl P7 [] σ') (.dict sKs S') (.ref p):=by
  have a1:Rep K H' (Bl P7 [] σ') (.lst a') (.ref m'):=by
   simp only [Rep]
   exact ⟨m',ms',rfl,⟨.inl z.e1,nP _ ((z.p _).2 (.inr (.inl rfl)))⟩,zr.goes gl _ _ z.r1⟩
  have a2:Rep K H' (Bl P7 [] σ') (.lst b') (.ref r'):=by
   simp only [Rep]
   exact ⟨r',_,rfl,⟨.inl z.e2,nP _ ((z.p _).2 (.inr (.inr (.inl rfl))))⟩,zr.goes gl _ _ z.r2⟩
  simp only [Rep]
  rw [eS]
  exact ⟨p,sKv m' r' s' v1' v2' v3',rfl,⟨z.e0,nP p (.inl rfl)⟩,rfl,.cons a1 (.cons a2 (.cons rs' (zr.goes gl _ _ z.r4)))⟩
 have ll:=w'.md.len
 simp only [Qo] at ll
 refine k σ' H' ⟨w'.md.grow,fun x hx=>w'.md.blk x (.inl hx),by simp only [Qo];exact ll,fun j d q _=>?_,fun j hj=>(nomatch hj),fun j _ _ hj=>(nomatch hj)⟩
 by_cases e2:j=j2
 ·subst e2
  rw [zH (by simpa using l2)] at q;cases q
  exact ⟨.ref p,w'.ref,rd⟩
 ·rw [zd e2] at q
  by_cases e1:j=j1
  ·subst e1
   rw [zH l1] at q;cases q
  ·rw [zd e1] at q
   obtain ⟨v,a1,a2⟩:=w'.md.sh j d (by rw [zd e2,zd e1];exact q) (by simp)
   exact ⟨v,a1,Rep.goes gl _ _ a2⟩
theorem sss_state {X:Cx} {os':List Nat} {s3:Kx} {Zc:List Kx} {e1 e2 e3 e6:Kv} {t:TS} {m:Ev->Option Out} {x1 x2:Kw} {a1 a2 q1 q2 pd pn b1 b2 b3 b4 b5 b6 b7 b8:KB} {c1 c2 c3 c4 c5 c6 c7 c8:Nat} (hN:X.N.Nodup) (hi1:X.N[j1]?=some x1) (hx1:Loc X.env.scope x1) (hi2:X.N[j2]?=some x2) (hx2:Loc X.env.scope x2)
  (h1:SF X [] e1 t1 f1) (h2:SF X [] e2 t2 (ZL zt)) (h3:SF X [] e3 t3 f3) (h6:SE X true [] e6 t6 f6) (hw:WS X kS [] [] [] j2 s3 tw Mw) (hr:SSs X fr [] os' ol Zc t m)
  (hv:Vis X.env.scope x1:=by first | exact Or.inl rfl | exact Or.inr (Or.inl rfl) | exact Or.inr (Or.inr rfl)) (hd:(x1 == ("__debug__":Kw))=false:=by decide) (hcd:(x1 == ("__classdict__":Kw))=false:=by decide)
  (hs1:Kt e1 (some (.Name x1 a1)) q1.line X.env=pure false:=by rfl) (hf1:X.fn x1=true\/X.env.scope.names.lookup x1=some .local:=by first | exact .inl rfl | exact .inr rfl | assumption)
  (hs2:Kt (.Dict [some (.Constant (.str "moves") c1 b1),some (.Constant (.str "rows") c2 b2),some (.Constant (.str "stand") c3 b3),some (.Constant (.str "place") c4 b4),some (.Constant (.str "over") c5 b5),some (.Constant (.str "at") c6 b6)] [e2,e3,.Name x1 pn,.Constant (.int 0) c7 b7,.Constant (.bool false) c8 b8,e6] pd) (some (.Name x2 a2)) q2.line X.env=pure false:=by rfl) (hf2:X.fn x2=true\/X.env.scope.names.lookup x2=some .local:=by first | exact .inl rfl | exact .inr rfl | assumption) :
  SSs X fr [] os' ol (.Assign [.Name x1 a1] e1 q1::.Assign [.Name x2 a2] (.Dict [some (.Constant (.str "moves") c1 b1),some (.Constant (.str "rows") c2 b2),some (.Constant (.str "stand") c3 b3),some (.Constant (.str "place") c4 b4),some (.Constant (.str "over") c5 b5),some (.Constant (.str "at") c6 b6)] [e2,e3,.Name x1 pn,.Constant (.int 0) c7 b7,.Constant (.bool false) c8 b8,e6] pd) q2::s3::Zc)
   (y9 (yJ t1 (ZM j1)) (y9 (yJ (tDict t2 t3 t6 j1) (ZM j2)) (y9 tw t))) (Zf (W7 j1 j2 f1 f3 f6 Mw) m) :=
 ⟨Zw (Yi hN hi1 hx1 h1.pe hs1 hf1) (Zw (Yi hN hi2 hx2 (pe_disp (Yc yw h2.pe (Yc yw h3.pe (Yc yw (pv j1 hi1 hv hd hcd) (Yc yw yj (Yc yw pe_bl (Yc yw h6.pe pps_nil)))))) rfl rfl (by simp) (by show 6<=15;decide)) hs2 hf2) (Zw hw.ps hr.ps)),fun P6 P7 σ H ρ o E mm q k=>by
  obtain ⟨o1,q1,q2⟩:=zc q
  have key:=sok_state (fr:=fr) (ol:=ol) h1.ok h2.ok h3.ok h6.ok hw.ok P6 P7 σ H ρ o1 { E with nx:=t E } mm q1
  have hnx:∃ ρ1,o1=.nx ρ1:=by
   obtain ⟨_,_,qa⟩:=zc q1
   obtain ⟨_,_,qb⟩:=zc qa
   obtain ⟨_,_,qc⟩:=zc qb
   obtain ⟨_,_,qd⟩:=zc qc
   obtain ⟨_,_,qe⟩:=zc qd
   split at qe
   ·exact ⟨_,(Option.some.inj qe).symm⟩
   ·cases qe
  obtain ⟨ρ1,rfl⟩:=hnx
  exact key fun σ' H' m'=>hr.ok P6 P7 σ' H' ρ1 o E m' q2 k⟩
end
theorem kg_un2 {i a b:Nat} (ha:a≠i:=by decide) (hb:b≠i:=by decide):JD i (wd (yr (zP a) (yr (zP b) wf))):=fun d ρ ρ' q=>by
 obtain ⟨ds,q1,q2⟩:=zc q
 rcases ds with _ | ⟨x,_ | ⟨y,_ | ⟨z,ds⟩⟩⟩ <;> cases q2
 rw [zd (Ne.symm hb),zd (Ne.symm ha)]
theorem kp_asg {i:Nat} {u:D->Ev->Option Ev} {f:Ev->Option D} (h:JD i u):Keeps i (mAsg u f):=fun ρ o q=>by
 obtain ⟨d,q1,q2⟩:=zc q
 obtain ⟨ρ',q3,rfl⟩:=map_some q2
 exact h d ρ ρ' q3
theorem kp_set {i j:Nat} {f:Ev->Option D} (h:j≠i:=by decide):Keeps i (Zx j f):=fun ρ o q=>by
 obtain ⟨d,q1,rfl⟩:=map_some q
 exact zd (Ne.symm h)
theorem op_inK {X:Cx} {K':KC} (hK:X.K=K':=by rfl):OpR X (Km .In) (rIn K' false):=by
 subst hK
 exact op_in_seq
end M
namespace EV
open PySem L2 M
open PySem.W (Frag)
def bq0:Ev->Option Out :=
  (Z1 (fA YZ (zj true (ZX 2 (fZip (zj false (zb 0)) (zj false (zb 1))) (wd (yr (zP 2) (yr (zP 3) wf))) Yn (f2 Yg (zb 2) (zb 3))))))
def mq0:List D->Option D:=yg 2 2 bq0
def bq1:Ev->Option Out :=
  (Z1 (ZX 1 (zj false (zb 0)) (zP 1) (zI (f1 (gj "list") (zb 1))) (zb 1)))
def mq1:List D->Option D:=yg 1 1 bq1
def bq2 (r_new_places r_new_places_of_row:List D->Option D):Ev->Option Out :=
  (Z1 (fA YZ (zj true (ZX 1 (zj true (zb 0)) (zP 2) Yn (fA r_new_places_of_row (ze (zb 2) (ze (zb 1) zt)))))))
def bq3 (r_new_places r_new_places_of_row:List D->Option D):Ev->Option Out :=
  (Zf (mIf (zI (f2 ZJ (fIx (zj false (zb 0)) (fC (.int 0))) (fC (.str "call"))))
  (Z1 (f2 gv (zb 1) (fIx (zj false (zb 0)) (fC (.int 1)))))
  yt)
  (Z1 (f2 Ze (fC (.int 1)) (fA YZ (zj true (ZX 1 (zj true (fA mq1 (ze (zb 0) zt))) (zP 2) Yn (fA r_new_places (ze (zb 2) (ze (zb 1) zt)))))))))
def Rq2:Nat->(List D->Option D)×(List D->Option D)
 | 0=>((fun _=>none),(fun _=>none))
 | n+1=>(yg 2 2 (bq2 ((Rq2 n).1) ((Rq2 n).2)),yg 2 2 (bq3 ((Rq2 n).1) ((Rq2 n).2)))
def mq2:List D->Option D:=(Rq2 60).1
def bq5:Ev->Option Out :=
  (Zf (mNew 1 (fC (.dict [] [])))
  (Zf (mFor (gm (f2 JB (fA j9 (zj true (zb 0))) (fC (.int 1))) (f1 wH (fC (.int 1)))) (zP 2)
  (mDPut 1 (zb 2) (Yo (fA mq2 (ze (fIx (zj true (zb 0)) (zb 2)) (ze (zb 1) zt))))))
  (Z1 (zb 1))))
def mq5:List D->Option D:=yg 1 3 bq5
def bq32:WM :=
  (ZV wInc
  (Ji (w2 JB (wFld 0) (wL (fC (.int 1))))))
def mq32:List D->List D->Option (D×List D):=yW 1 1 bq32
def bq33:WM :=
  (wStep (Zo (ze (zb 1) (ze (zb 2) (ze (zb 3) zt)))))
def mq33:List D->List D->Option (D×List D):=yW 4 4 bq33
def bq6 (r_lay_rows r_lay_row r_lay_either r_lay_loop r_lay_call:List D->List D->Option (D×List D)):WM :=
  (ZV (Yr 3 (wL (zb 2)))
  (ZV (wFor (zj true (zb 1)) (zP 4)
  (Yr 3 (Zk 0 r_lay_row (zh (wL (zb 0)) (zh (wL (zb 4)) (zh (wL (zb 3)) (wL zt)))))))
  (Ji (wL (zb 3)))))
def bq7 (r_lay_rows r_lay_row r_lay_either r_lay_loop r_lay_call:List D->List D->Option (D×List D)):WM :=
  (ZV (Yr 3 (wL (fIx (zj false (zb 1)) (fC (.int 0)))))
  (ZV (wIf (wL (zI (f2 ZJ (zb 3) (fC (.str "either")))))
  (Ji (Zk 0 r_lay_either (zh (wL (zb 0)) (zh (wL (zb 1)) (zh (wL (zb 2)) (wL zt))))))
  yK)
  (ZV (wIf (wL (zI (f2 ZJ (zb 3) (fC (.str "loop")))))
  (Ji (Zk 0 r_lay_loop (zh (wL (zb 0)) (zh (wL (zb 1)) (zh (wL (zb 2)) (wL zt))))))
  yK)
  (ZV (wIf (wL (zI (f2 ZJ (zb 3) (fC (.str "call")))))
  (Ji (Zk 0 r_lay_call (zh (wL (zb 0)) (zh (wL (zb 1)) (zh (wL (zb 2)) (wL zt))))))
  yK)
  (ZV (Yr 4 (Yx 0 mq32 (wL zt)))
  (ZV (wIf (wL (zI (f2 wI (zb 3) (fC (.str "halt")))))
  (ZD (Yx 0 mq33 (zh (wL (zb 2)) (zh (wL (zb 4)) (zh (wL (zb 1)) (wL zt))))))
  yK)
  (Ji (wL (zb 4)))))))))
def bq8 (r_lay_rows r_lay_row r_lay_either r_lay_loop r_lay_call:List D->List D->Option (D×List D)):WM :=
  (ZV (Yr 3 (Zk 0 r_lay_rows (zh (wL (zb 0)) (zh (wL (fIx (zj false (zb 1)) (fC (.int 1)))) (zh (wL (zb 2)) (wL zt))))))
  (ZV (Yr 4 (Zk 0 r_lay_rows (zh (wL (zb 0)) (zh (wL (fIx (zj false (zb 1)) (fC (.int 2)))) (zh (wL (zb 2)) (wL zt))))))
  (ZV (Yr 5 (Yx 0 mq32 (wL zt)))
  (ZV (ZD (Yx 0 mq33 (zh (wL (zb 3)) (zh (wL (zb 5)) (zh (wL (fC (.tup [.str "skip"]))) (wL zt))))))
  (ZV (ZD (Yx 0 mq33 (zh (wL (zb 4)) (zh (wL (zb 5)) (zh (wL (fC (.tup [.str "skip"]))) (wL zt))))))
  (Ji (wL (zb 5))))))))
def bq9 (r_lay_rows r_lay_row r_lay_either r_lay_loop r_lay_call:List D->List D->Option (D×List D)):WM :=
  (ZV (Yr 3 (Yx 0 mq32 (wL zt)))
  (ZV (ZD (Yx 0 mq33 (zh (wL (zb 2)) (zh (wL (zb 3)) (zh (wL (fC (.tup [.str "skip"]))) (wL zt))))))
  (ZV (ZD (Yx 0 mq33 (zh (Zk 0 r_lay_rows (zh (wL (zb 0)) (zh (wL (fIx (zj false (zb 1)) (fC (.int 1)))) (zh (wL (zb 3)) (wL zt))))) (zh (wL (zb 3)) (zh (wL (fC (.tup [.str "skip"]))) (wL zt))))))
  (Ji (wL (zb 3))))))
def bq10 (r_lay_rows r_lay_row r_lay_either r_lay_loop r_lay_call:List D->List D->Option (D×List D)):WM :=
  (ZV (wIf (wTest (w2 ZJ (wDGet (wFld 2) (fIx (zj false (zb 1)) (fC (.int 1)))) (wL (fC (.int 0)))))
  (Ji (wL (zb 2)))
  yK)
  (Ji (Zk 0 r_lay_rows (zh (wL (zb 0)) (zh (wIxL (wFld 1) (fIx (zj false (zb 1)) (fC (.int 1)))) (zh (wL (zb 2)) (wL zt)))))))
def Rq6:Nat->(List D->List D->Option (D×List D))×(List D->List D->Option (D×List D))×(List D->List D->Option (D×List D))×(List D->List D->Option (D×List D))×(List D->List D->Option (D×List D))
 | 0=>((fun _ _=>none),(fun _ _=>none),(fun _ _=>none),(fun _ _=>none),(fun _ _=>none))
 | n+1=>(yW 3 5 (bq6 ((Rq6 n).1) ((Rq6 n).2.1) ((Rq6 n).2.2.1) ((Rq6 n).2.2.2.1) ((Rq6 n).2.2.2.2)),yW 3 5 (bq7 ((Rq6 n).1) ((Rq6 n).2.1) ((Rq6 n).2.2.1) ((Rq6 n).2.2.2.1) ((Rq6 n).2.2.2.2)),yW 3 6 (bq8 ((Rq6 n).1) ((Rq6 n).2.1) ((Rq6 n).2.2.1) ((Rq6 n).2.2.2.1) ((Rq6 n).2.2.2.2)),yW 3 4 (bq9 ((Rq6 n).1) ((Rq6 n).2.1) ((Rq6 n).2.2.1) ((Rq6 n).2.2.2.1) ((Rq6 n).2.2.2.2)),yW 3 3 (bq10 ((Rq6 n).1) ((Rq6 n).2.1) ((Rq6 n).2.2.1) ((Rq6 n).2.2.2.1) ((Rq6 n).2.2.2.2)))
def mq6:List D->List D->Option (D×List D):=(Rq6 60).1
def bq4:Ev->Option Out :=
  (mLaid mq5 (fIx (zj false (zb 0)) (fC (.int 1))) (Yr 2 (Zk 0 mq6 (zh (wL (zb 1)) (zh (wL (fIx (zj true (fIx (zj false (zb 0)) (fC (.int 1)))) (fC (.int 0)))) (zh (wL (fC (.int 0))) (wL zt)))))))
def mq4:List D->Option D:=yg 1 3 bq4
def bq14:Ev->Option Out :=
  (Z1 (f2 ZJ (fIx (zj false (zb 0)) (fC (.int 0))) (fC (.str "take"))))
def mq14:List D->Option D:=yg 1 1 bq14
def bq17:Ev->Option Out :=
  (Zf (mIf (Y0 (zI (wG dLe dLt (fC (.int 0)) (fIx (zj false (zb 1)) (fC (.int 0))) (fA j9 (zj true (zb 0))))))
  (Z1 (fC (.bl false)))
  yt)
  (Zf (Zx 3 (fIx (zj true (zb 0)) (fIx (zj false (zb 1)) (fC (.int 0)))))
  (Z1 (fAndV (f2 ZJ (fIx (zj false (zb 3)) (fC (.int 0))) (zb 2)) (f2 ZJ (fA mq14 (ze (fIx (zj false (zb 3)) (fC (.int 2))) zt)) (f2 dNotN (fIx (zj false (zb 1)) (fC (.int 1))) (fC .non)))))))
def mq17:List D->Option D:=yg 3 4 bq17
def bq16:Ev->Option Out :=
  (Zf (mNew 2 (ZL (ze (fC (.int 0)) zt)))
  (Zf (mFor (zj true (zb 1)) (zP 3)
  (Zf (mIf (Y0 (zI (fA mq17 (ze (zb 0) (ze (zb 3) (ze (fIx (zj true (zb 2)) (f1 wH (fC (.int 1)))) zt))))))
  (Z1 (fC .non))
  yt)
  (mUpd 2 YR (fIx (zj false (fIx (zj true (zb 0)) (fIx (zj false (zb 3)) (fC (.int 0))))) (fC (.int 1))))))
  (Z1 (zb 2))))
def mq16:List D->Option D:=yg 2 4 bq16
def bq11:Ev->Option Out :=
  (Z1 (f2 dNotN (fA mq16 (ze (fIx (zj false (fA mq4 (ze (zb 0) zt))) (fC (.int 1))) (ze (zb 1) zt))) (fC .non)))
def mq11:List D->Option D:=yg 2 2 bq11
def bq13:Ev->Option Out :=
  (Z1 (J4 (Zo (ze (fC (.int 1)) zt)) (f2 gu (Zo (ze (fC (.int 0)) zt)) (fIx (zj false (zb 0)) (fC (.int 0))))))
def mq13:List D->Option D:=yg 1 1 bq13
def bq15:Ev->Option Out :=
  (Zf (mIf (zI (f2 ZJ (fIx (zj false (zb 0)) (fC (.int 0))) (fC (.str "skip"))))
  (Z1 (zb 2))
  yt)
  (Zf (Zx 3 (f2 Ze (fIx (zj false (zb 0)) (fC (.int 1))) (fC (.int 1))))
  (Zf (Zx 4 (fIf (zI (fA mq14 (ze (zb 0) zt))) (zb 1) (fA mq0 (ze (fIx (zj false (zb 0)) (fC (.int 2))) (ze (zb 2) zt)))))
  (Z1 (J4 (J4 (YT (zj false (zb 2)) fNo (YS (zb 3))) (Zo (ze (zb 4) zt))) (YT (zj false (zb 2)) (YS (f2 Ze (zb 3) (fC (.int 1)))) fNo))))))
def mq15:List D->Option D:=yg 3 5 bq15
def bq12:Ev->Option Out :=
  (Zf (Zx 2 (fIx (zj false (fA mq4 (ze (zb 0) zt))) (fC (.int 1))))
  (Zf (Zx 3 (fA mq16 (ze (zb 2) (ze (zb 1) zt))))
  (Zf (mIf (zI (f2 dIsN (zb 3) (fC .non)))
  mNever
  yt)
  (Zf (mNew 4 (ZL (ze (fA mq13 (ze (zb 0) zt)) zt)))
  (Zf (mFor (zj true (zb 1)) (zP 5)
  (mUpd 4 YR (fA mq15 (ze (fIx (zj false (fIx (zj true (zb 2)) (fIx (zj false (zb 5)) (fC (.int 0))))) (fC (.int 2))) (ze (fIx (zj false (zb 5)) (fC (.int 1))) (ze (fIx (zj true (zb 4)) (f1 wH (fC (.int 1)))) zt))))))
  (Z1 (gi (zj true (zb 3)) (zj true (zb 4)))))))))
def mq12:List D->Option D:=yg 2 6 bq12
def bq18:Ev->Option Out :=
  (Zf (mIf (zI (f2 dLt (zb 1) (fA j9 (zj true (zb 0)))))
  (Z1 (fIx (zj true (zb 0)) (zb 1)))
  yt)
  (Zf (Zx 2 (f2 Ze (f2 Yg (zb 1) (fC (.int 7919))) (fC (.int 5))))
  (Zf (mIf (zI (f2 dGt (fA j9 (zj true (zb 0))) (fC (.int 0))))
  (Zx 2 (f2 yN (f2 Ze (f2 Yg (fIx (zj true (zb 0)) (f2 yN (f2 Yg (zb 1) (fC (.int 7))) (fA j9 (zj true (zb 0))))) (fC (.int 48271))) (f2 Yg (zb 1) (fC (.int 7919)))) (fC (.int 2147483647))))
  yt)
  (Zf (Zx 2 (f2 yN (f2 Yg (zb 2) (zb 2)) (fC (.int 2147483629))))
  (Z1 (f2 yN (f2 Yg (f2 Ze (zb 2) (fC (.int 11))) (f2 Ze (zb 2) (fC (.int 3)))) (fC (.int 2147483587))))))))
def wy:List D->Option D:=yg 2 3 bq18
def bq19:Ev->Option Out :=
  (Zf (mNew 2 (ZL zt))
  (Zf (mFor (jQ (f2 Ze (zb 1) (fC (.int 1)))) (zP 3)
  (Zf (Zx 4 (f2 yN (f2 Ze (f2 Yg (f2 dDivP (zb 0) (f2 Ze (f2 Yg (zb 3) (zb 3)) (fC (.int 3)))) (fC (.int 48271))) (f2 Yg (zb 3) (fC (.int 69621)))) (fC (.int 2147483647))))
  (Zf (Zx 5 (fIx (zj true (ZL (ze (fC (.int 0)) (ze (fC (.int 1)) (ze (fC (.int 0)) (ze (f1 wH (fC (.int 1))) (ze (fC (.int 1)) (ze (fC (.int 2)) (ze (fC (.int 0)) (ze (fC (.int 3)) (ze (f1 wH (fC (.int 2))) zt))))))))))) (f2 yN (zb 4) (fC (.int 9)))))
  (Zf (mIf (zI (f2 ZJ (f2 yN (f2 Y7 (zb 4) (fC (.int 9))) (fC (.int 60))) (fC (.int 7))))
  (Zf (Zx 5 (f2 JB (f2 yN (f2 Y7 (zb 4) (fC (.int 540))) (fC (.int 1999999))) (fC (.int 999999))))
  (mIf (zI (f2 dGt (zb 3) (fC (.int 0))))
  (Zx 5 (f2 JB (f2 yN (zb 5) (fC (.int 19))) (fC (.int 9))))
  yt))
  yt)
  (mUpd 2 YR (zb 5))))))
  (Z1 (fA jk (zj true (zb 2))))))
def mq19:List D->Option D:=yg 2 6 bq19
def bq20:Ev->Option Out :=
  (Zf (Zx 3 (f2 yN (f2 Y7 (zb 0) (fC (.int 8))) (fC (.int 13))))
  (Zf (mIf (J5 (zI (f2 dGt (zb 3) (fC (.int 10)))) (zI (f2 dNeD (zb 2) (ZL zt))))
  (Z1 (Yo (fIx (zj true (ZX 1 (zj true (zb 2)) (zP 5) Yn (Zo (ze (fC (.str "call")) (ze (fIx (zj false (zb 5)) (fC (.int 0))) zt))))) (f2 yN (f2 Y7 (zb 0) (fC (.int 104))) (fA j9 (zj true (zb 2)))))))
  yt)
  (Zf (mIf (zI (f2 ZJ (zb 3) (fC (.int 8))))
  (Z1 (Zo (ze (fC (.str "either")) (ze (ZL zt) (ze (ZL zt) zt)))))
  yt)
  (Zf (mIf (zI (f2 ZJ (zb 3) (fC (.int 9))))
  (Z1 (Zo (ze (fC (.str "loop")) (ze (ZL zt) zt))))
  yt)
  (Zf (mIf (J5 (zI (f2 ZJ (zb 3) (fC (.int 10)))) (zI (f2 ZJ (f2 yN (f2 Y7 (zb 0) (fC (.int 104))) (fC (.int 3))) (fC (.int 0)))))
  (Z1 (Yo (Zo (ze (fC (.str "halt")) zt))))
  yt)
  (Zf (mIf (fOr (zI (f2 ZJ (zb 3) (fC (.int 7)))) (zI (f2 ZJ (zb 1) (fC (.int 0)))))
  (Z1 (Yo (Zo (ze (fC (.str "skip")) zt))))
  yt)
  (Zf (Zx 4 (f2 yN (f2 Y7 (zb 0) (fC (.int 104))) (zb 1)))
  (Zf (mIf (J5 (zI (f2 dGt (zb 3) (fC (.int 4)))) (zI (f2 dLt (zb 3) (fC (.int 7)))))
  (Z1 (Yo (Zo (ze (fC (.str "take")) (ze (zb 4) zt)))))
  yt)
  (Z1 (Yo (Zo (ze (fC (.str "set")) (ze (zb 4) (ze (fA mq19 (ze (f2 Y7 (zb 0) (fC (.int 13))) (ze (zb 1) zt))) zt))))))))))))))
def mq20:List D->Option D:=yg 3 5 bq20
def bq21:Ev->Option Out :=
  (mB15 (fA mq20 (ze (zb 8) (ze (zb 1) (ze (zb 2) zt)))) (fA YZ (zj true (ZX 1 (zj true (zb 2)) (zP 11) (J5 (zI (f2 ZJ (fIx (zj false (zb 9)) (fC (.int 0))) (fC (.str "call")))) (zI (f2 dEqD (fIx (zj false (zb 11)) (fC (.int 0))) (fIx (zj false (zb 9)) (fC (.int 1)))))) (fIx (zj false (zb 11)) (fC (.int 1)))))) (f2 Ze (zb 10) (fA gk (ze (Yo (f2 wI (fIx (zj false (zb 9)) (fC (.int 0))) (fC (.str "call")))) zt))))
def mq21:List D->Option D:=yg 5 11 bq21
def bq22:Ev->Option Out :=
  (Zf (Zx 4 (ZL zt))
  (Zf (Zx 5 (ZL zt))
  (Zf (Zx 6 (f2 Ze (fC (.int 1)) (f2 yN (fA wy (ze (zb 0) (ze (zb 1) zt))) (fC (.int 4)))))
  (Zf (mFor (gm (f2 JB (zb 6) (fC (.int 1))) (f1 wH (fC (.int 1)))) (zP 7)
  (Zf (Zx 8 (fC (.int 4)))
  (Zf (Zx 9 (fC (.int 2)))
  (Zf (mIf (zI (f2 ZJ (zb 7) (fC (.int 0))))
  (Zf (Zx 8 (f2 Ze (fC (.int 6)) (f2 yN (f2 Y7 (fA wy (ze (zb 0) (ze (zb 1) zt))) (fC (.int 3))) (fC (.int 9)))))
  (Zx 9 (fC (.int 3))))
  yt)
  (Zf (Zx 10 (f2 Ze (f2 Ze (f2 Ze (zb 1) (fC (.int 1))) (f2 Yg (fC (.int 11)) (fA gk (ze (Yo (f2 dGt (zb 7) (fC (.int 0)))) zt)))) (f2 Yg (fC (.int 4)) (zb 7))))
  (Zf (Zx 11 (ZX 1 (jQ (zb 8)) (zP 14) Yn (fA wy (ze (zb 0) (ze (f2 Ze (zb 10) (zb 14)) zt)))))
  (Zf (mAsg (wd (yr (zP 12) (yr (zP 13) wf))) (fA mq21 (ze (zb 11) (ze (zb 2) (ze (zb 5) (ze (zb 9) (ze (zb 3) zt)))))))
  (Zf (mIf (J5 (zI (f2 ZJ (zb 6) (fC (.int 1)))) (zI (f2 ZJ (f2 yN (f2 Y7 (fA wy (ze (zb 0) (ze (zb 1) zt))) (fC (.int 108))) (fC (.int 2))) (fC (.int 1)))))
  (Zx 12 (ZL (ze (Zo (ze (fC (.str "either")) (ze (ZL zt) (ze (ZL (ze (Zo (ze (fC (.str "loop")) (ze (ZL (ze (Zo (ze (fC (.str "either")) (ze (zb 12) (ze (ZL zt) zt)))) zt)) zt))) zt)) zt)))) zt)))
  yt)
  (Zf (Zx 4 (Wg (fL (ZL (ze (zb 12) zt))) (fL (zb 4))))
  (Zx 5 (Wg (fL (ZL (ze (Zo (ze (zb 7) (ze (zb 13) zt))) zt))) (fL (zb 5)))))))))))))
  (Z1 (Zo (ze (zb 2) (ze (zb 4) zt))))))))
def mq22:List D->Option D:=yg 4 14 bq22
def bq23 (r'size:List D->Option D):Ev->Option Out :=
  (Zf (Zx 2 (fC (.int 0)))
  (Zf (Zx 3 (fC (.int 0)))
  (Zf (mFor (zj true (zb 0)) (zP 4)
  (Zf (mIf (zI (f2 ZJ (fIx (zj false (zb 4)) (fC (.int 0))) (fC (.str "call"))))
  (Zx 5 (fA r'size (ze (fIx (zj true (zb 1)) (fIx (zj false (zb 4)) (fC (.int 1)))) (ze (zb 1) zt))))
  (Zf (Zx 6 (ZX 1 (zj false (YT (zj false (zb 4)) (YS (fC (.int 1))) fNo)) (zP 8) (zI (f2 dInT (fIx (zj false (zb 4)) (fC (.int 0))) (Zo (ze (fC (.str "either")) (ze (fC (.str "loop")) zt))))) (fA r'size (ze (zb 8) (ze (zb 1) zt)))))
  (Zf (Zx 7 (fGetC [("either",2),("loop",2),("halt",0)] (fIx (zj false (zb 4)) (fC (.int 0))) 1))
  (Zx 5 (Zo (ze (f2 Ze (fC (.int 1)) (fA YZ (zj true (ZX 1 (zj true (zb 6)) (zP 8) Yn (fIx (zj false (zb 8)) (fC (.int 0))))))) (ze (f2 Ze (zb 7) (fA YZ (zj true (ZX 1 (zj true (zb 6)) (zP 8) Yn (fIx (zj false (zb 8)) (fC (.int 1))))))) zt)))))))
  (Zf (Zx 2 (f2 Ze (zb 2) (fIx (zj false (zb 5)) (fC (.int 0)))))
  (Zx 3 (f2 Ze (zb 3) (fIx (zj false (zb 5)) (fC (.int 1))))))))
  (Z1 (Zo (ze (zb 2) (ze (zb 3) zt)))))))
def gK:Nat->(List D->Option D)
 | 0=>(fun _=>none)
 | n+1=>yg 2 8 (bq23 ((gK n)))
def mq23:List D->Option D:=(gK 20)
def bq24:WM :=
  (ZV (wK 0 0 (Zo (ze (zb 1) (ze (zb 2) zt))))
  (ZV (JG 0 3 (zb 3))
  (wK 0 1 (Zo (ze (zb 3) (ze (fA jk (zj true (f2 ZE (zb 0) (fC (.str "stand"))))) zt))))))
def W5:List D->List D->Option (D×List D):=yW 4 4 bq24
def bq25:WM :=
  (ZV (JG 1 5 (f2 Ze (f2 ZE (zb 1) (fC (.str "at"))) (fC (.int 1))))
  (Ji (wRd 1 (f2 dDivP (fA wy (ze (zb 0) (ze (f2 Ze (fC (.int 26)) (f2 yN (f2 ZE (zb 1) (fC (.str "at"))) (fC (.int 37)))) zt))) (f2 Ze (fC (.int 1)) (f2 Y7 (f2 ZE (zb 1) (fC (.str "at"))) (fC (.int 37))))))))
def mq25:List D->List D->Option (D×List D):=yW 2 2 bq25
def bq26:WM :=
  (ZV (Yr 5 (wL (fC .non)))
  (ZV (wIf (wL (zI (f2 ZJ (fIx (zj false (zb 2)) (fC (.int 0))) (fC (.str "take")))))
  (ZV (Yr 6 (Zk 1 mq25 (zh (wL (zb 0)) (zh (wL (zb 1)) (wL zt)))))
  (ZV (Yr 5 (wL (fIx (zj true (ZL (ze (fC (.int 0)) (ze (fC (.int 1)) (ze (f2 JB (f2 yN (f2 Y7 (zb 6) (fC (.int 7))) (fC (.int 21))) (fC (.int 10))) (ze (f2 JB (f2 yN (f2 Y7 (zb 6) (fC (.int 7))) (fC (.int 1999999999))) (fC (.int 999999999))) zt)))))) (f2 yN (f2 Y7 (zb 6) (fC (.int 3))) (fC (.int 4))))))
  (wc 1 (zb 5) (f2 Ze (fIx (zj false (zb 2)) (fC (.int 1))) (fC (.int 1))))))
  yK)
  (ZV (wIf (wL (zI (f2 ZJ (fIx (zj false (zb 2)) (fC (.int 0))) (fC (.str "set")))))
  (wc 1 (fA YZ (zj true (ZX 2 (fZip (zj false (fIx (zj false (zb 2)) (fC (.int 2)))) (zj true (f2 ZE (zb 1) (fC (.str "stand"))))) (wd (yr (zP 7) (yr (zP 8) wf))) Yn (f2 Yg (zb 7) (zb 8))))) (f2 Ze (fIx (zj false (zb 2)) (fC (.int 1))) (fC (.int 1))))
  yK)
  (ZD (Zk 0 W5 (zh (wL (zb 1)) (zh (wL (zb 4)) (zh (wL (zb 5)) (zh (wL (zb 3)) (wL zt))))))))))
def mq26:List D->List D->Option (D×List D):=yW 5 7 bq26
def bq27 (r'either r'loop r'walk:List D->List D->Option (D×List D)):WM :=
  (ZV (wM (mAsg (wd (yr (zP 5) (yr (zP 6) wf))) (zb 4)))
  (ZV (wM (Zx 7 (ZX 1 (zj false (YT (zj false (zb 2)) (YS (fC (.int 1))) fNo)) (zP 9) Yn (fA mq23 (ze (zb 9) (ze (zb 3) zt))))))
  (ZV (Yr 8 (w2 yN (Zk 1 mq25 (zh (wL (zb 0)) (zh (wL (zb 1)) (wL zt)))) (wL (fC (.int 2)))))
  (ZV (wIf (wL (zI (f2 ZJ (zb 8) (fC (.int 0)))))
  (ZD (Zk 1 r'walk (zh (wL (zb 0)) (zh (wL (zb 1)) (zh (wL (fIx (zj false (zb 2)) (fC (.int 1)))) (zh (wL (zb 3)) (zh (wL (zb 4)) (wL zt))))))))
  (ZD (Zk 1 r'walk (zh (wL (zb 0)) (zh (wL (zb 1)) (zh (wL (fIx (zj false (zb 2)) (fC (.int 2)))) (zh (wL (zb 3)) (zh (wL (Zo (ze (f2 Ze (zb 5) (fIx (zj false (fIx (zj true (zb 7)) (fC (.int 0)))) (fC (.int 0)))) (ze (f2 Ze (zb 6) (fIx (zj false (fIx (zj true (zb 7)) (fC (.int 0)))) (fC (.int 1)))) zt)))) (wL zt)))))))))
  (wIf (ju 1 (Y0 (zI (f2 ZE (zb 1) (fC (.str "over"))))))
  (ZD (Zk 0 W5 (zh (wL (zb 1)) (zh (wL (f2 Ze (f2 Ze (f2 Ze (zb 6) (fIx (zj false (fIx (zj true (zb 7)) (fC (.int 0)))) (fC (.int 1)))) (fIx (zj false (fIx (zj true (zb 7)) (fC (.int 1)))) (fC (.int 1)))) (zb 8))) (zh (wL (fC .non)) (zh (wL (f2 Ze (f2 Ze (zb 5) (fIx (zj false (fIx (zj true (zb 7)) (fC (.int 0)))) (fC (.int 0)))) (fIx (zj false (fIx (zj true (zb 7)) (fC (.int 1)))) (fC (.int 0))))) (wL zt)))))))
  yK)))))
def bq28 (r'either r'loop r'walk:List D->List D->Option (D×List D)):WM :=
  (ZV (wM (mAsg (wd (yr (zP 5) (yr (zP 6) wf))) (zb 4)))
  (ZV (ZD (Zk 0 W5 (zh (wL (zb 1)) (zh (wL (zb 6)) (zh (wL (fC .non)) (zh (wL (zb 5)) (wL zt)))))))
  (ZV (Yr 7 (wL (fA mq23 (ze (fIx (zj false (zb 2)) (fC (.int 1))) (ze (zb 3) zt)))))
  (wForR (w2 Yg (w2 yN (Zk 1 mq25 (zh (wL (zb 0)) (zh (wL (zb 1)) (wL zt)))) (wL (fC (.int 3)))) (wRd 1 (fA gk (ze (Yo (f2 dLt (fA j9 (zj true (f2 ZE (zb 1) (fC (.str "moves"))))) (fC (.int 150)))) zt)))) (zP 8)
  (ZV (wIf (ju 1 (Y0 (zI (f2 ZE (zb 1) (fC (.str "over"))))))
  (ZD (Zk 1 r'walk (zh (wL (zb 0)) (zh (wL (zb 1)) (zh (wL (fIx (zj false (zb 2)) (fC (.int 1)))) (zh (wL (zb 3)) (zh (wL (Zo (ze (f2 Ze (zb 5) (fC (.int 1))) (ze (f2 Ze (zb 6) (fC (.int 1))) zt)))) (wL zt))))))))
  yK)
  (wIf (ju 1 (Y0 (zI (f2 ZE (zb 1) (fC (.str "over"))))))
  (ZD (Zk 0 W5 (zh (wL (zb 1)) (zh (wL (f2 Ze (f2 Ze (zb 6) (fC (.int 1))) (fIx (zj false (zb 7)) (fC (.int 1))))) (zh (wL (fC .non)) (zh (wL (zb 5)) (wL zt)))))))
  yK))))))
def bq29 (r'either r'loop r'walk:List D->List D->Option (D×List D)):WM :=
  (ZV (wM (mAsg (wd (yr (zP 5) (yr (zP 6) wf))) (zb 4)))
  (wFor (zj true (zb 2)) (zP 7)
  (ZV (wIf (ju 1 (Y0 (zI (f2 ZE (zb 1) (fC (.str "over"))))))
  (wIf (wL (zI (f2 ZJ (fIx (zj false (zb 7)) (fC (.int 0))) (fC (.str "halt")))))
  (JG 1 4 (fC (.bl true)))
  (wIf (wL (zI (f2 ZJ (fIx (zj false (zb 7)) (fC (.int 0))) (fC (.str "call")))))
  (ZD (Zk 1 r'walk (zh (wL (zb 0)) (zh (wL (zb 1)) (zh (wL (fIx (zj true (zb 3)) (fIx (zj false (zb 7)) (fC (.int 1))))) (zh (wL (zb 3)) (zh (wL (Zo (ze (zb 5) (ze (zb 6) zt)))) (wL zt))))))))
  (wIf (wL (zI (f2 ZJ (fIx (zj false (zb 7)) (fC (.int 0))) (fC (.str "either")))))
  (ZD (Zk 1 r'either (zh (wL (zb 0)) (zh (wL (zb 1)) (zh (wL (zb 7)) (zh (wL (zb 3)) (zh (wL (Zo (ze (zb 5) (ze (zb 6) zt)))) (wL zt))))))))
  (wIf (wL (zI (f2 ZJ (fIx (zj false (zb 7)) (fC (.int 0))) (fC (.str "loop")))))
  (ZD (Zk 1 r'loop (zh (wL (zb 0)) (zh (wL (zb 1)) (zh (wL (zb 7)) (zh (wL (zb 3)) (zh (wL (Zo (ze (zb 5) (ze (zb 6) zt)))) (wL zt))))))))
  (ZD (Zk 1 mq26 (zh (wL (zb 0)) (zh (wL (zb 1)) (zh (wL (zb 7)) (zh (wL (zb 5)) (zh (wL (zb 6)) (wL zt))))))))))))
  yK)
  (ZV (Yr 8 (wL (fA mq23 (ze (ZL (ze (zb 7) zt)) (ze (zb 3) zt)))))
  (ZV (Yr 5 (wL (f2 Ze (zb 5) (fIx (zj false (zb 8)) (fC (.int 0))))))
  (Yr 6 (wL (f2 Ze (zb 6) (fIx (zj false (zb 8)) (fC (.int 1)))))))))))
def Zy:Nat->(List D->List D->Option (D×List D))×(List D->List D->Option (D×List D))×(List D->List D->Option (D×List D))
 | 0=>((fun _ _=>none),(fun _ _=>none),(fun _ _=>none))
 | n+1=>(yW 5 9 (bq27 ((Zy n).1) ((Zy n).2.1) ((Zy n).2.2)),yW 5 9 (bq28 ((Zy n).1) ((Zy n).2.1) ((Zy n).2.2)),yW 5 9 (bq29 ((Zy n).1) ((Zy n).2.1) ((Zy n).2.2)))
def mq29:List D->List D->Option (D×List D):=(Zy 40).2.2
def bq30:Ev->Option Out :=
  (Zf (Zx 1 (f2 yN (fA wy (ze (zb 0) (ze (fC (.int 0)) zt))) (fC (.int 7))))
  (Zf (Zx 2 (fA mq22 (ze (zb 0) (ze (fC (.int 1)) (ze (zb 1) (ze (fC (.int 36)) zt))))))
  (Zf (Zx 3 (fA mq4 (ze (zb 2) zt)))
  (Zf (Zx 4 (fA mq23 (ze (fIx (zj true (fIx (zj false (zb 2)) (fC (.int 1)))) (fC (.int 0))) (ze (fIx (zj false (zb 2)) (fC (.int 1))) zt))))
  (Zf (mIf (zI (f2 dNeD (Zo (ze (fIx (zj false (zb 3)) (fC (.int 0))) (ze (fA j9 (zj true (fIx (zj false (zb 3)) (fC (.int 1))))) zt))) (Zo (ze (f2 Ze (fC (.int 1)) (fIx (zj false (zb 4)) (fC (.int 0)))) (ze (fIx (zj false (zb 4)) (fC (.int 1))) zt)))))
  (Z1 (fC (.bl false)))
  yt)
  (Zf (mFor (jQ (fC (.int 2))) (zP 5)
  (Zf (W7 6 7 (Wg (fL (ZL (ze (fC (.int 1)) zt))) (fL (fRep (fL (ZL (ze (fC (.int 0)) zt))) (zb 1)))) (ZL (ze (Zo (ze (fC (.int 0)) (ze (fA jk (zj true (zb 6))) zt))) zt)) (f2 Yg (fC (.int 11)) (zb 5)) (ZD (Zk 1 mq29 (zh (wL (zb 0)) (zh (wL (zb 7)) (zh (wL (fIx (zj true (fIx (zj false (zb 2)) (fC (.int 1)))) (fC (.int 0)))) (zh (wL (fIx (zj false (zb 2)) (fC (.int 1)))) (zh (wL (Zo (ze (fC (.int 1)) (ze (fC (.int 0)) zt)))) (wL zt)))))))))
  (Zf (mIf (zI (f2 dNotB (fA mq11 (ze (zb 2) (ze (fA (fun ds=>some (.lst ds)) (zj true (f2 ZE (zb 7) (fC (.str "moves"))))) zt))) (fC (.bl true))))
  (Z1 (fC (.bl false)))
  yt)
  (Zf (mIf (zI (f2 dNeD (fA mq12 (ze (zb 2) (ze (fA (fun ds=>some (.lst ds)) (zj true (f2 ZE (zb 7) (fC (.str "moves"))))) zt))) (f2 ZE (zb 7) (fC (.str "rows")))))
  (Z1 (fC (.bl false)))
  yt)
  (mIf (J5 (Y0 (zI (f2 ZE (zb 7) (fC (.str "over"))))) (zI (f2 wI (f2 ZE (zb 7) (fC (.str "place"))) (fIx (zj false (zb 3)) (fC (.int 2))))))
  (Z1 (fC (.bl false)))
  yt)))))
  (Z1 (fC (.bl true)))))))))
def mq30:List D->Option D:=yg 1 8 bq30
def top (i:Nat):Kx:=PySem.Challenge.pw_evennotes_k19_whole_walked_by_rows.main.body.getD i (.Pass ⟨0,0,0,0⟩)
structure Txt (K:KC) (mg:Kw->Option Ka) (C:Kc) (Z:Nat->Kc):Prop where
 F0:Df K mg "worth" (top 1)
 F1:Df K mg "lists_in" (top 6)
 F2:Df K mg "new_places" (top 7)
 F3:Df K mg "new_places_of_row" (top 8)
 F4:Df K mg "laid" (top 12)
 F5:Df K mg "places_of_bodies" (top 13)
 F6:Df K mg "lay_rows" (top 14)
 F7:Df K mg "lay_row" (top 15)
 F8:Df K mg "lay_either" (top 16)
 F9:Df K mg "lay_loop" (top 17)
 F10:Df K mg "lay_call" (top 18)
 F11:Df K mg "is_run" (top 20)
 F12:Df K mg "ran" (top 21)
 F13:Df K mg "first_stand" (top 22)
 F14:Df K mg "takes" (top 23)
 F15:Df K mg "stand_behind" (top 24)
 F16:Df K mg "places_along" (top 25)
 F17:Df K mg "goes_on" (top 26)
 F18:Df K mg "_law_cell" (top 28)
 F19:Df K mg "_law_line" (top 29)
 F20:Df K mg "_law_deed" (top 30)
 F21:Df K mg "_law_body" (top 31)
 F22:Df K mg "_law_program" (top 32)
 F23:Df K mg "_law_size" (top 33)
 F24:Df K mg "_law_goes" (top 34)
 F25:Df K mg "_law_next" (top 35)
 F26:Df K mg "_law_plain" (top 36)
 F27:Df K mg "_law_either" (top 37)
 F28:Df K mg "_law_loop" (top 38)
 F29:Df K mg "_law_walk" (top 39)
 F30:Df K mg "law" (top 40)
 F31:DfI K C "Layout.__init__" (inCls (top 11) 0)
 F32:DfM K C "new_place" "Layout.new_place" (inCls (top 11) 1)
 F33:DfM K C "add_step" "Layout.add_step" (inCls (top 11) 2)
 z_int:mg "int"=none
 z_isinstance:mg "isinstance"=none
 z_len:mg "len"=none
 z_list:mg "list"=none
 z_range:mg "range"=none
 z_sum:mg "sum"=none
 z_tuple:mg "tuple"=none
 z_zip:mg "zip"=none
 c_SKIP:mg "SKIP"=some (.ref (Z 0))
 l_SKIP:TS1 K (Z 0) "skip"
 lc:LCls K C
 m_Layout:mg "Layout"=some (.ref C)
section
variable {P:Ki} {w:Kk} {K:KC} {mg:Kw->Option Ka} {base:Kl} {C:Kc} {Z:Nat->Kc}
section
variable (P:Ki) (w:Kk) (K:KC) (mg:Kw->Option Ka) (base:Kl) (C:Kc)
abbrev A0:Prop:=Kn P w K mg base "worth" 36 ["one","other"] (spM K mq0)
abbrev A1:Prop:=Kn P w K mg base "lists_in" 36 ["row"] (spM K mq1)
abbrev A2:Prop:=Kn P w K mg base "new_places" 158 ["rows","called"] (spM K mq2)
abbrev A5:Prop:=Kn P w K mg base "places_of_bodies" 160 ["bodies"] (spM K mq5)
abbrev A31:Prop:=KnI P w K mg base C 162 ["self","bodies"] (WO K C mq5)
abbrev A32:Prop:=KnM P w K mg base C "new_place" 36 ["self"] (spW K (kO C) 0 mq32)
abbrev A33:Prop:=KnM P w K mg base C "add_step" 36 ["self","start","to","deed"] (spW K (kO C) 0 mq33)
abbrev A6:Prop:=Kn P w K mg base "lay_rows" 158 ["layout","rows","place"] (spW K (kO C) 0 mq6)
abbrev A4:Prop:=Kn P w K mg base "laid" 164 ["program"] (spL K mq4)
abbrev A14:Prop:=Kn P w K mg base "takes" 36 ["deed"] (spM K mq14)
abbrev A17:Prop:=Kn P w K mg base "goes_on" 38 ["steps","move","place"] (spM K mq17)
abbrev A16:Prop:=Kn P w K mg base "places_along" 40 ["steps","moves"] (spM K mq16)
abbrev A11:Prop:=Kn P w K mg base "is_run" 166 ["program","moves"] (spM K mq11)
abbrev A13:Prop:=Kn P w K mg base "first_stand" 36 ["program"] (spM K mq13)
abbrev A15:Prop:=Kn P w K mg base "stand_behind" 38 ["deed","number","stand"] (spM K mq15)
abbrev A12:Prop:=Kn P w K mg base "ran" 166 ["program","moves"] (spM K mq12)
abbrev A18:Prop:=Kn P w K mg base "_law_cell" 36 ["_law_script","_law_k"] (spM K wy)
abbrev A19:Prop:=Kn P w K mg base "_law_line" 36 ["_law_cell_here","_law_many"] (spM K mq19)
abbrev A20:Prop:=Kn P w K mg base "_law_deed" 38 ["_law_cell_here","_law_many","_law_later_on"] (spF K mq20)
abbrev A21:Prop:=Kn P w K mg base "_law_body" 40 ["_law_cells","_law_many","_law_later_on","_law_deep","_law_most"] (spM K mq21)
abbrev A22:Prop:=Kn P w K mg base "_law_program" 42 ["_law_script","_law_at","_law_many","_law_most"] (spM K mq22)
abbrev A23:Prop:=Kn P w K mg base "_law_size" 76 ["_law_rows","_law_bodies"] (spM K mq23)
abbrev A24:Prop:=Kn P w K mg base "_law_goes" 36 ["_law_state","_law_step","_law_number","_law_place"] (spW K kS 0 W5)
abbrev A25:Prop:=Kn P w K mg base "_law_next" 38 ["_law_script","_law_state"] (spW K kS 1 mq25)
abbrev A26:Prop:=Kn P w K mg base "_law_plain" 40 ["_law_script","_law_state","_law_row","_law_place","_law_step"] (spW K kS 1 mq26)
abbrev A29:Prop:=Kn P w K mg base "_law_walk" 158 ["_law_script","_law_state","_law_rows","_law_bodies","_law_begin"] (spW K kS 1 mq29)
end
variable (T:Txt K mg C Z)
include T
theorem g_worth :A0 P w K mg base:=(jP P w base 35 ["one","other"] ["one","other"] bq0 T.F0 (by decide +kernel) fun nd=>fun _ _ _ _ _ _ _ hr=>⟨_,[],by
  unfold bq0
  exact (zJ (ZQ (Jk (K':=K) (st:=false) rfl (by rfl) (by exact T.z_sum) (SF.seq (Jb (si_zip (K':=K) (by rfl) (by exact T.z_zip) (SC.sn (sqF (za 0))) (SC.sn (sqF (za 1)))) (fun _ _ _ _=>(wn (K':=K) rfl (yn ZW (yn ZW jX)))) (fun _ _ _ _=>Yj) (fun _ _ _ _=>(zE yk yi (za 2) (za 3))))))))⟩ :)
theorem g_lists_in :A1 P w K mg base:=(jP P w base 35 ["row"] ["row"] bq1 T.F1 (by decide +kernel) fun nd=>fun _ _ _ _ _ _ _ hr=>⟨_,[],by
  unfold bq1
  exact (zJ (ZQ (SF.se (st:=false) (Jb (si_tup (K':=K) (SC.sn (sqF (za 0)))) (fun _ _ _ _=>ZW) (fun _ _ _ _=>(spf_one (jC (se_isi (K':=K) (st:=false) (by rfl) (by exact T.z_isinstance) (by rfl) (by exact T.z_list) PyProof.Rows.boot_list (by decide) (za 1))))) (fun _ _ _ _=>(za 1))))))⟩ :)
theorem g_new_places (G1:A1 P w K mg base) (n:Nat):Kn P w K mg base "new_places" (38+2*n) ["rows","called"] (spM K (Rq2 n).1)/\Kn P w K mg base "new_places_of_row" (38+2*n) ["row","called"] (spM K (Rq2 n).2):=by
 induction n with
 | zero=>exact ⟨Kn.no T.F2,Kn.no T.F3⟩
 | succ n ih =>
  obtain ⟨G2,G3⟩:=ih
  exact ⟨(jP P w base (38+2*n+1) ["rows","called"] ["rows","called"] (bq2 ((Rq2 n).1) ((Rq2 n).2)) T.F2 (by decide +kernel) fun nd=>fun _ _ _ _ _ _ _ hr=>⟨_,[],by
  unfold bq2
  exact (zJ (ZQ (Jk (K':=K) (st:=false) rfl (by rfl) (by exact T.z_sum) (SF.seq (Jb (Ya (K':=K) (SC.sn (sqT (za 0)))) (fun _ _ _ _=>ZW) (fun _ _ _ _=>Yj) (fun _ _ _ _=>(ZZ (K':=K) G3 (hr.mono (by omega)) (zg (za 2) (zg (za 1) zA)))))))))⟩ :),(jP P w base (38+2*n+1) ["row","called"] ["row","called"] (bq3 ((Rq2 n).1) ((Rq2 n).2)) T.F3 (by decide +kernel) fun nd=>fun _ _ _ _ _ _ _ hr=>⟨_,[],by
  unfold bq3
  exact (zx (yG (os':=[]) (Zd Z8 Zl (zC (K':=K) (st:=false) (sqF (za 0)) zf) Za (zN _)) (zJ (ZQ (se_dget (st:=false) hr (za 1) (zC (K':=K) (st:=false) (sqF (za 0)) zf)))) ZN) (zJ (ZQ (zE zZ zQ zf (Jk (K':=K) (st:=false) rfl (by rfl) (by exact T.z_sum) (SF.seq (Jb (Ya (K':=K) (SC.sn (sqT (ZZ (K':=K) G1 (hr.mono (by omega)) (zg (za 0) zA))))) (fun _ _ _ _=>ZW) (fun _ _ _ _=>Yj) (fun _ _ _ _=>(ZZ (K':=K) G2 (hr.mono (by omega)) (zg (za 2) (zg (za 1) zA)))))))))))⟩ :)⟩
theorem Jv (G2:A2 P w K mg base):A5 P w K mg base:=(jP P w base 159 ["bodies","places","number"] ["bodies"] bq5 T.F5 (by decide +kernel) fun nd=>fun _ _ _ _ _ _ _ hr=>⟨_,[1],by
  unfold bq5
  exact (zx (ss_new (os:=[]) (os':=[1]) (i:=1) nd rfl (Or.inl rfl) sf_dnew) (zx (Jj (os:=[1]) rfl (si_rangeD (by rfl) (by exact T.z_range) (zE Jq jb (jA (K':=K) (st:=false) (by rfl) (by exact T.z_len) (sqT (za 0))) zf) (se_un YU jV zf)) ZW (zJ (ss_dput (os:=[1]) 1 hr (za 2) (SE.flat (ZZ (K':=K) G2 (hr.mono (by omega)) (zg (Z6 (K':=K) (st:=false) (sqT (za 0)) (za 2)) (zg (se_look 1) zA))))))) (zJ (ZQ (se_look 1)))))⟩ :)
theorem g___init__ (G5:A5 P w K mg base):A31 P w K mg base C:=(fn_kI (mg:=mg) P w base 161 mq5 T.F31 T.lc fun _ _ _ _ _ _ _ hr=>Zw (ps_fld (pv 0) (pv 1) rfl) (Zw (ps_fld (pv 0) (pe_kn G5 (hr.mono (by omega)) (by rfl) (zM (pv 1) Zj)) rfl) (Zw (ps_fld (pv 0) yj rfl) (Yb (ps_fld (pv 0) (jd Zj) rfl)))) :)
theorem g_new_place :A32 P w K mg base C:=(fn_kM (mg:=mg) P w base 35 ["self"] ["self"] 0 (kO C) bq32 T.F32 (by decide +kernel) fun nd=>fun _ _ _ _ _ _ _ hr=>⟨_,[],by
  unfold bq32
  exact (zK (wl_inc T.lc) (zU (yX (we_op (st:=false) Jq jb (wl_fld (st:=true) (we_cnt T.lc)) (SE.we zf)))))⟩ :)
theorem g_add_step :A33 P w K mg base C:=(fn_kM (mg:=mg) P w base 35 ["self","start","to","deed"] ["self","start","to","deed"] 0 (kO C) bq33 T.F33 (by decide +kernel) fun nd=>fun _ _ _ _ _ _ _ hr=>⟨_,[],by
  unfold bq33
  exact (zU (wl_step T.lc (ZI (zg (za 1) (zg (za 2) (zg (za 3) zA))))))⟩ :)
theorem g_lay_rows (G32:A32 P w K mg base C) (G33:A33 P w K mg base C) (n:Nat):Kn P w K mg base "lay_rows" (38+2*n) ["layout","rows","place"] (spW K (kO C) 0 (Rq6 n).1)/\Kn P w K mg base "lay_row" (38+2*n) ["layout","row","place"] (spW K (kO C) 0 (Rq6 n).2.1)/\Kn P w K mg base "lay_either" (38+2*n) ["layout","row","place"] (spW K (kO C) 0 (Rq6 n).2.2.1)/\Kn P w K mg base "lay_loop" (38+2*n) ["layout","row","place"] (spW K (kO C) 0 (Rq6 n).2.2.2.1)/\Kn P w K mg base "lay_call" (38+2*n) ["layout","row","place"] (spW K (kO C) 0 (Rq6 n).2.2.2.2):=by
 induction n with
 | zero=>exact ⟨Kn.noW T.F6,Kn.noW T.F7,Kn.noW T.F8,Kn.noW T.F9,Kn.noW T.F10⟩
 | succ n ih =>
  obtain ⟨G6,G7,G8,G9,G10⟩:=ih
  exact ⟨(jO P w base (38+2*n+1) ["layout","rows","place","at","row"] ["layout","rows","place"] 0 (kO C) (bq6 ((Rq6 n).1) ((Rq6 n).2.1) ((Rq6 n).2.2.1) ((Rq6 n).2.2.2.1) ((Rq6 n).2.2.2.2)) T.F6 (by decide +kernel) fun nd=>fun _ _ _ _ _ _ _ hr=>⟨_,[],by
  unfold bq6
  exact (zK (Z7 (j:=3) nd rfl (Or.inl rfl) (SE.we (za 2))) (zK (wst_for rfl (Ya (K':=K) (SE.sn (k:=true) (za 1))) ZW kg_name (zU (Z7 (j:=3) nd rfl (Or.inl rfl) (yq (K':=K) G7 (hr.mono (by omega)) Yv (zm (SE.we (za 0)) (zm (SE.we (za 4)) (zm (SE.we (za 3)) Zz))))))) (zU (yX (SE.we (za 3))))))⟩ :),(jO P w base (38+2*n+1) ["layout","row","place","kind","new"] ["layout","row","place"] 0 (kO C) (bq7 ((Rq6 n).1) ((Rq6 n).2.1) ((Rq6 n).2.2.1) ((Rq6 n).2.2.2.1) ((Rq6 n).2.2.2.2)) T.F7 (by decide +kernel) fun nd=>fun _ _ _ _ _ _ _ hr=>⟨_,[],by
  unfold bq7
  exact (zK (Z7 (j:=3) nd rfl (Or.inl rfl) (SE.we (zC (K':=K) (st:=true) (sqF (za 1)) zf))) (zK (yI (SB.wb (Zd Z8 Zl (za 3) Za (zN _))) (zU (yX (yq (K':=K) G8 (hr.mono (by omega)) Yv (zm (SE.we (za 0)) (zm (SE.we (za 1)) (zm (SE.we (za 2)) Zz)))))) yY) (zK (yI (SB.wb (Zd Z8 Zl (za 3) Za (zN _))) (zU (yX (yq (K':=K) G9 (hr.mono (by omega)) Yv (zm (SE.we (za 0)) (zm (SE.we (za 1)) (zm (SE.we (za 2)) Zz)))))) yY) (zK (yI (SB.wb (Zd Z8 Zl (za 3) Za (zN _))) (zU (yX (yq (K':=K) G10 (hr.mono (by omega)) Yv (zm (SE.we (za 0)) (zm (SE.we (za 1)) (zm (SE.we (za 2)) Zz)))))) yY) (zK (Z7 (j:=4) nd rfl (Or.inl rfl) (wl_kn0 (K':=K) T.lc G32 (hr.mono (by omega)))) (zK (yI (SB.wb (Zd op_ne rok_neS (za 3) Za (zN _))) (zU (ZO (wl_kn (K':=K) T.lc G33 (hr.mono (by omega)) (zm (SE.we (za 2)) (zm (SE.we (za 4)) (zm (SE.we (za 1)) Zz)))))) yY) (zU (yX (SE.we (za 4))))))))))⟩ :),(jO P w base (38+2*n+1) ["layout","row","place","one","other","new"] ["layout","row","place"] 0 (kO C) (bq8 ((Rq6 n).1) ((Rq6 n).2.1) ((Rq6 n).2.2.1) ((Rq6 n).2.2.2.1) ((Rq6 n).2.2.2.2)) T.F8 (by decide +kernel) fun nd=>fun _ _ _ _ _ _ _ hr=>⟨_,[],by
  unfold bq8
  exact (zK (Z7 (j:=3) nd rfl (Or.inl rfl) (yq (K':=K) G6 (hr.mono (by omega)) Yv (zm (SE.we (za 0)) (zm (SE.we (zC (K':=K) (st:=true) (sqF (za 1)) zf)) (zm (SE.we (za 2)) Zz))))) (zK (Z7 (j:=4) nd rfl (Or.inl rfl) (yq (K':=K) G6 (hr.mono (by omega)) Yv (zm (SE.we (za 0)) (zm (SE.we (zC (K':=K) (st:=true) (sqF (za 1)) zf)) (zm (SE.we (za 2)) Zz))))) (zK (Z7 (j:=5) nd rfl (Or.inl rfl) (wl_kn0 (K':=K) T.lc G32 (hr.mono (by omega)))) (zK (ZO (wl_kn (K':=K) T.lc G33 (hr.mono (by omega)) (zm (SE.we (za 3)) (zm (SE.we (za 5)) (zm (SE.we (se_glS T.c_SKIP T.l_SKIP)) Zz))))) (zK (ZO (wl_kn (K':=K) T.lc G33 (hr.mono (by omega)) (zm (SE.we (za 4)) (zm (SE.we (za 5)) (zm (SE.we (se_glS T.c_SKIP T.l_SKIP)) Zz))))) (zU (yX (SE.we (za 5)))))))))⟩ :),(jO P w base (38+2*n+1) ["layout","row","place","new"] ["layout","row","place"] 0 (kO C) (bq9 ((Rq6 n).1) ((Rq6 n).2.1) ((Rq6 n).2.2.1) ((Rq6 n).2.2.2.1) ((Rq6 n).2.2.2.2)) T.F9 (by decide +kernel) fun nd=>fun _ _ _ _ _ _ _ hr=>⟨_,[],by
  unfold bq9
  exact (zK (Z7 (j:=3) nd rfl (Or.inl rfl) (wl_kn0 (K':=K) T.lc G32 (hr.mono (by omega)))) (zK (ZO (wl_kn (K':=K) T.lc G33 (hr.mono (by omega)) (zm (SE.we (za 2)) (zm (SE.we (za 3)) (zm (SE.we (se_glS T.c_SKIP T.l_SKIP)) Zz))))) (zK (ZO (wl_kn (K':=K) T.lc G33 (hr.mono (by omega)) (zm (yq (K':=K) G6 (hr.mono (by omega)) Yv (zm (SE.we (za 0)) (zm (SE.we (zC (K':=K) (st:=true) (sqF (za 1)) zf)) (zm (SE.we (za 3)) Zz)))) (zm (SE.we (za 3)) (zm (SE.we (se_glS T.c_SKIP T.l_SKIP)) Zz))))) (zU (yX (SE.we (za 3)))))))⟩ :),(jO P w base (38+2*n+1) ["layout","row","place"] ["layout","row","place"] 0 (kO C) (bq10 ((Rq6 n).1) ((Rq6 n).2.1) ((Rq6 n).2.2.1) ((Rq6 n).2.2.2.1) ((Rq6 n).2.2.2.2)) T.F10 (by decide +kernel) fun nd=>fun _ _ _ _ _ _ _ hr=>⟨_,[],by
  unfold bq10
  exact (zK (yI (wb_cmp Z8 Zl (wl_dget (st:=true) hr (wl_fld (st:=true) (we_lay T.lc)) (zC (K':=K) (st:=true) (sqF (za 1)) zf)) (SE.we zf) (zN _)) (zU (yX (SE.we (za 2)))) yY) (zU (yX (yq (K':=K) G6 (hr.mono (by omega)) Yv (zm (SE.we (za 0)) (zm (wl_ix (K':=K) (st:=true) (wl_fld (st:=true) (we_bod T.lc)) (zC (K':=K) (st:=true) (sqF (za 1)) zf)) (zm (SE.we (za 2)) Zz)))))))⟩ :)⟩
theorem g_laid (G31:A31 P w K mg base C) (G6:A6 P w K mg base C):A4 P w K mg base:=(fn_kL P w base 163 ["program","layout","end"] ["program"] mq5 (fIx (zj false (zb 0)) (fC (.int 1))) (Yr 2 (Zk 0 mq6 (zh (wL (zb 1)) (zh (wL (fIx (zj true (fIx (zj false (zb 0)) (fC (.int 1)))) (fC (.int 0)))) (zh (wL (fC (.int 0))) (wL zt)))))) T.lc T.F4 (by decide +kernel) fun nd _ _ _ _ _ _ _ hr=>by
  exact (ld_mk (zC (K':=K) (st:=true) (sqF (za 0)) zf) (Z7 (j:=2) nd rfl (Or.inl rfl) (yq (K':=K) G6 (hr.mono (by omega)) Yv (zm (SE.we (za 1)) (zm (SE.we (Z6 (K':=K) (st:=true) (sqT (zC (K':=K) (st:=true) (sqF (za 0)) zf)) zf)) (zm (SE.we zf) Zz))))) (fun hE=>Yi (i:=1) nd rfl (Or.inl rfl) (pe_mk G31 (hr.mono (by omega)) (by rfl) T.m_Layout (zM hE Zj))) (Jp (wv (zM (pe_fld (pv 1) rfl) (zM (pe_fld (pv 1) rfl) (zM (pv 2) Zj)))))) :)
theorem g_takes :A14 P w K mg base:=(jP P w base 35 ["deed"] ["deed"] bq14 T.F14 (by decide +kernel) fun nd=>fun _ _ _ _ _ _ _ hr=>⟨_,[],by
  unfold bq14
  exact (zJ (ZQ (jB Z8 Zl (zC (K':=K) (st:=false) (sqF (za 0)) zf) Za (zN _))))⟩ :)
theorem g_goes_on (G14:A14 P w K mg base):A17 P w K mg base:=(jP P w base 37 ["steps","move","place","step"] ["steps","move","place"] bq17 T.F17 (by decide +kernel) fun nd=>fun _ _ _ _ _ _ _ hr=>⟨_,[],by
  unfold bq17
  exact (zx (yG (os':=[]) (Jl (sb_chain op_le rok_le op_lt rok_lt zf (zC (K':=K) (st:=false) (sqF (za 1)) zf) (jA (K':=K) (st:=false) (by rfl) (by exact T.z_len) (sqT (za 0))))) (zJ (ZQ wQ)) ZN) (zx (Zi (os:=[]) (os':=[]) (i:=3) nd rfl (Or.inl rfl) (Z6 (K':=K) (st:=true) (sqT (za 0)) (zC (K':=K) (st:=true) (sqF (za 1)) zf))) (zJ (ZQ (se_and (jB Z8 Zl (zC (K':=K) (st:=false) (sqF (za 3)) zf) (za 2) (zN _)) (se_one (jB Z8 Zl (ZZ (K':=K) G14 (hr.mono (by omega)) (zg (zC (K':=K) (st:=false) (sqF (za 3)) zf) zA)) (jB op_notN rok_notN (zC (K':=K) (st:=false) (sqF (za 1)) zf) jz (zN _)) (zN _))))))))⟩ :)
theorem gh (G17:A17 P w K mg base):A16 P w K mg base:=(jP P w base 39 ["steps","moves","places","move"] ["steps","moves"] bq16 T.F16 (by decide +kernel) fun nd=>fun _ _ _ _ _ _ _ hr=>⟨_,[2],by
  unfold bq16
  exact (zx (ss_new (os:=[]) (os':=[2]) (i:=2) nd rfl (Or.inl rfl) (ye (zg zf zA))) (zx (Jj (os:=[2]) rfl (Ya (K':=K) (SE.sn (k:=true) (za 1))) ZW (zx (yG (os':=[2]) (Jl (jC (ZZ (K':=K) G17 (hr.mono (by omega)) (zg (za 0) (zg (za 3) (zg (Z6 (K':=K) (st:=false) (sc_own 2) (se_un YU jV zf)) zA)))))) (zJ (ZQ jz)) ZN) (zJ (wj (os:=[2]) (i:=2) (zC (K':=K) (st:=true) (sqF (Z6 (K':=K) (st:=true) (sqT (za 0)) (zC (K':=K) (st:=true) (sqF (za 3)) zf))) zf))))) (zJ (ZQ (se_look 2)))))⟩ :)
theorem g_is_run (G16:A16 P w K mg base) (G4:A4 P w K mg base):A11 P w K mg base:=(jP P w base 165 ["program","moves"] ["program","moves"] bq11 T.F11 (by decide +kernel) fun nd=>fun _ _ _ _ _ _ _ hr=>⟨_,[],by
  unfold bq11
  have P_laid:=Kn.told G4
  exact (zJ (ZQ (jB op_notN rok_notN (ZZ (K':=K) G16 (hr.mono (by omega)) (zg (zC (K':=K) (st:=false) (sqF (ZZ (K':=K) P_laid (hr.mono (by omega)) (zg (za 0) zA))) zf) (zg (za 1) zA))) jz (zN _))))⟩ :)
theorem g_first_stand :A13 P w K mg base:=(jP P w base 35 ["program"] ["program"] bq13 T.F13 (by decide +kernel) fun nd=>fun _ _ _ _ _ _ _ hr=>⟨_,[],by
  unfold bq13
  exact (zJ (ZQ (se_catA (K':=K) (st:=false) (ZI (zg zf zA)) (se_repZ (K':=K) (st:=true) (ZI (zg zf zA)) (zC (K':=K) (st:=true) (sqF (za 0)) zf)))))⟩ :)
theorem gg (G14:A14 P w K mg base) (G0:A0 P w K mg base):A15 P w K mg base:=(jP P w base 37 ["deed","number","stand","place","new"] ["deed","number","stand"] bq15 T.F15 (by decide +kernel) fun nd=>fun _ _ _ _ _ _ _ hr=>⟨_,[],by
  unfold bq15
  exact (zx (yG (os':=[]) (Zd Z8 Zl (zC (K':=K) (st:=false) (sqF (za 0)) zf) Za (zN _)) (zJ (ZQ (za 2))) ZN) (zx (Zi (os:=[]) (os':=[]) (i:=3) nd rfl (Or.inl rfl) (zE zZ zQ (zC (K':=K) (st:=true) (sqF (za 0)) zf) zf)) (zx (Zi (os:=[]) (os':=[]) (i:=4) nd rfl (Or.inl rfl) (se_if (jC (ZZ (K':=K) G14 (hr.mono (by omega)) (zg (za 0) zA))) (za 1) (ZZ (K':=K) G0 (hr.mono (by omega)) (zg (zC (K':=K) (st:=true) (sqF (za 0)) zf) (zg (za 2) zA))))) (zJ (ZQ (se_catA (K':=K) (st:=false) (se_catA (K':=K) (st:=true) (JR (K':=K) (st:=true) (sqF (za 2)) JP (JO (za 3))) (ZI (zg (za 4) zA))) (JR (K':=K) (st:=true) (sqF (za 2)) (JO (zE zZ zQ (za 3) zf)) JP)))))))⟩ :)
theorem g_ran (G4:A4 P w K mg base) (G16:A16 P w K mg base) (G13:A13 P w K mg base) (G15:A15 P w K mg base):A12 P w K mg base:=(jP P w base 165 ["program","moves","steps","places","stands","move"] ["program","moves"] bq12 T.F12 (by decide +kernel) fun nd=>fun _ _ _ _ _ _ _ hr=>⟨_,[4],by
  unfold bq12
  have P_laid:=Kn.told G4
  exact (zx (Zi (os:=[]) (os':=[]) (i:=2) nd rfl (Or.inl rfl) (zC (K':=K) (st:=true) (sqF (ZZ (K':=K) P_laid (hr.mono (by omega)) (zg (za 0) zA))) zf)) (zx (Zi (os:=[]) (os':=[]) (i:=3) nd rfl (Or.inl rfl) (ZZ (K':=K) G16 (hr.mono (by omega)) (zg (za 2) (zg (za 1) zA)))) (zx (yG (os':=[]) (Zd op_isN rok_isN (za 3) jz (zN _)) (zJ ss_never) ZN) (zx (ss_new (os:=[]) (os':=[4]) (i:=4) nd rfl (Or.inl rfl) (ye (zg (ZZ (K':=K) G13 (hr.mono (by omega)) (zg (za 0) zA)) zA))) (zx (Jj (os:=[4]) rfl (Ya (K':=K) (SE.sn (k:=true) (za 1))) ZW (zJ (wj (os:=[4]) (i:=4) (ZZ (K':=K) G15 (hr.mono (by omega)) (zg (zC (K':=K) (st:=true) (sqF (Z6 (K':=K) (st:=true) (sqT (za 2)) (zC (K':=K) (st:=true) (sqF (za 5)) zf))) zf) (zg (zC (K':=K) (st:=true) (sqF (za 5)) zf) (zg (Z6 (K':=K) (st:=true) (sc_own 4) (se_un YU jV zf)) zA))))))) (zJ (ZQ (SF.se (st:=false) (sf_listZip (K':=K) hr (by rfl) (by exact T.z_list) (by rfl) (by exact T.z_zip) (SC.sn (sqT (za 3))) (SC.sn (sc_own 4)))))))))))⟩ :)
theorem g'cell :A18 P w K mg base:=(jP P w base 35 ["_law_script","_law_k","_law_number"] ["_law_script","_law_k"] bq18 T.F18 (by decide +kernel) fun nd=>fun _ _ _ _ _ _ _ hr=>⟨_,[],by
  unfold bq18
  exact (zx (yG (os':=[]) (Zd op_lt rok_lt (za 1) (jA (K':=K) (st:=false) (by rfl) (by exact T.z_len) (sqT (za 0))) (zN _)) (zJ (ZQ (Z6 (K':=K) (st:=false) (sqT (za 0)) (za 1)))) ZN) (zx (Zi (os:=[]) (os':=[]) (i:=2) nd rfl (Or.inl rfl) (zE zZ zQ (zE yk yi (za 1) zf) zf)) (zx (yG (os':=[]) (Zd op_gt WU (jA (K':=K) (st:=false) (by rfl) (by exact T.z_len) (sqT (za 0))) zf (zN _)) (zJ (Zi (os:=[]) (os':=[]) (i:=2) nd rfl (Or.inl rfl) (zE ZY ZB (zE zZ zQ (zE yk yi (Z6 (K':=K) (st:=true) (sqT (za 0)) (zE ZY ZB (zE yk yi (za 1) zf) (jA (K':=K) (st:=true) (by rfl) (by exact T.z_len) (sqT (za 0))))) zf) (zE yk yi (za 1) zf)) zf))) ZN) (zx (Zi (os:=[]) (os':=[]) (i:=2) nd rfl (Or.inl rfl) (zE ZY ZB (zE yk yi (za 2) (za 2)) zf)) (zJ (ZQ (zE ZY ZB (zE yk yi (zE zZ zQ (za 2) zf) (zE zZ zQ (za 2) zf)) zf)))))))⟩ :)
theorem g'line :A19 P w K mg base:=(jP P w base 35 ["_law_cell_here","_law_many","_law_line_here","_law_k","_law_number","_law_one"] ["_law_cell_here","_law_many"] bq19 T.F19 (by decide +kernel) fun nd=>fun _ _ _ _ _ _ _ hr=>⟨_,[2],by
  unfold bq19
  exact (zx (ss_new (os:=[]) (os':=[2]) (i:=2) nd rfl (Or.inl rfl) (ye zA)) (zx (Jj (os:=[2]) rfl (wm (by rfl) (by exact T.z_range) (zE zZ zQ (za 1) zf)) ZW (zx (Zi (os:=[2]) (os':=[2]) (i:=4) nd rfl (Or.inl rfl) (zE ZY ZB (zE zZ zQ (zE yk yi (zE (op_fdivP (hr.mono (by decide))) rok_divP (za 0) (zE zZ zQ (zE yk yi (za 3) (za 3)) zf)) zf) (zE yk yi (za 3) zf)) zf)) (zx (Zi (os:=[2]) (os':=[2]) (i:=5) nd rfl (Or.inl rfl) (Z6 (K':=K) (st:=true) (SF.seq (ye (zg zf (zg zf (zg zf (zg (se_un YU jV zf) (zg zf (zg zf (zg zf (zg zf (zg (se_un YU jV zf) zA))))))))))) (zE ZY ZB (za 4) zf))) (zx (yG (os':=[2]) (Zd Z8 Zl (zE ZY ZB (zE yE yC (za 4) zf) zf) zf (zN _)) (zx (Zi (os:=[2]) (os':=[2]) (i:=5) nd rfl (Or.inl rfl) (zE Jq jb (zE ZY ZB (zE yE yC (za 4) zf) zf) zf)) (zJ (yG (os':=[2]) (Zd op_gt WU (za 3) zf (zN _)) (zJ (Zi (os:=[2]) (os':=[2]) (i:=5) nd rfl (Or.inl rfl) (zE Jq jb (zE ZY ZB (za 5) zf) zf))) ZN))) ZN) (zJ (wj (os:=[2]) (i:=2) (za 5))))))) (zJ (ZQ (WR (K':=K) (st:=false) (by rfl) (by exact T.z_tuple) (sc_own 2))))))⟩ :)
theorem g'deed (G19:A19 P w K mg base):A20 P w K mg base:=(fn_kF P w base 37 ["_law_cell_here","_law_many","_law_later_on","_law_kind","_law_box"] ["_law_cell_here","_law_many","_law_later_on"] bq20 T.F20 (by decide +kernel) fun nd=>fun _ _ _ _ _ _ _ hr=>⟨_,[],by
  unfold bq20
  exact (zx (Zi (os:=[]) (os':=[]) (i:=3) nd rfl (Or.inl rfl) (zE ZY ZB (zE yE yC (za 0) zf) zf)) (zx (yG (os':=[]) (SW.sb (wg (Zd op_gt WU (za 3) zf (zN _)) (jW (Zd (op_neD (K':=K) hr) rok_neD (za 2) (SF.se (st:=false) (ye zA)) (zN _))))) (zJ (jy (Z6 (K':=K) (st:=false) (SF.seq (Jb (Ya (K':=K) (SC.sn (sqT (za 2)))) (fun _ _ _ _=>ZW) (fun _ _ _ _=>Yj) (fun _ _ _ _=>(ZI (zg Za (zg (zC (K':=K) (st:=true) (sqF (za 5)) zf) zA)))))) (zE ZY ZB (zE yE yC (za 0) zf) (jA (K':=K) (st:=true) (by rfl) (by exact T.z_len) (sqT (za 2))))))) ZN) (zx (yG (os':=[]) (Zd Z8 Zl (za 3) zf (zN _)) (zJ (ss_retRow2 (os:=[]))) ZN) (zx (yG (os':=[]) (Zd Z8 Zl (za 3) zf (zN _)) (zJ (ss_retRow1 (os:=[]))) ZN) (zx (yG (os':=[]) (SW.sb (wg (Zd Z8 Zl (za 3) zf (zN _)) (jW (Zd Z8 Zl (zE ZY ZB (zE yE yC (za 0) zf) zf) zf (zN _))))) (zJ (jy (ZI (zg Za zA)))) ZN) (zx (yG (os':=[]) (SW.sb (sw_or (Zd Z8 Zl (za 3) zf (zN _)) (sw_or1 (Zd Z8 Zl (za 1) zf (zN _))))) (zJ (jy (ZI (zg Za zA)))) ZN) (zx (Zi (os:=[]) (os':=[]) (i:=4) nd rfl (Or.inl rfl) (zE ZY ZB (zE yE yC (za 0) zf) (za 1))) (zx (yG (os':=[]) (SW.sb (wg (Zd op_gt WU (za 3) zf (zN _)) (jW (Zd op_lt rok_lt (za 3) zf (zN _))))) (zJ (jy (ZI (zg Za (zg (za 4) zA))))) ZN) (zJ (jy (ZI (zg Za (zg (za 4) (zg (ZZ (K':=K) G19 (hr.mono (by omega)) (zg (zE yE yC (za 0) zf) (zg (za 1) zA))) zA))))))))))))))⟩ :)
theorem g'body (G20:A20 P w K mg base):A21 P w K mg base:=(jP P w base 39 ["_law_cells","_law_many","_law_later_on","_law_deep","_law_most","_law_body_here","_law_stack","_law_used","_law_cell_here","_law_row","_law_cost"] ["_law_cells","_law_many","_law_later_on","_law_deep","_law_most"] bq21 T.F21 (by decide +kernel) fun nd=>fun _ _ _ _ _ _ _ hr=>⟨_,[],by
  unfold bq21
  exact (sss_b15 (sr_kn G20 (hr.mono (by omega)) (zg (za 8) (zg (za 1) (zg (za 2) zA)))) (Jk (K':=K) (st:=true) rfl (by rfl) (by exact T.z_sum) (SF.seq (Jb (Ya (K':=K) (SC.sn (sqT (za 2)))) (fun _ _ _ _=>ZW) (fun _ _ _ _=>(spf_one (SW.sb (wg (Zd Z8 Zl (zC (K':=K) (st:=false) (sqF (za 9)) zf) Za (zN _)) (jW (Zd (op_eqD (K':=K) hr) rok_eqD (zC (K':=K) (st:=false) (sqF (za 11)) zf) (zC (K':=K) (st:=false) (sqF (za 9)) zf) (zN _))))))) (fun _ _ _ _=>(zC (K':=K) (st:=true) (sqF (za 11)) zf))))) (zE zZ zQ (za 10) (wo wJ gC (by rfl) (by exact T.z_int) PyProof.Rows.boot_int (zg (SE.flat (jB op_ne rok_neS (zC (K':=K) (st:=false) (sqF (za 9)) zf) Za (zN _))) zA))) (fun hR hK1 hK2=>(Zw (Yi (i:=5) nd rfl (Or.inl rfl) (jd Zj)) (Zw (Yi (i:=6) nd rfl (Or.inl rfl) (jd (zM (jd (zM (pv 5) Zj)) Zj))) (Zw (Yi (i:=7) nd rfl (Or.inl rfl) yj) (Zw (ps_for PassesOwn.never rfl (pi_list (pv 0)) (pg_name (i:=8) nd rfl (Or.inl rfl)) (Yb (ps_if (PW.pt (pw_and (YM Z8 (wV ZY (pv 8) yj) yj (zN _)) (pw_and1 (YM op_gt (jF jl (by rfl) (by exact T.z_len) PySem.boot_len (zM (pv 6) Zj)) yj (zN _))))) (Zw (YN (W0 KI PySem.F.slot_list_pop PySem.F.type_list_pop mt_popAt (wW j3 (pv 6) (pe_un YU yj) (fun _ _=>rfl)) (zM yj Zj))) (Yb (ps_if (YM (op_eqD (K':=K) hr) (wW j3 (pv 6) (pe_un YU yj) (fun _ _=>rfl)) (jd Zj) (zN _)) (Yb (YN (pe_bm0 KI PySem.F.slot_list_pop PySem.F.type_list_pop mt_pop (pv 6)))) JU))) (Zw (Yi (i:=9) nd rfl (Or.inr rfl) hR) (Zw (Yi (i:=10) nd rfl (Or.inl rfl) hK1) (Zw (Yi (i:=10) nd rfl (Or.inl rfl) hK2) (Yb (ps_if (YM op_le (wV zZ (pv 7) (pv 10)) (pv 4) (zN _)) (Zw (Yi (i:=7) nd rfl (Or.inl rfl) (wV zZ (pv 7) (pv 10))) (Zw (YN (W0 KI PySem.F.slot_list_append PySem.F.type_list_append Yw (wW j3 (wW j3 (pv 6) (pe_un YU yj) (fun _ _=>rfl)) yj (fun _ _=>rfl)) (zM (pv 9) Zj))) (Yb (ps_if (PW.pt (pw_and (YM op_in_seq (wW ix_tup (pv 9) yj (fun _ _=>rfl)) (wv (zM yw (zM yw Zj))) rfl) (pw_and1 (YM op_lt (jF jl (by rfl) (by exact T.z_len) PySem.boot_len (zM (pv 6) Zj)) (pv 3) (zN _))))) (Yb (YN (W0 KI PySem.F.slot_list_append PySem.F.type_list_append Yw (pv 6) (zM (SF.pe (os:=[]) (Jb (si_tup (K':=K) (SC.sn (sqF (JR (K':=K) (st:=true) (sqF (za 9)) (JO zf) JP)))) (fun _ _ _ _=>ZW) (fun _ _ _ _=>Yj) (fun _ _ _ _=>(za 11)))) Zj)))) JU)))) JU)))))))) (Yb (Jp (wv (zM (pv 5) (zM (pv 7) Zj)))))))))))⟩ :)
theorem g'program (G18:A18 P w K mg base) (G21:A21 P w K mg base):A22 P w K mg base:=(jP P w base 41 ["_law_script","_law_at","_law_many","_law_most","_law_bodies","_law_later_on","_law_count","_law_k","_law_size_here","_law_deep","_law_begin","_law_cells","_law_body_here","_law_used"] ["_law_script","_law_at","_law_many","_law_most"] bq22 T.F22 (by decide +kernel) fun nd=>fun _ _ _ _ _ _ _ hr=>⟨_,[],by
  unfold bq22
  exact (zx (Zi (os:=[]) (os':=[]) (i:=4) nd rfl (Or.inl rfl) (SF.se (st:=true) (ye zA))) (zx (Zi (os:=[]) (os':=[]) (i:=5) nd rfl (Or.inl rfl) (SF.se (st:=true) (ye zA))) (zx (Zi (os:=[]) (os':=[]) (i:=6) nd rfl (Or.inl rfl) (zE zZ zQ zf (zE ZY ZB (ZZ (K':=K) G18 (hr.mono (by omega)) (zg (za 0) (zg (za 1) zA))) zf))) (zx (Jj (os:=[]) rfl (si_rangeD (by rfl) (by exact T.z_range) (zE Jq jb (za 6) zf) (se_un YU jV zf)) ZW (zx (Zi (os:=[]) (os':=[]) (i:=8) nd rfl (Or.inl rfl) zf) (zx (Zi (os:=[]) (os':=[]) (i:=9) nd rfl (Or.inl rfl) zf) (zx (yG (os':=[]) (Zd Z8 Zl (za 7) zf (zN _)) (zx (Zi (os:=[]) (os':=[]) (i:=8) nd rfl (Or.inl rfl) (zE zZ zQ zf (zE ZY ZB (zE yE yC (ZZ (K':=K) G18 (hr.mono (by omega)) (zg (za 0) (zg (za 1) zA))) zf) zf))) (zJ (Zi (os:=[]) (os':=[]) (i:=9) nd rfl (Or.inl rfl) zf))) ZN) (zx (Zi (os:=[]) (os':=[]) (i:=10) nd rfl (Or.inr rfl) (zE zZ zQ (zE zZ zQ (zE zZ zQ (za 1) zf) (zE yk yi zf (wo wJ gC (by rfl) (by exact T.z_int) PyProof.Rows.boot_int (zg (SE.flat (jB op_gt WU (za 7) zf (zN _))) zA)))) (zE yk yi zf (za 7)))) (zx (ss_sT (os:=[]) (os':=[]) (i:=11) nd (wm (by rfl) (by exact T.z_range) (za 8)) (fun _ _ _ _=>ZW) (fun _ _ _ _=>Yj) (fun _ _ _ _=>(ZZ (K':=K) G18 (hr.mono (by omega)) (zg (za 0) (zg (zE zZ zQ (za 10) (za 14)) zA))))) (zx (ss_asg (os:=[]) (ZZ (K':=K) G21 (hr.mono (by omega)) (zg (za 11) (zg (za 2) (zg (za 5) (zg (za 9) (zg (za 3) zA)))))) (wn (K':=K) rfl (yn ZW (yn ZW jX)))) (zx (yG (os':=[]) (SW.sb (wg (Zd Z8 Zl (za 6) zf (zN _)) (jW (Zd Z8 Zl (zE ZY ZB (zE yE yC (ZZ (K':=K) G18 (hr.mono (by omega)) (zg (za 0) (zg (za 1) zA))) zf) zf) zf (zN _))))) (zJ (Zi (os:=[]) (os':=[]) (i:=12) nd rfl (Or.inl rfl) (SF.se (st:=true) (ye (zg (ZI (zg Za (zg (SF.se (st:=true) (ye zA)) (zg (SF.se (st:=true) (ye (zg (ZI (zg Za (zg (SF.se (st:=true) (ye (zg (ZI (zg Za (zg (za 12) (zg (SF.se (st:=true) (ye zA)) zA)))) zA))) zA))) zA))) zA)))) zA))))) ZN) (zx (Zi (os:=[]) (os':=[]) (i:=4) nd rfl (Or.inl rfl) (SF.se (st:=true) (sf_cat (SF.sl (ye (zg (za 12) zA))) (SE.sl (za 4))))) (zJ (Zi (os:=[]) (os':=[]) (i:=5) nd rfl (Or.inl rfl) (SF.se (st:=true) (sf_cat (SF.sl (ye (zg (ZI (zg (za 7) (zg (za 13) zA))) zA))) (SE.sl (za 5))))))))))))))) (zJ (ZQ (ZI (zg (za 2) (zg (za 4) zA)))))))))⟩ :)
theorem g'size  (n:Nat):Kn P w K mg base "_law_size" (36+2*n) ["_law_rows","_law_bodies"] (spM K (gK n)):=by
 induction n with
 | zero=>exact Kn.no T.F23
 | succ n ih =>
  have G23:=ih
  exact (jP P w base (36+2*n+1) ["_law_rows","_law_bodies","_law_places","_law_steps","_law_row","_law_more","_law_inner","_law_own"] ["_law_rows","_law_bodies"] (bq23 ((gK n))) T.F23 (by decide +kernel) fun nd=>fun _ _ _ _ _ _ _ hr=>⟨_,[],by
  unfold bq23
  exact (zx (Zi (os:=[]) (os':=[]) (i:=2) nd rfl (Or.inl rfl) zf) (zx (Zi (os:=[]) (os':=[]) (i:=3) nd rfl (Or.inl rfl) zf) (zx (Jj (os:=[]) rfl (Ya (K':=K) (SE.sn (k:=true) (za 0))) ZW (zx (yG (os':=[]) (Zd Z8 Zl (zC (K':=K) (st:=false) (sqF (za 4)) zf) Za (zN _)) (zJ (Zi (os:=[]) (os':=[]) (i:=5) nd rfl (Or.inl rfl) (ZZ (K':=K) G23 (hr.mono (by omega)) (zg (Z6 (K':=K) (st:=true) (sqT (za 1)) (zC (K':=K) (st:=true) (sqF (za 4)) zf)) (zg (za 1) zA))))) (zx (ss_sT (os:=[]) (os':=[]) (i:=6) nd (si_tup (K':=K) (SC.sn (sqF (JR (K':=K) (st:=true) (sqF (za 4)) (JO zf) JP)))) (fun _ _ _ _=>ZW) (fun _ _ _ _=>(spf_one (Zd (op_inK (K':=K)) rok_inT (zC (K':=K) (st:=false) (sqF (za 4)) zf) (ZI (zg Za (zg Za zA))) rfl))) (fun _ _ _ _=>(ZZ (K':=K) G23 (hr.mono (by omega)) (zg (za 8) (zg (za 1) zA))))) (zx (Zi (os:=[]) (os':=[]) (i:=7) nd rfl (Or.inl rfl) (se_getC (st:=true) (KO:=[("either",2),("loop",2),("halt",0)]) (Yc yw yj (Yc yw yj (Yc yw yj pps_nil))) (zC (K':=K) (st:=true) (sqF (za 4)) zf))) (zJ (Zi (os:=[]) (os':=[]) (i:=5) nd rfl (Or.inl rfl) (ZI (zg (zE zZ zQ zf (Jk (K':=K) (st:=true) rfl (by rfl) (by exact T.z_sum) (SF.seq (Jb (Ya (K':=K) (SC.sn (sqT (za 6)))) (fun _ _ _ _=>ZW) (fun _ _ _ _=>Yj) (fun _ _ _ _=>(zC (K':=K) (st:=true) (sqF (za 8)) zf)))))) (zg (zE zZ zQ (za 7) (Jk (K':=K) (st:=true) rfl (by rfl) (by exact T.z_sum) (SF.seq (Jb (Ya (K':=K) (SC.sn (sqT (za 6)))) (fun _ _ _ _=>ZW) (fun _ _ _ _=>Yj) (fun _ _ _ _=>(zC (K':=K) (st:=true) (sqF (za 8)) zf)))))) zA)))))))) (zx (Zi (os:=[]) (os':=[]) (i:=2) nd rfl (Or.inl rfl) (zE zZ zQ (za 2) (zC (K':=K) (st:=true) (sqF (za 5)) zf))) (zJ (Zi (os:=[]) (os':=[]) (i:=3) nd rfl (Or.inl rfl) (zE zZ zQ (za 3) (zC (K':=K) (st:=true) (sqF (za 5)) zf))))))) (zJ (ZQ (ZI (zg (za 2) (zg (za 3) zA))))))))⟩ :)
theorem g'goes :A24 P w K mg base:=(jO P w base 35 ["_law_state","_law_step","_law_number","_law_place"] ["_law_state","_law_step","_law_number","_law_place"] 0 kS bq24 T.F24 (by decide +kernel) fun nd=>fun _ _ _ _ _ _ _ hr=>⟨_,[],by
  unfold bq24
  exact (zK (wst_appK ws_appM hr (ZI (zg (za 1) (zg (za 2) zA)))) (zK (Wz hr (za 3) (.inl ⟨ rfl,rfl ⟩)) (zU (wst_appK ws_appR hr (ZI (zg (za 3) (zg (WR (K':=K) (st:=true) (by rfl) (by exact T.z_tuple) (sqT (Z0 (st:=true) hr (za 0) Za))) zA)))))))⟩ :)
theorem g'next (G18:A18 P w K mg base):A25 P w K mg base:=(jO P w base 37 ["_law_script","_law_state"] ["_law_script","_law_state"] 1 kS bq25 T.F25 (by decide +kernel) fun nd=>fun _ _ _ _ _ _ _ hr=>⟨_,[],by
  unfold bq25
  exact (zK (Wz hr (zE zZ zQ (Z0 (st:=true) hr (za 1) Za) zf) (.inr (.inr ⟨ rfl,rfl ⟩))) (zU (yX (we_rd (st:=false) (zE (op_fdivP (hr.mono (by decide))) rok_divP (ZZ (K':=K) G18 (hr.mono (by omega)) (zg (za 0) (zg (zE zZ zQ zf (zE ZY ZB (Z0 (st:=true) hr (za 1) Za) zf)) zA))) (zE zZ zQ zf (zE yE yC (Z0 (st:=true) hr (za 1) Za) zf)))))))⟩ :)
theorem g'plain (G25:A25 P w K mg base) (G24:A24 P w K mg base):A26 P w K mg base:=(jO P w base 39 ["_law_script","_law_state","_law_row","_law_place","_law_step","_law_number","_law_cell_here"] ["_law_script","_law_state","_law_row","_law_place","_law_step"] 1 kS bq26 T.F26 (by decide +kernel) fun nd=>fun _ _ _ _ _ _ _ hr=>⟨_,[],by
  unfold bq26
  exact (zK (Z7 (j:=5) nd rfl (Or.inl rfl) (SE.we jz)) (zK (yI (SB.wb (Zd Z8 Zl (zC (K':=K) (st:=false) (sqF (za 2)) zf) Za (zN _))) (zK (Z7 (j:=6) nd rfl (Or.inl rfl) (yq (K':=K) G25 (hr.mono (by omega)) (ge Yv) (zm (SE.we (za 0)) (zm (SE.we (za 1)) Zz)))) (zK (Z7 (j:=5) nd rfl (Or.inl rfl) (SE.we (Z6 (K':=K) (st:=true) (SF.seq (ye (zg zf (zg zf (zg (zE Jq jb (zE ZY ZB (zE yE yC (za 6) zf) zf) zf) (zg (zE Jq jb (zE ZY ZB (zE yE yC (za 6) zf) zf) zf) zA)))))) (zE ZY ZB (zE yE yC (za 6) zf) zf)))) (zU (wst_stand hr (za 5) (zE zZ zQ (zC (K':=K) (st:=false) (sqF (za 2)) zf) zf))))) yY) (zK (yI (SB.wb (Zd Z8 Zl (zC (K':=K) (st:=false) (sqF (za 2)) zf) Za (zN _))) (zU (wst_stand hr (Jk (K':=K) (st:=true) rfl (by rfl) (by exact T.z_sum) (SF.seq (Jb (si_zip (K':=K) (by rfl) (by exact T.z_zip) (SC.sn (sqF (zC (K':=K) (st:=true) (sqF (za 2)) zf))) (SC.sn (sqT (Z0 (st:=true) hr (za 1) Za)))) (fun _ _ _ _=>(wn (K':=K) rfl (yn ZW (yn ZW jX)))) (fun _ _ _ _=>Yj) (fun _ _ _ _=>(zE yk yi (za 7) (za 8)))))) (zE zZ zQ (zC (K':=K) (st:=false) (sqF (za 2)) zf) zf))) yY) (zU (ZO (yq (K':=K) G24 (hr.mono (by omega)) Yv (zm (SE.we (za 1)) (zm (SE.we (za 4)) (zm (SE.we (za 5)) (zm (SE.we (za 3)) Zz))))))))))⟩ :)
theorem g'either (G23:A23 P w K mg base) (G25:A25 P w K mg base) (G24:A24 P w K mg base) (G26:A26 P w K mg base) (n:Nat):Kn P w K mg base "_law_either" (78+2*n) ["_law_script","_law_state","_law_row","_law_bodies","_law_begin"] (spW K kS 1 (Zy n).1)/\Kn P w K mg base "_law_loop" (78+2*n) ["_law_script","_law_state","_law_row","_law_bodies","_law_begin"] (spW K kS 1 (Zy n).2.1)/\Kn P w K mg base "_law_walk" (78+2*n) ["_law_script","_law_state","_law_rows","_law_bodies","_law_begin"] (spW K kS 1 (Zy n).2.2):=by
 induction n with
 | zero=>exact ⟨Kn.noW T.F27,Kn.noW T.F28,Kn.noW T.F29⟩
 | succ n ih =>
  obtain ⟨G27,G28,G29⟩:=ih
  exact ⟨(jO P w base (78+2*n+1) ["_law_script","_law_state","_law_row","_law_bodies","_law_begin","_law_place","_law_step","_law_sizes","_law_side"] ["_law_script","_law_state","_law_row","_law_bodies","_law_begin"] 1 kS (bq27 ((Zy n).1) ((Zy n).2.1) ((Zy n).2.2)) T.F27 (by decide +kernel) fun nd=>fun _ _ _ _ _ _ _ hr=>⟨_,[],by
  unfold bq27
  exact (zK (SS.ws (ss_asg (os:=[]) (za 4) (wn (K':=K) rfl (yn ZW (yn ZW jX)))) (kp_asg kg_un2)) (zK (SS.ws (ss_sT (os:=[]) (os':=[]) (i:=7) nd (si_tup (K':=K) (SC.sn (sqF (JR (K':=K) (st:=true) (sqF (za 2)) (JO zf) JP)))) (fun _ _ _ _=>ZW) (fun _ _ _ _=>Yj) (fun _ _ _ _=>(ZZ (K':=K) G23 (hr.mono (by omega)) (zg (za 9) (zg (za 3) zA))))) kp_set) (zK (Z7 (j:=8) nd rfl (Or.inl rfl) (we_op (st:=true) ZY ZB (yq (K':=K) G25 (hr.mono (by omega)) (ge Yv) (zm (SE.we (za 0)) (zm (SE.we (za 1)) Zz))) (SE.we zf))) (zK (yI (SB.wb (Zd Z8 Zl (za 8) zf (zN _))) (zU (ZO (yq (K':=K) G29 (hr.mono (by omega)) (ge Yv) (zm (SE.we (za 0)) (zm (SE.we (za 1)) (zm (SE.we (zC (K':=K) (st:=true) (sqF (za 2)) zf)) (zm (SE.we (za 3)) (zm (SE.we (za 4)) Zz)))))))) (zU (ZO (yq (K':=K) G29 (hr.mono (by omega)) (ge Yv) (zm (SE.we (za 0)) (zm (SE.we (za 1)) (zm (SE.we (zC (K':=K) (st:=true) (sqF (za 2)) zf)) (zm (SE.we (za 3)) (zm (SE.we (ZI (zg (zE zZ zQ (za 5) (zC (K':=K) (st:=true) (sqF (Z6 (K':=K) (st:=true) (sqT (za 7)) zf)) zf)) (zg (zE zZ zQ (za 6) (zC (K':=K) (st:=true) (sqF (Z6 (K':=K) (st:=true) (sqT (za 7)) zf)) zf)) zA)))) Zz))))))))) (zU (yI (wb_rd (Jl (jC (Z0 (st:=false) hr (za 1) Za)))) (zU (ZO (yq (K':=K) G24 (hr.mono (by omega)) Yv (zm (SE.we (za 1)) (zm (SE.we (zE zZ zQ (zE zZ zQ (zE zZ zQ (za 6) (zC (K':=K) (st:=true) (sqF (Z6 (K':=K) (st:=true) (sqT (za 7)) zf)) zf)) (zC (K':=K) (st:=true) (sqF (Z6 (K':=K) (st:=true) (sqT (za 7)) zf)) zf)) (za 8))) (zm (SE.we jz) (zm (SE.we (zE zZ zQ (zE zZ zQ (za 5) (zC (K':=K) (st:=true) (sqF (Z6 (K':=K) (st:=true) (sqT (za 7)) zf)) zf)) (zC (K':=K) (st:=true) (sqF (Z6 (K':=K) (st:=true) (sqT (za 7)) zf)) zf))) Zz))))))) yY))))))⟩ :),(jO P w base (78+2*n+1) ["_law_script","_law_state","_law_row","_law_bodies","_law_begin","_law_place","_law_step","_law_size_here","_law_k"] ["_law_script","_law_state","_law_row","_law_bodies","_law_begin"] 1 kS (bq28 ((Zy n).1) ((Zy n).2.1) ((Zy n).2.2)) T.F28 (by decide +kernel) fun nd=>fun _ _ _ _ _ _ _ hr=>⟨_,[],by
  unfold bq28
  exact (zK (SS.ws (ss_asg (os:=[]) (za 4) (wn (K':=K) rfl (yn ZW (yn ZW jX)))) (kp_asg kg_un2)) (zK (ZO (yq (K':=K) G24 (hr.mono (by omega)) Yv (zm (SE.we (za 1)) (zm (SE.we (za 6)) (zm (SE.we jz) (zm (SE.we (za 5)) Zz)))))) (zK (Z7 (j:=7) nd rfl (Or.inl rfl) (SE.we (ZZ (K':=K) G23 (hr.mono (by omega)) (zg (zC (K':=K) (st:=true) (sqF (za 2)) zf) (zg (za 3) zA))))) (zU (wst_forR rfl (by rfl) (by exact T.z_range) (we_op (st:=true) yk yi (we_op (st:=true) ZY ZB (yq (K':=K) G25 (hr.mono (by omega)) (ge Yv) (zm (SE.we (za 0)) (zm (SE.we (za 1)) Zz))) (SE.we zf)) (we_rd (st:=true) (wo wJ gC (by rfl) (by exact T.z_int) PyProof.Rows.boot_int (zg (SE.flat (jB op_lt rok_lt (jA (K':=K) (st:=false) (by rfl) (by exact T.z_len) (sqT (Z0 (st:=true) hr (za 1) Za))) zf (zN _))) zA)))) ZW kg_name (zK (yI (wb_rd (Jl (jC (Z0 (st:=false) hr (za 1) Za)))) (zU (ZO (yq (K':=K) G29 (hr.mono (by omega)) (ge Yv) (zm (SE.we (za 0)) (zm (SE.we (za 1)) (zm (SE.we (zC (K':=K) (st:=true) (sqF (za 2)) zf)) (zm (SE.we (za 3)) (zm (SE.we (ZI (zg (zE zZ zQ (za 5) zf) (zg (zE zZ zQ (za 6) zf) zA)))) Zz)))))))) yY) (zU (yI (wb_rd (Jl (jC (Z0 (st:=false) hr (za 1) Za)))) (zU (ZO (yq (K':=K) G24 (hr.mono (by omega)) Yv (zm (SE.we (za 1)) (zm (SE.we (zE zZ zQ (zE zZ zQ (za 6) zf) (zC (K':=K) (st:=true) (sqF (za 7)) zf))) (zm (SE.we jz) (zm (SE.we (za 5)) Zz))))))) yY))))))))⟩ :),(jO P w base (78+2*n+1) ["_law_script","_law_state","_law_rows","_law_bodies","_law_begin","_law_place","_law_step","_law_row","_law_more"] ["_law_script","_law_state","_law_rows","_law_bodies","_law_begin"] 1 kS (bq29 ((Zy n).1) ((Zy n).2.1) ((Zy n).2.2)) T.F29 (by decide +kernel) fun nd=>fun _ _ _ _ _ _ _ hr=>⟨_,[],by
  unfold bq29
  exact (zK (SS.ws (ss_asg (os:=[]) (za 4) (wn (K':=K) rfl (yn ZW (yn ZW jX)))) (kp_asg kg_un2)) (zU (wst_for rfl (Ya (K':=K) (SE.sn (k:=true) (za 2))) ZW kg_name (zK (yI (wb_rd (Jl (jC (Z0 (st:=false) hr (za 1) Za)))) (zU (yI (SB.wb (Zd Z8 Zl (zC (K':=K) (st:=false) (sqF (za 7)) zf) Za (zN _))) (zU (Wz hr wQ (.inr (.inl ⟨ rfl,rfl ⟩)))) (zU (yI (SB.wb (Zd Z8 Zl (zC (K':=K) (st:=false) (sqF (za 7)) zf) Za (zN _))) (zU (ZO (yq (K':=K) G29 (hr.mono (by omega)) (ge Yv) (zm (SE.we (za 0)) (zm (SE.we (za 1)) (zm (SE.we (Z6 (K':=K) (st:=true) (sqT (za 3)) (zC (K':=K) (st:=true) (sqF (za 7)) zf))) (zm (SE.we (za 3)) (zm (SE.we (ZI (zg (za 5) (zg (za 6) zA)))) Zz)))))))) (zU (yI (SB.wb (Zd Z8 Zl (zC (K':=K) (st:=false) (sqF (za 7)) zf) Za (zN _))) (zU (ZO (yq (K':=K) G27 (hr.mono (by omega)) (ge Yv) (zm (SE.we (za 0)) (zm (SE.we (za 1)) (zm (SE.we (za 7)) (zm (SE.we (za 3)) (zm (SE.we (ZI (zg (za 5) (zg (za 6) zA)))) Zz)))))))) (zU (yI (SB.wb (Zd Z8 Zl (zC (K':=K) (st:=false) (sqF (za 7)) zf) Za (zN _))) (zU (ZO (yq (K':=K) G28 (hr.mono (by omega)) (ge Yv) (zm (SE.we (za 0)) (zm (SE.we (za 1)) (zm (SE.we (za 7)) (zm (SE.we (za 3)) (zm (SE.we (ZI (zg (za 5) (zg (za 6) zA)))) Zz)))))))) (zU (ZO (yq (K':=K) G26 (hr.mono (by omega)) (ge Yv) (zm (SE.we (za 0)) (zm (SE.we (za 1)) (zm (SE.we (za 7)) (zm (SE.we (za 5)) (zm (SE.we (za 6)) Zz)))))))))))))))) yY) (zK (Z7 (j:=8) nd rfl (Or.inl rfl) (SE.we (ZZ (K':=K) G23 (hr.mono (by omega)) (zg (SF.se (st:=true) (ye (zg (za 7) zA))) (zg (za 3) zA))))) (zK (Z7 (j:=5) nd rfl (Or.inl rfl) (SE.we (zE zZ zQ (za 5) (zC (K':=K) (st:=true) (sqF (za 8)) zf)))) (zU (Z7 (j:=6) nd rfl (Or.inl rfl) (SE.we (zE zZ zQ (za 6) (zC (K':=K) (st:=true) (sqF (za 8)) zf)))))))))))⟩ :)⟩
theorem g_law (G18:A18 P w K mg base) (G22:A22 P w K mg base) (G4:A4 P w K mg base) (G23:A23 P w K mg base) (G29:A29 P w K mg base) (G11:A11 P w K mg base) (G12:A12 P w K mg base) {f:Kc} {fd:Kh} (F:Fun K "law" "law" (top 40) f fd):FnOk P w K mg base CX0 168 f fd ["_law_script"] (spM K mq30):=(fn_kX P w base 167 ["_law_script","_law_many","_law_program_here","_law_told","_law_size_here","_law_k","_law_stand","_law_state"] ["_law_script"] bq30 F (by decide +kernel) fun nd=>fun _ _ _ _ _ _ _ hr=>⟨_,[],by
  unfold bq30
  have P_laid:=Kn.told G4
  exact (zx (Zi (os:=[]) (os':=[]) (i:=1) nd rfl (Or.inl rfl) (zE ZY ZB (ZZ (K':=K) G18 (hr.mono (by omega)) (zg (za 0) (zg zf zA))) zf)) (zx (Zi (os:=[]) (os':=[]) (i:=2) nd rfl (Or.inl rfl) (ZZ (K':=K) G22 (hr.mono (by omega)) (zg (za 0) (zg zf (zg (za 1) (zg zf zA)))))) (zx (Zi (os:=[]) (os':=[]) (i:=3) nd rfl (Or.inl rfl) (ZZ (K':=K) P_laid (hr.mono (by omega)) (zg (za 2) zA))) (zx (Zi (os:=[]) (os':=[]) (i:=4) nd rfl (Or.inl rfl) (ZZ (K':=K) G23 (hr.mono (by omega)) (zg (Z6 (K':=K) (st:=true) (sqT (zC (K':=K) (st:=true) (sqF (za 2)) zf)) zf) (zg (zC (K':=K) (st:=true) (sqF (za 2)) zf) zA)))) (zx (yG (os':=[]) (Zd (op_neD (K':=K) hr) rok_neD (ZI (zg (zC (K':=K) (st:=false) (sqF (za 3)) zf) (zg (jA (K':=K) (st:=false) (by rfl) (by exact T.z_len) (sqT (zC (K':=K) (st:=true) (sqF (za 3)) zf))) zA))) (ZI (zg (zE zZ zQ zf (zC (K':=K) (st:=false) (sqF (za 4)) zf)) (zg (zC (K':=K) (st:=false) (sqF (za 4)) zf) zA))) (zN _)) (zJ (ZQ wQ)) ZN) (zx (Jj (os:=[]) rfl (wm (by rfl) (by exact T.z_range) zf) ZW (sss_state (j1:=6) (j2:=7) nd rfl (Or.inl rfl) rfl (Or.inl rfl) (sf_cat (SF.sl (ye (zg zf zA))) (SF.sl (sf_rep (ye (zg zf zA)) (za 1)))) (ye zA) (ye (zg (ZI (zg zf (zg (WR (K':=K) (st:=true) (by rfl) (by exact T.z_tuple) (sqT (za 6))) zA))) zA)) (zE yk yi zf (za 5)) (ZO (yq (K':=K) G29 (hr.mono (by omega)) (ge Yv) (zm (SE.we (za 0)) (zm (SE.we (za 7)) (zm (SE.we (Z6 (K':=K) (st:=true) (sqT (zC (K':=K) (st:=true) (sqF (za 2)) zf)) zf)) (zm (SE.we (zC (K':=K) (st:=true) (sqF (za 2)) zf)) (zm (SE.we (ZI (zg zf (zg zf zA)))) Zz))))))) (zx (yG (os':=[]) (Zd op_notB rok_notB (ZZ (K':=K) G11 (hr.mono (by omega)) (zg (za 2) (zg (SF.se (st:=false) (sf_list (K':=K) (by rfl) (by exact T.z_list) (sqT (Z0 (st:=true) hr (za 7) Za)))) zA))) wQ (zN _)) (zJ (ZQ wQ)) ZN) (zx (yG (os':=[]) (Zd (op_neD (K':=K) hr) rok_neD (ZZ (K':=K) G12 (hr.mono (by omega)) (zg (za 2) (zg (SF.se (st:=false) (sf_list (K':=K) (by rfl) (by exact T.z_list) (sqT (Z0 (st:=true) hr (za 7) Za)))) zA))) (Z0 (st:=false) hr (za 7) Za) (zN _)) (zJ (ZQ wQ)) ZN) (zJ (yG (os':=[]) (SW.sb (wg (Jl (jC (Z0 (st:=false) hr (za 7) Za))) (jW (Zd op_ne rok_neS (Z0 (st:=false) hr (za 7) Za) (zC (K':=K) (st:=false) (sqF (za 3)) zf) (zN _))))) (zJ (ZQ wQ)) ZN)))))) (zJ (ZQ wQ))))))))⟩ :)
theorem all_ok {f:Kc} {fd:Kh} (F:Fun K "law" "law" (top 40) f fd):FnOk P w K mg base CX0 168 f fd ["_law_script"] (spM K mq30):=by
 have G0:=g_worth (P:=P) (w:=w) (base:=base) T
 have G1:=g_lists_in (P:=P) (w:=w) (base:=base) T
 obtain ⟨G2,G3⟩:=g_new_places (P:=P) (w:=w) (base:=base) T G1 60
 have G5:=Jv (P:=P) (w:=w) (base:=base) T G2
 have G31:=g___init__ (P:=P) (w:=w) (base:=base) T G5
 have G32:=g_new_place (P:=P) (w:=w) (base:=base) T
 have G33:=g_add_step (P:=P) (w:=w) (base:=base) T
 obtain ⟨G6,G7,G8,G9,G10⟩:=g_lay_rows (P:=P) (w:=w) (base:=base) T G32 G33 60
 have G4:=g_laid (P:=P) (w:=w) (base:=base) T G31 G6
 have G14:=g_takes (P:=P) (w:=w) (base:=base) T
 have G17:=g_goes_on (P:=P) (w:=w) (base:=base) T G14
 have G16:=gh (P:=P) (w:=w) (base:=base) T G17
 have G11:=g_is_run (P:=P) (w:=w) (base:=base) T G16 G4
 have G13:=g_first_stand (P:=P) (w:=w) (base:=base) T
 have G15:=gg (P:=P) (w:=w) (base:=base) T G14 G0
 have G12:=g_ran (P:=P) (w:=w) (base:=base) T G4 G16 G13 G15
 have G18:=g'cell (P:=P) (w:=w) (base:=base) T
 have G19:=g'line (P:=P) (w:=w) (base:=base) T
 have G20:=g'deed (P:=P) (w:=w) (base:=base) T G19
 have G21:=g'body (P:=P) (w:=w) (base:=base) T G20
 have G22:=g'program (P:=P) (w:=w) (base:=base) T G18 G21
 have G23:=g'size (P:=P) (w:=w) (base:=base) T  20
 have G24:=g'goes (P:=P) (w:=w) (base:=base) T
 have G25:=g'next (P:=P) (w:=w) (base:=base) T G18
 have G26:=g'plain (P:=P) (w:=w) (base:=base) T G25 G24
 obtain ⟨G27,G28,G29⟩:=g'either (P:=P) (w:=w) (base:=base) T G23 G25 G24 G26 40
 exact g_law T G18 G22 G4 G23 G29 G11 G12 F
end
end EV
namespace M
open PySem PySem.Spec L2
section
variable {ρ ρ1 ρ2:Ev} {S S1 S2:List D} {d d1 d2:D} {F F':WF} {G:WL} {M1 M2:WM} {f:Ev->Option D}
theorem Zb {r:Option (Out×List D)} (h1:M1 ρ S=some (.nx ρ1,S1)) (h2:M2 ρ1 S1=r):ZV M1 M2 ρ S=r:=by unfold ZV;rw [h1];exact h2
theorem Wm (h1:M1 ρ S=some (.rt d,S1)):ZV M1 M2 ρ S=some (.rt d,S1):=by unfold ZV;rw [h1];rfl
theorem yU {c:Ev->List D->Option (Bool×List D)} {r:Option (Out×List D)} (h1:c ρ S=some (true,S1)) (h2:M1 ρ S1=r):wIf c M1 M2 ρ S=r:=by unfold wIf;rw [h1];exact h2
theorem yc {c:Ev->List D->Option (Bool×List D)} {r:Option (Out×List D)} (h1:c ρ S=some (false,S1)) (h2:M2 ρ S1=r):wIf c M1 M2 ρ S=r:=by unfold wIf;rw [h1];exact h2
theorem wl_ {α:Type} {g:Ev->Option α} {x:α} (h:g ρ=some x):wL g ρ S=some (x,S):=by unfold wL;rw [h];rfl
theorem yF {j:Nat} (h:F ρ S=some (d,S1)):Yr j F ρ S=some (.nx (ρ.set j (some d)),S1):=by unfold Yr;rw [h];rfl
theorem jo (h:F ρ S=some (d,S1)):Ji F ρ S=some (.rt d,S1):=by unfold Ji;rw [h];rfl
theorem yh (h:F ρ S=some (d,S1)):ZD F ρ S=some (.nx ρ,S1):=by unfold ZD;rw [h];rfl
theorem ZP {i0:Nat} {m:List D->List D->Option (D×List D)} {ds:List D} {r:Option (D×List D)} (h:G ρ S=some (ds,S1)) (h2:m ds S1=r):Zk i0 m G ρ S=r:=by unfold Zk;rw [h];exact h2
theorem jt {i:Nat} {m:List D->List D->Option (D×List D)} {ds:List D} {r:Option (D×List D)} (h0:ρ[i]?.join=some d) (h:G ρ S=some (ds,S1)) (h2:m (d::ds) S1=r):Yx i m G ρ S=r:=by unfold Yx;rw [h0];simp only [oB];rw [h];exact h2
theorem zu {ds:List D} (h:F ρ S=some (d,S1)) (h2:G ρ S1=some (ds,S2)):zh F G ρ S=some (d::ds,S2):=by unfold zh;rw [h];simp only [oB];rw [h2];rfl
theorem ZT:wL zt ρ S=some ([],S):=rfl
theorem w2_ {g:D->D->Option D} (h:F ρ S=some (d1,S1)) (h2:F' ρ S1=some (d2,S2)) (h3:g d1 d2=some d):w2 g F F' ρ S=some (d,S2):=by
 unfold w2;rw [h];simp only [oB];rw [h2];simp only [oB];rw [h3];rfl
theorem wtest_ {b:Bool} (h:F ρ S=some (.bl b,S1)):wTest F ρ S=some (b,S1):=by unfold wTest;rw [h];rfl
theorem wixl_ {ds:List D} {k:Int} (h:F ρ S=some (.lst ds,S1)) (h2:f ρ=some (.int k)) (h3:atI ds k=some d):wIxL F f ρ S=some (d,S1):=by
 unfold wIxL;rw [h];simp only [oB,asL];rw [h2];simp only [oB,asI];rw [h3];rfl
theorem wdget_ (h:F ρ S=some (d1,S1)) (h2:f ρ=some d2) (h3:gv d1 d2=some d):wDGet F f ρ S=some (d,S1):=by
 unfold wDGet;rw [h];simp only [oB];rw [h2];simp only [oB];rw [h3];rfl
theorem WC {k n:Nat} {M:WM} {ds:List D} (hl:ds.length=k) (h:M (Zh n ds) S=some (.rt d,S1)):yW k n M ds S=some (d,S1):=by unfold yW;rw [KQ hl,h];rfl
theorem YG {k n:Nat} {M:WM} {ds:List D} (hl:ds.length=k) (h:M (Zh n ds) S=some (.nx ρ1,S1)):yW k n M ds S=some (.non,S1):=by unfold yW;rw [KQ hl,h];rfl
theorem wfor_ {fi:Ev->Option (List D)} {u:D->Ev->Option Ev} {ds:List D} {r:Option (Out×List D)} (h:fi ρ=some ds) (h2:Jw u M1 ds ρ S=r):wFor fi u M1 ρ S=r:=by unfold wFor;rw [h];exact h2
theorem forW_ {α β:Type} (f:α->D) (step:β->α->β) (I:List α->β->Ev->List D->Prop) {u:D->Ev->Option Ev} :
  ∀ (rs:List α),(∀ r Zc b ρ S,r::Zc <:+ rs->I (r::Zc) b ρ S->∃ ρ1 ρ2 S2,u (f r) ρ=some ρ1/\M1 ρ1 S=some (.nx ρ2,S2)/\I Zc (step b r) ρ2 S2)->∀ b ρ S,I rs b ρ S->∃ ρ' S',Jw u M1 (rs.map f) ρ S=some (.nx ρ',S')/\I [] (rs.foldl step b) ρ' S'
 | [],h,b,ρ,S,hI=>⟨ρ,S,rfl,hI⟩
 | r::rs,h,b,ρ,S,hI=>by
  obtain ⟨ρ1,ρ2,S2,h1,h2,h3⟩:=h r rs b ρ S (List.suffix_refl _) hI
  obtain ⟨ρ',S',h4,h5⟩:=forW_ f step I rs (fun x Zc b ρ S hs hI=>h x Zc b ρ S (hs.trans (List.suffix_cons _ _)) hI) _ _ _ h3
  refine ⟨ρ',S',?_,h5⟩
  rw [Qq,Jw,h1]
  simp only [oB]
  rw [h2]
  exact h4
theorem wfor_fold {α β:Type} (f:α->D) (step:β->α->β) (I:List α->β->Ev->List D->Prop) {fi:Ev->Option (List D)} {u:D->Ev->Option Ev} {r:Option (Out×List D)} (rs:List α) (b:β) (h:fi ρ=some (rs.map f)) (h0:I rs b ρ S)
  (hs:∀ x Zc b ρ S,x::Zc <:+ rs->I (x::Zc) b ρ S->∃ ρ1 ρ2 S2,u (f x) ρ=some ρ1/\M1 ρ1 S=some (.nx ρ2,S2)/\I Zc (step b x) ρ2 S2) (hf:∀ ρ' S',I [] (rs.foldl step b) ρ' S'->M2 ρ' S'=r):ZV (wFor fi u M1) M2 ρ S=r:=by
 obtain ⟨ρ',S',h1,h2⟩:=forW_ f step I rs hs b ρ S h0
 exact Zb (wfor_ h h1) (hf ρ' S' h2)
end
end M
namespace RW
open PySem PySem.Spec L2 M
def names:List Kw:=["set","take","skip","halt","either","loop","call"]
def Sc:D->Bool
 | .non=>true
 | .bl _=>true
 | .int i=>decide (i.natAbs<=10 ^ 50)
 | .str x=>names.contains x
 | _=>false
def Fi:Nat->D->Prop
 | 0,d=>Sc d=true
 | n+1,d=>Sc d=true\/∃ ds,(d=.tup ds\/d=.lst ds)/\∀ r∈ds,Fi n r
theorem Fi.sc {d:D} (h:Sc d=true):∀ n,Fi n d
 | 0=>h
 | n+1=>.inl h
theorem Fi.up:∀ {n:Nat} {d:D},Fi n d->Fi (n+1) d
 | 0,d,h=>.inl h
 | n+1,d,h=>by
  rcases h with h | ⟨ds,e,h⟩
  ·exact .inl h
  ·exact .inr ⟨ds,e,fun r hr=>(h r hr).up⟩
theorem Fi.mono {n m:Nat} {d:D} (h:Fi n d) (hm:n<=m):Fi m d:=by
  induction m with
  | zero => have e : n = 0 := by omega
            subst e;exact h
  | succ m ih =>
    by_cases e:n=m+1
    . subst e;exact h
    . exact (ih (by omega)).up
theorem Fi.int {i:Int} (h:i.natAbs<=10 ^ 50) (n:Nat):Fi n (.int i):=Fi.sc (d:=.int i) (KS h) n
theorem Fi.str {x:Kw} (h:names.contains x=true) (n:Nat):Fi n (.str x):=Fi.sc (d:=.str x) h n
theorem names_ok:names.all PyData.strOk=true:=by decide +kernel
theorem sc_lay {d:D} (h:Sc d=true):(ya d).canLay0=true/\(ya d).depth=0:=by
 cases d with
 | str x =>
  refine ⟨?_,by simp only [ya];rw [PyData.depth]⟩
  simp only [ya]
  rw [PyData.canLay0]
  exact List.all_eq_true.mp names_ok x (by simpa [Sc] using h)
 | non=>exact ⟨by simp only [ya];rw [PyData.canLay0],by simp only [ya];rw [PyData.depth]⟩
 | bl b=>exact ⟨by simp only [ya];rw [PyData.canLay0],by simp only [ya];rw [PyData.depth]⟩
 | int i=>exact ⟨by simp only [ya];rw [PyData.canLay0],by simp only [ya];rw [PyData.depth]⟩
 | _=>cases h
theorem YQ:∀ {ds:List D} {k:Nat},(∀ r∈ds,(ya r).canLay0=true/\(ya r).depth<=k)->PyData.canLayAll0 (yv ds)=true/\PyData.depthAll (yv ds)<=k
 | [],k,_=>⟨by rw [yv,PyData.canLayAll0],by rw [yv,PyData.depthAll];omega⟩
 | d::ds,k,h=>by
  obtain ⟨h1,h2⟩:=h d Qt
  obtain ⟨h3,h4⟩:=YQ fun r hr=>h r (Qe _ hr)
  rw [yv,PyData.canLayAll0,PyData.depthAll,h1,h3]
  exact ⟨rfl,by omega⟩
theorem Fi.lay:∀ {n:Nat} {d:D},Fi n d->(ya d).canLay0=true/\(ya d).depth<=n
 | 0,d,h=>⟨(sc_lay h).1,by rw [(sc_lay h).2];omega⟩
 | n+1,d,h=>by
  rcases h with h | ⟨ds,rfl | rfl,h⟩
  ·exact ⟨(sc_lay h).1,by rw [(sc_lay h).2];omega⟩
  ·obtain ⟨h1,h2⟩:=YQ fun r hr=>(h r hr).lay
   rw [ya,PyData.canLay0,PyData.depth]
   exact ⟨h1,by omega⟩
  ·obtain ⟨h1,h2⟩:=YQ fun r hr=>(h r hr).lay
   rw [ya,PyData.canLay0,PyData.depth]
   exact ⟨h1,by omega⟩
mutual
def wt:D->Nat
 | .tup ds=>wts ds
 | .lst ds=>wts ds
 | _=>8
def wts:List D->Nat
 | []=>0
 | d::ds=>wt d+1+wts ds
end
theorem JF:∀ a b:List D,wts (a++b)=wts a+wts b
 | [],b=>by rw [Ps,wts];omega
 | d::a,b=>by rw [Pe,wts,wts,JF a b];omega
def Py (n:Nat) (d:D):Prop:=(ya d).canLay0=true/\(ya d).depth<=n
theorem Fi.pyd {n:Nat} {d:D} (h:Fi n d):Py n d:=h.lay
theorem Py.mono {n m:Nat} {d:D} (h:Py n d) (hm:n<=m):Py m d:=⟨h.1,Qv h.2 hm⟩
theorem Py.int (i:Int) (n:Nat):Py n (.int i):=⟨by rw [ya,PyData.canLay0],by rw [ya,PyData.depth];omega⟩
theorem Py.tup {n:Nat} {ds:List D} (h:∀ r∈ds,Py n r):Py (n+1) (.tup ds):=by
 obtain ⟨h1,h2⟩:=YQ h
 unfold Py
 rw [ya,PyData.canLay0,PyData.depth]
 exact ⟨h1,by omega⟩
theorem Py.lst {n:Nat} {ds:List D} (h:∀ r∈ds,Py n r):Py (n+1) (.lst ds):=by
 obtain ⟨h1,h2⟩:=YQ h
 unfold Py
 rw [ya,PyData.canLay0,PyData.depth]
 exact ⟨h1,by omega⟩
end RW
namespace EV
open PySem PySem.Spec L2 M
variable {mm:Nat}
inductive Rq where
 | one (x:Kw) (ps:List D) | call (k:Nat) | loop (rs:List Rq) | either (a b:List Rq)
mutual
def Rq.toD:Rq->D
 | .one x ps=>.tup (.str x::ps)
 | .call k=>.tup [.str "call",.int (k:Nat)]
 | .loop rs=>.tup [.str "loop",.lst (qDs rs)]
 | .either a b=>.tup [.str "either",.lst (qDs a),.lst (qDs b)]
def qDs:List Rq->List D
 | []=>[]
 | r::rs=>r.toD::qDs rs
end
theorem jY:∀ rs:List Rq,qDs rs=rs.map Rq.toD
 | []=>by simp [qDs]
 | r::rs=>by simp [qDs,jY rs]
def Lf:D->Bool
 | .int _=>true
 | .tup _=>true
 | _=>false
def Dk (mm:Nat) (x:Kw) (ps:List D):Prop:=(x="skip"/\ps=[])\/(x="halt"/\ps=[])\/(∃ box:Nat,x="take"/\ps=[.int box]/\box<mm) \/
 ∃ (box:Nat) (ns:List Int),x="set"/\ps=[.int box,.tup (ns.map .int)]/\box<mm/\ns.length=mm+1/\∀ n∈ns,n.natAbs<=2000000
mutual
def Rq.ok (mm nb:Nat):Rq->Prop
 | .one x ps=>(x≠"call"/\x≠"loop"/\x≠"either")/\ps.length<=10/\(∀ p∈ps,Lf p=true)/\RW.Py 5 (.tup (.str x::ps))/\Dk mm x ps
 | .call k=>k<nb
 | .loop rs=>oks mm nb rs/\rs.length<=100
 | .either a b=>(oks mm nb a/\a.length<=100)/\oks mm nb b/\b.length<=100
def oks (mm nb:Nat):List Rq->Prop
 | []=>True
 | r::rs=>r.ok mm nb/\oks mm nb rs
end
mutual
def Rq.rk (g:Nat->Nat):Rq->Nat
 | .one _ _=>0
 | .call k=>g k+1
 | .loop rs=>rks g rs+1
 | .either a b=>max (rks g a) (rks g b)+1
def rks (g:Nat->Nat):List Rq->Nat
 | []=>0
 | r::rs=>max (r.rk g) (rks g rs)
end
mutual
def Rq.sz (G:Nat->Nat):Rq->Nat
 | .one _ _=>1
 | .call k=>G k
 | .loop rs=>2+szs G rs
 | .either a b=>2+(szs G a+szs G b)
def szs (G:Nat->Nat):List Rq->Nat
 | []=>0
 | r::rs=>r.sz G+szs G rs
end
abbrev Sx:=Int×List D
def skD:D:=.tup [.str "skip"]
def stp (p q:Int) (d:D):D:=.tup [.int p,.int q,d]
def Zg (f:List Rq->Int->Sx->Int×Sx) (B:Nat->List Rq) (q:Int×Sx) (r:Rq):Int×Sx:=match r with
 | .call k=>f (B k) q.1 q.2
 | .either a b=>let x:=f a q.1 q.2;let y:=f b q.1 x.2;(y.2.1,(y.2.1+1,y.2.2++[stp x.1 y.2.1 skD,stp y.1 y.2.1 skD]))
 | .loop a=>let x:=f a q.2.1 (q.2.1+1,q.2.2++[stp q.1 q.2.1 skD]);(q.2.1,(x.2.1,x.2.2++[stp x.1 q.2.1 skD]))
 | .one x ps=>(q.2.1,(q.2.1+1,if x="halt" then q.2.2 else q.2.2++[stp q.1 q.2.1 (.tup (.str x::ps))]))
def lyS (B:Nat->List Rq):Nat->List Rq->Int->Sx->Int×Sx
 | 0=>fun _ p s=>(p,s)
 | m+1=>fun rs p s=>rs.foldl (Zg (lyS B m) B) (p,s)
structure Bods (mm:Nat) (B:Nat->List Rq) (nb:Nat) (g G:Nat->Nat):Prop where
 ok:∀ k,k<nb->oks mm nb (B k)
 len:∀ k,k<nb->(B k).length<=100
 rk:∀ k,k<nb->rks g (B k)<=g k
 sz:∀ k,k<nb->szs G (B k)<=G k
def zX (B:Nat->List Rq) (nb:Nat):D:=.lst ((List.range nb).map fun k=>.lst (qDs (B k)))
theorem j7 {B:Nat->List Rq} {nb k:Nat} (h:k<nb):atI ((List.range nb).map fun k=>D.lst (qDs (B k))) (k:Int)=some (.lst (qDs (B k))):=zB (by simp [h])
theorem JS {g:Nat->Nat}:∀ {rs:List Rq} {r:Rq},r∈rs->r.rk g<=rks g rs
 | x::rs,r,h=>by
  rw [rks]
  rcases Qc.mp h with rfl | h
  ·omega
  ·have:=JS (g:=g) h;omega
theorem JW {nb:Nat}:∀ {rs:List Rq} {r:Rq},oks mm nb rs->r∈rs->r.ok mm nb
 | x::rs,r,o,h=>by
  rw [oks] at o
  rcases Qc.mp h with rfl | h
  ·exact o.1
  ·exact JW o.2 h
section
variable {B:Nat->List Rq} {nb:Nat} {g G:Nat->Nat}
theorem jH (hB:Bods mm B nb g G):∀ (m:Nat) (rs:List Rq) (p:Int) (s:Sx),oks mm nb rs->(lyS B m rs p s).2.2.length<=s.2.length+szs G rs
 | 0,rs,p,s,_=>by rw [lyS];exact Q5 _ _
 | m+1,rs,p,s,ho=>by
  rw [lyS]
  suffices h:∀ (rs:List Rq) (q:Int×Sx),oks mm nb rs->(rs.foldl (Zg (lyS B m) B) q).2.2.length<=q.2.2.length+szs G rs from h rs (p,s) ho
  intro rs
  induction rs with
  | nil=>intro q _;simp [szs]
  | cons r rs ih =>
   intro q ho
   rw [oks] at ho
   rw [Pk,szs]
   have h1:=ih (Zg (lyS B m) B q r) ho.2
   have h2:(Zg (lyS B m) B q r).2.2.length<=q.2.2.length+r.sz G:=by
    cases r with
    | one x ps =>
     simp only [Zg,Rq.sz]
     split
     ·omega
     ·simp
    | call k =>
     simp only [Zg,Rq.sz]
     have hk:k<nb:=by have:=ho.1;rwa [Rq.ok] at this
     have h3:=jH hB m (B k) q.1 q.2 (hB.ok k hk)
     have h4:=hB.sz k hk
     omega
    | loop a =>
     have o:=ho.1
     rw [Rq.ok] at o
     simp only [Zg,Rq.sz]
     have h3:=jH hB m a q.2.1 (q.2.1+1,q.2.2++[stp q.1 q.2.1 skD]) o.1
     simp only [Qd,Qg,Qy] at h3 ⊢
     omega
    | either a b =>
     have o:=ho.1
     rw [Rq.ok] at o
     simp only [Zg,Rq.sz]
     have h3:=jH hB m a q.1 q.2 o.1.1
     have h4:=jH hB m b q.1 (lyS B m a q.1 q.2).2 o.2.1
     simp only [Qd,Qg,Qy] at h3 h4 ⊢
     omega
   omega
end
theorem size9 {n:Nat} (h:n<=1000000):n<=Kg:=Qv h (by decide)
theorem size8 {n:Nat} (h:n<=1000000):n<Kg:=Q7 h (by decide)
theorem z6 {ρ:Ev} {i:Nat} {d:D} (h:ρ[i]?=some (some d)):zb i ρ=some d:=by unfold zb;rw [h];rfl
theorem eq_t {x:Kw}:ZJ (.str x) (.str x)=some (.bl true):=by unfold ZJ;rw [eqS,KS rfl];rfl
theorem eq_f {x y:Kw} (h:x≠y):ZJ (.str x) (.str y)=some (.bl false):=by unfold ZJ;rw [eqS,KU h];rfl
theorem ne_t {x y:Kw} (h:x≠y):wI (.str x) (.str y)=some (.bl true):=by unfold wI;rw [eqS,KU h];rfl
theorem ne_f {x:Kw}:wI (.str x) (.str x)=some (.bl false):=by unfold wI;rw [eqS,KS rfl];rfl
theorem Y5 {ρ:Ev} {i:Nat} {x:Kw} {ps:List D} (h:ρ[i]?=some (some (.tup (.str x::ps)))):fIx (zj false (zb i)) (fC (.int 0)) ρ=some (.str x):=Zp (ZH (z6 h)) rfl (zB (j:=0) rfl)
theorem kis {ρ:Ev} {i:Nat} {x:Kw} {ps:List D} (h:ρ[i]?=some (some (.tup (.str x::ps)))):zI (f2 ZJ (fIx (zj false (zb i)) (fC (.int 0))) (fC (.str x))) ρ=some true:=Zv (f2v (Y5 h) rfl eq_t)
theorem kno {ρ:Ev} {i:Nat} {x y:Kw} {ps:List D} (h:ρ[i]?=some (some (.tup (.str x::ps)))) (n:x≠y):zI (f2 ZJ (fIx (zj false (zb i)) (fC (.int 0))) (fC (.str y))) ρ=some false:=Zv (f2v (Y5 h) rfl (eq_f n))
theorem tup3v {ρ:Ev} {f f' f'':Ev->Option D} {d d' d'':D} (e:f ρ=some d) (e':f' ρ=some d') (e'':f'' ρ=some d''):Zo (ze f (ze f' (ze f'' zt))) ρ=some (.tup [d,d',d'']):=by
 rw [fTup_,ZR,e,oB,ZR,e',oB,ZR,e''];exact dTup_ (yA (by simp))
theorem yp {a b:Int}:Ze (.int a) (.int b)=some (.int (a+b)):=rfl
section
variable {B:Nat->List Rq} {nb:Nat} {g G:Nat->Nat}
end
variable {mm:Nat}
theorem jg {a:Kc} {c:Int} {r:List D}:mq32 [.adr a] (.int c::r)=some (.int c,.int (c+1)::r):=by
 refine WC rfl ?_
 unfold bq32
 refine Zb (S1:=.int (c+1)::r) rfl (jo (w2_ (d1:=.int (c+1)) (d2:=.int 1) rfl (wl_ rfl) ?_))
 show some (D.int (c+1 - 1))=some (.int c)
 rw [show c+1 - 1=c by omega]
theorem Yp {a:Kc} {p q:Int} {d:D} {S:List D} (h:S.length<=1000000):mq33 [.adr a,.int p,.int q,d] S=some (.non,S++[stp p q d]):=by
 refine YG rfl (ρ1:=Zh 4 [.adr a,.int p,.int q,d]) ?_
 unfold bq33 wStep
 rw [tup3v (d:=.int p) (d':=.int q) (d'':=d) rfl rfl rfl]
 simp only [oB]
 rw [KQ (JQ h)]
 rfl
theorem E_lay_rows (n:Nat):(Rq6 (n+1)).1=yW 3 5 (bq6 (Rq6 n).1 (Rq6 n).2.1 (Rq6 n).2.2.1 (Rq6 n).2.2.2.1 (Rq6 n).2.2.2.2):=by rw [Rq6]
theorem E_lay_row (n:Nat):(Rq6 (n+1)).2.1=yW 3 5 (bq7 (Rq6 n).1 (Rq6 n).2.1 (Rq6 n).2.2.1 (Rq6 n).2.2.2.1 (Rq6 n).2.2.2.2):=by rw [Rq6]
theorem E_lay_either (n:Nat):(Rq6 (n+1)).2.2.1=yW 3 6 (bq8 (Rq6 n).1 (Rq6 n).2.1 (Rq6 n).2.2.1 (Rq6 n).2.2.2.1 (Rq6 n).2.2.2.2):=by rw [Rq6]
theorem E_lay_loop (n:Nat):(Rq6 (n+1)).2.2.2.1=yW 3 4 (bq9 (Rq6 n).1 (Rq6 n).2.1 (Rq6 n).2.2.1 (Rq6 n).2.2.2.1 (Rq6 n).2.2.2.2):=by rw [Rq6]
theorem E_lay_call (n:Nat):(Rq6 (n+1)).2.2.2.2=yW 3 3 (bq10 (Rq6 n).1 (Rq6 n).2.1 (Rq6 n).2.2.1 (Rq6 n).2.2.2.1 (Rq6 n).2.2.2.2):=by rw [Rq6]
section
variable {B:Nat->List Rq} {nb:Nat} {g G:Nat->Nat} {N:Nat->Int} {l:D}
def LayAt (R:List D->List D->Option (D×List D)) (B:Nat->List Rq) (nb:Nat) (G:Nat->Nat) (l:D) (m:Nat) (a:Kc) (x:List Rq):Prop:=∀ (p:Int) (s:Sx),s.2.length+szs G x<=900000->R [.adr a,.lst (qDs x),.int p] (.int s.1::zX B nb::l::s.2)=some (.int (lyS B m x p s).1,.int (lyS B m x p s).2.1::zX B nb::l::(lyS B m x p s).2.2)
structure Lay (B:Nat->List Rq) (nb:Nat) (N:Nat->Int) (l:D):Prop where
 get:∀ k,k<nb->gv l (.int (k:Nat))=some (.int (N k))
 zero:∀ k,k<nb->N k=0->∀ m p s,lyS B m (B k) p s=(p,s)
theorem lay_row_ok (hB:Bods mm B nb g G) (hL:Lay B nb N l) {n m:Nat} {a:Kc} (ih:∀ x,oks mm nb x->rks g x<m->LayAt (Rq6 n).1 B nb G l m a x) (r:Rq) (ho:r.ok mm nb) (hr:r.rk g<m+1) (p:Int) (s:Sx) (hl:s.2.length+r.sz G<=900000) :
  (Rq6 (n+2)).2.1 [.adr a,r.toD,.int p] (.int s.1::zX B nb::l::s.2)=some (.int (Zg (lyS B m) B (p,s) r).1,.int (Zg (lyS B m) B (p,s) r).2.1::zX B nb::l::(Zg (lyS B m) B (p,s) r).2.2):=by
 obtain ⟨c,st⟩:=s
 dsimp only at hl
 rw [E_lay_row]
 refine WC rfl ?_
 unfold bq7
 have isK:∀ {x:Kw} {ps:List D} {ρ:Ev},ρ[3]?=some (some (.str x))->zI (f2 ZJ (zb 3) (fC (.str x))) ρ=some true:=fun h=>Zv (f2v (z6 h) rfl eq_t)
 have noK:∀ {x y:Kw} {ρ:Ev},ρ[3]?=some (some (.str x))->x≠y->zI (f2 ZJ (zb 3) (fC (.str y))) ρ=some false:=fun h e=>Zv (f2v (z6 h) rfl (eq_f e))
 cases r with
 | either x y =>
  rw [Rq.ok] at ho
  rw [Rq.rk] at hr
  rw [Rq.sz] at hl
  have l1:=jH hB m x p (c,st) ho.1.1
  have l2:=jH hB m y p (lyS B m x p (c,st)).2 ho.2.1
  dsimp only at l1
  have k1:=ih x ho.1.1 (by omega) p (c,st) (by show st.length+_<=_;omega)
  have k2:=ih y ho.2.1 (by omega) p (lyS B m x p (c,st)).2 (by omega)
  rw [Rq.toD]
  refine Zb (yF (wl_ (Y5 rfl))) (Wm (yU (wl_ (isK (ps:=[]) rfl)) (jo (ZP (zu (wl_ (z6 rfl)) (zu (wl_ (z6 rfl)) (zu (wl_ (z6 rfl)) ZT))) ?_))))
  rw [E_lay_either]
  refine WC rfl ?_
  unfold bq8
  refine Zb (yF (ZP (zu (wl_ (z6 rfl)) (zu (wl_ (Zp (ZH (z6 rfl)) rfl (zB (j:=1) rfl))) (zu (wl_ (z6 rfl)) ZT))) k1)) ?_
  refine Zb (yF (ZP (zu (wl_ (z6 rfl)) (zu (wl_ (Zp (ZH (z6 rfl)) rfl (zB (j:=2) rfl))) (zu (wl_ (z6 rfl)) ZT))) k2)) ?_
  refine Zb (yF (jt (d:=.adr a) rfl ZT jg)) ?_
  refine Zb (yh (jt (d:=.adr a) rfl (zu (wl_ (z6 rfl)) (zu (wl_ (z6 rfl)) (zu (wl_ rfl) ZT))) (Yp (by simp only [Qg];omega)))) ?_
  refine Zb (yh (jt (d:=.adr a) rfl (zu (wl_ (z6 rfl)) (zu (wl_ (z6 rfl)) (zu (wl_ rfl) ZT))) (Yp (by simp only [Qd,Qg,Qy];omega)))) ?_
  refine (jo (wl_ (z6 rfl))).trans ?_
  simp only [Zg,Pe,QY,Ps]
  rfl
 | loop x =>
  rw [Rq.ok] at ho
  rw [Rq.rk] at hr
  rw [Rq.sz] at hl
  have l1:=jH hB m x c (c+1,st++[stp p c skD]) ho.1
  simp only [Qd,Qg,Qy] at l1
  have k1:=ih x ho.1 (by omega) c (c+1,st++[stp p c skD]) (by simp only [Qd,Qg,Qy];omega)
  rw [Rq.toD]
  refine Zb (yF (wl_ (Y5 rfl))) (Zb (yc (wl_ (noK rfl (by decide))) rfl) (Wm (yU (wl_ (isK (ps:=[]) rfl)) (jo (ZP (zu (wl_ (z6 rfl)) (zu (wl_ (z6 rfl)) (zu (wl_ (z6 rfl)) ZT))) ?_)))))
  rw [E_lay_loop]
  refine WC rfl ?_
  unfold bq9
  refine Zb (yF (jt (d:=.adr a) rfl ZT jg)) ?_
  refine Zb (yh (jt (d:=.adr a) rfl (zu (wl_ (z6 rfl)) (zu (wl_ (z6 rfl)) (zu (wl_ rfl) ZT))) (Yp (by simp only [Qg];omega)))) ?_
  refine Zb (yh (jt (d:=.adr a) rfl (zu (ZP (zu (wl_ (z6 rfl)) (zu (wl_ (Zp (ZH (z6 rfl)) rfl (zB (j:=1) rfl))) (zu (wl_ (z6 rfl)) ZT))) k1) (zu (wl_ (z6 rfl)) (zu (wl_ rfl) ZT))) (Yp (by simp only [Qg];omega)))) ?_
  exact jo (wl_ (z6 rfl))
 | call k =>
  rw [Rq.ok] at ho
  rw [Rq.rk] at hr
  rw [Rq.sz] at hl
  have hg:=hB.rk k ho
  have hG:=hB.sz k ho
  rw [Rq.toD]
  refine Zb (yF (wl_ (Y5 rfl))) (Zb (yc (wl_ (noK rfl (by decide))) rfl) (Zb (yc (wl_ (noK rfl (by decide))) rfl) (Wm (yU (wl_ (isK (ps:=[]) rfl)) (jo (ZP (zu (wl_ (z6 rfl)) (zu (wl_ (z6 rfl)) (zu (wl_ (z6 rfl)) ZT))) ?_))))))
  rw [E_lay_call]
  refine WC rfl ?_
  unfold bq10
  have get:wTest (w2 ZJ (wDGet (wFld 2) (fIx (zj false (zb 1)) (fC (.int 1)))) (wL (fC (.int 0)))) (Zh 3 [.adr a,.tup [.str "call",.int (k:Nat)],.int p]) (.int c::zX B nb::l::st)=some (decide (N k=0),.int c::zX B nb::l::st) :=
   wtest_ (w2_ (wdget_ (d1:=l) rfl (Zp (ZH (z6 rfl)) rfl (zB (j:=1) rfl)) (hL.get k ho)) (wl_ rfl) rfl)
  by_cases hz:N k=0
  ·rw [KS hz] at get
   refine Wm (yU get (jo (wl_ (z6 rfl)))) |>.trans ?_
   simp only [Zg,hL.zero k ho hz]
  ·rw [KU hz] at get
   refine Zb (yc get rfl) (jo (ZP (zu (wl_ (z6 rfl)) (zu (wixl_ (ds:=(List.range nb).map fun k=>.lst (qDs (B k))) rfl (Zp (ZH (z6 rfl)) rfl (zB (j:=1) rfl)) (j7 ho)) (zu (wl_ (z6 rfl)) ZT))) (ih (B k) (hB.ok k ho) (by omega) p (c,st) (by show st.length+_<=_;omega))))
 | one x ps =>
  rw [Rq.ok] at ho
  obtain ⟨⟨n1,n2,n3⟩,_,_⟩:=ho
  rw [Rq.sz] at hl
  rw [Rq.toD]
  refine Zb (yF (wl_ (Y5 rfl))) (Zb (yc (wl_ (noK rfl n3)) rfl) (Zb (yc (wl_ (noK rfl n2)) rfl) (Zb (yc (wl_ (noK rfl n1)) rfl) (Zb (yF (jt (d:=.adr a) rfl ZT jg)) ?_))))
  by_cases e:x="halt"
  ·refine Zb (yc (wl_ (Zv (f2v (z6 rfl) rfl ?_))) rfl) ((jo (wl_ (z6 rfl))).trans ?_)
   ·rw [e];exact ne_f
   ·simp only [Zg];rw [KQ e]
  ·refine Zb (yU (wl_ (Zv (f2v (z6 rfl) rfl (ne_t e)))) (yh (jt (d:=.adr a) rfl (zu (wl_ (z6 rfl)) (zu (wl_ (z6 rfl)) (zu (wl_ (z6 rfl)) ZT))) (Yp (by simp only [Qg];omega))))) ((jo (wl_ (z6 rfl))).trans ?_)
   simp only [Zg]
   rw [KR e]
   rfl
theorem lay_step (hB:Bods mm B nb g G) (hL:Lay B nb N l) {n m:Nat} {a:Kc} (ih:∀ x,oks mm nb x->rks g x<m->LayAt (Rq6 n).1 B nb G l m a x) (rs:List Rq) (ho:oks mm nb rs) (hr:rks g rs<m+1):LayAt (Rq6 (n+3)).1 B nb G l (m+1) a rs:=by
 intro p s hl
 rw [E_lay_rows]
 refine WC rfl ?_
 unfold bq6
 refine Zb (yF (wl_ (z6 rfl))) ?_
 refine wfor_fold Rq.toD (Zg (lyS B m) B) (fun Zc q ρ S=>∃ x4,ρ=[some (.adr a),some (.lst (qDs rs)),some (.int p),some (.int q.1),x4]/\S=.int q.2.1::zX B nb::l::q.2.2/\oks mm nb Zc/\rks g Zc<m+1/\q.2.2.length+szs G Zc<=900000) rs (p,s) (by rw [<- jY];exact yB (z6 rfl)) ⟨none,rfl,rfl,ho,hr,hl⟩ ?_ ?_
 ·rintro r Zc ⟨q,c,st⟩ ρ S _ ⟨x4,rfl,rfl,o,hk,hz⟩
  rw [oks] at o
  rw [rks] at hk
  rw [szs] at hz
  dsimp only at hz
  have key:=lay_row_ok hB hL ih r o.1 (by omega) q (c,st) (by show st.length+_<=_;omega)
  have hlen:(Zg (lyS B m) B (q,c,st) r).2.2.length<=st.length+r.sz G:=by
   have:=jH hB (m+1) [r] q (c,st) (by rw [oks,oks];exact ⟨o.1,trivial⟩)
   simpa [lyS,szs] using this
  refine ⟨_,[some (.adr a),some (.lst (qDs rs)),some (.int p),some (.int (Zg (lyS B m) B (q,c,st) r).1),some r.toD],.int (Zg (lyS B m) B (q,c,st) r).2.1::zX B nb::l::(Zg (lyS B m) B (q,c,st) r).2.2,rfl,?_,⟨_,rfl,rfl,o.2,by omega,by omega⟩⟩
  exact yF (ZP (zu (wl_ (z6 rfl)) (zu (wl_ (z6 rfl)) (zu (wl_ (z6 rfl)) ZT))) key)
 ·rintro ρ' S' ⟨x4,rfl,rfl,_,_,_⟩
  exact jo (wl_ (z6 rfl))
theorem YQ (hB:Bods mm B nb g G) (hL:Lay B nb N l) {a:Kc}:∀ (m n:Nat),3*m<=n->∀ rs,oks mm nb rs->rks g rs<m->LayAt (Rq6 n).1 B nb G l m a rs
 | 0,n,_,rs,_,h=>by omega
 | m+1,n,h,rs,ho,hr=>by
  obtain ⟨k,rfl⟩:∃ k,n=k+3:=⟨n - 3,by omega⟩
  exact lay_step hB hL (YQ hB hL m k (by omega)) rs ho hr
end
end EV
namespace RW
open PySem L2 M
inductive Rw where
 | skip | halt | call (k:Nat) | loop (rs:List Rw) | either (a b:List Rw)
mutual
def Rw.ht:Rw->Nat
 | .loop rs=>hts rs+1
 | .either a b=>max (hts a) (hts b)+1
 | _=>0
def hts:List Rw->Nat
 | []=>0
 | r::rs=>max r.ht (hts rs)
end
mutual
def Rw.ok (f l:Nat):Rw->Prop
 | .call k=>f<=k/\k<=l
 | .loop rs=>oks f l rs/\rs.length<=100
 | .either a b=>(oks f l a/\a.length<=100)/\oks f l b/\b.length<=100
 | _=>True
def oks (f l:Nat):List Rw->Prop
 | []=>True
 | r::rs=>r.ok f l/\oks f l rs
end
mutual
def Rw.np (g:Nat->Int):Rw->Int
 | .call k=>g k
 | .loop rs=>1+nps g rs
 | .either a b=>1+(nps g a+nps g b)
 | _=>1
def nps (g:Nat->Int):List Rw->Int
 | []=>0
 | r::rs=>r.np g+nps g rs
end
mutual
def Rw.dp (g:Nat->Int):Rw->Int
 | .call k=>max 1 (g k)
 | .loop rs=>1+dps g rs
 | .either a b=>1+max (dps g a) (dps g b)
 | _=>1
def dps (g:Nat->Int):List Rw->Int
 | []=>0
 | r::rs=>max (r.dp g) (dps g rs)
end
mutual
theorem W3 {g g':Nat->Int} {f l:Nat} (h:∀ k,f<=k->k<=l->g k=g' k):∀ r:Rw,r.ok f l->r.np g=r.np g'/\r.dp g=r.dp g'
 | .skip,_=>by simp [Rw.np,Rw.dp]
 | .halt,_=>by simp [Rw.np,Rw.dp]
 | .call k,o=>by rw [Rw.ok] at o;simp only [Rw.np,Rw.dp,h k o.1 o.2];exact ⟨trivial,trivial⟩
 | .loop rs,o=>by
  rw [Rw.ok] at o
  obtain ⟨h1,h2⟩:=yo h rs o.1
  simp only [Rw.np,Rw.dp,h1,h2];exact ⟨trivial,trivial⟩
 | .either a b,o=>by
  rw [Rw.ok] at o
  obtain ⟨h1,h2⟩:=yo h a o.1.1
  obtain ⟨h3,h4⟩:=yo h b o.2.1
  simp only [Rw.np,Rw.dp,h1,h2,h3,h4];exact ⟨trivial,trivial⟩
theorem yo {g g':Nat->Int} {f l:Nat} (h:∀ k,f<=k->k<=l->g k=g' k):∀ rs:List Rw,oks f l rs->nps g rs=nps g' rs/\dps g rs=dps g' rs
 | [],_=>by simp [nps,dps]
 | r::rs,o=>by
  rw [oks] at o
  obtain ⟨h1,h2⟩:=W3 h r o.1
  obtain ⟨h3,h4⟩:=yo h rs o.2
  simp only [nps,dps,h1,h2,h3,h4];exact ⟨trivial,trivial⟩
end
theorem Ws (g:Nat->Int):∀ rs:List Rw,(rs.map (Rw.np g)).sum=nps g rs
 | []=>by simp [nps]
 | r::rs=>by simp [nps,Ws g rs]
theorem mulT {a b:Int} (h1:-(2 ^ 64)<b) (h2:b<2 ^ 64):IntMulOk a b:=by
 have:=JX (a:=b) (b:=a) h1 h2
 unfold IntMulOk at *
 rw [Bool.and_comm (decide (Builtin.Int.intBits a > shortFactorBits)),Int.add_comm]
 exact this
theorem Jd (k:Key) (d:D):∀ {ks:List Key} {ds:List D},ks.length=ds.length->wE ks k=true->yd ks (wu k d ks ds) k=some d
 | [],ds,h,e=>by simp [wE] at e
 | k'::ks,[],h,e=>by simp at h
 | k'::ks,x::ds,h,e=>by
  simp only [wu,yd]
  by_cases hk:k'=k
  ·rw [KQ hk,KQ hk]
  ·rw [KR hk]
   refine Jd k d (by simpa using h) ?_
   unfold wE at e ⊢
   rw [Pm,KU hk,Bool.false_or] at e
   exact e
theorem wZ {k k':Key} (d:D) (hne:k'≠k):∀ {ks:List Key} {ds:List D},yd ks (wu k d ks ds) k'=yd ks ds k'
 | [],ds=>by simp [yd]
 | q::ks,[]=>by simp [yd,wu]
 | q::ks,x::ds=>by
  simp only [wu,yd]
  by_cases hq:q=k'
  ·rw [KQ hq,KQ hq,KR (fun z=>hne (hq.symm.trans z))]
  ·rw [KR hq,KR hq]
   exact wZ d hne
theorem look_app {k':Key}:∀ {ks:List Key} {ds:List D} {ks2:List Key} {ds2:List D},ks.length=ds.length->yd (ks++ks2) (ds++ds2) k'=(yd ks ds k').or (yd ks2 ds2 k')
 | [],[],ks2,ds2,h=>by simp [yd]
 | [],x::ds,ks2,ds2,h=>by simp at h
 | q::ks,[],ks2,ds2,h=>by simp at h
 | q::ks,x::ds,ks2,ds2,h=>by
  simp only [Pe,yd]
  by_cases hq:q=k'
  ·rw [KQ hq,KQ hq];rfl
  ·rw [KR hq,KR hq];exact look_app (by simpa using h)
theorem wA {k:Key}:∀ {ks:List Key} {ds:List D},wE ks k=false->yd ks ds k=none
 | [],ds,h=>by simp [yd]
 | q::ks,[],h=>by simp [yd]
 | q::ks,x::ds,h=>by
  unfold wE at h
  rw [Pm,PX] at h
  simp only [yd]
  rw [KR (by simpa using h.1)]
  exact wA h.2
theorem rep_len (k:Key) (d:D):∀ {ks:List Key} {ds:List D},ks.length=ds.length->ks.length=(wu k d ks ds).length
 | [],ds,h=>by simpa [wu] using h
 | q::ks,[],h=>by simp at h
 | q::ks,x::ds,h=>by simp only [wu,Qg] at *;rw [rep_len k d (ds:=ds) (by omega)]
structure Dc (d:D) (m:Nat) (g:Nat->Option Int):Prop where
 ex:∃ ks ds,d=.dict ks ds/\ks.length=ds.length/\ks.length<=m/\∀ j:Nat,yd ks ds (.inl (j:Int))=(g j).map D.int
theorem Dc.nil:Dc (.dict [] []) 0 (fun _=>none):=⟨[],[],rfl,rfl,Qh _,fun j=>by simp [yd]⟩
theorem Dc.get {d:D} {m:Nat} {g:Nat->Option Int} (h:Dc d m g) {j:Nat} {v:Int} (e:g j=some v):gv d (.int (j:Nat))=some (.int v):=by
 obtain ⟨ks,ds,rfl,h1,h2,h3⟩:=h.ex
 have:=h3 j
 rw [e] at this
 exact this
def upG (g:Nat->Option Int) (j:Nat) (v:Int):Nat->Option Int:=fun k=>if k=j then some v else g k
theorem dput_ {im:Nat} {fk fv:Ev->Option D} {ρ:Ev} {T:Out->Prop} {d:D} {m:Nat} {g:Nat->Option Int} {j:Nat} {v:Int} (ev:fv ρ=some (.int v)) (ed:ρ[im]?.join=some d) (ek:fk ρ=some (.int (j:Nat))) (h:Dc d m g) (hm:m<1000)
  (k:∀ d',Dc d' (if g j=none then m+1 else m) (upG g j v)->T (.nx (ρ.set im (some d')))):Wo (mDPut im fk fv ρ) T:=by
 obtain ⟨ks,ds,rfl,h1,h2,h3⟩:=h.ex
 unfold mDPut
 rw [ev,oB,ed,oB]
 show Wo (Option.bind (some (ks,ds)) _) T
 rw [oB,ek,oB,asI_,oB,KQ (Q7 h2 (Qr hm (by decide)))]
 refine ⟨_,rfl,k _ ⟨_,_,rfl,?_,?_,fun i=>?_⟩⟩
 ·unfold putKs putDs
  by_cases z:wE ks (.inl (j:Int))=true
  ·rw [KQ z,KQ z];exact rep_len _ _ h1
  ·rw [KR z,KR z];simp [h1]
 ·unfold putKs
  by_cases z:wE ks (.inl (j:Int))=true
  ·rw [KQ z];show ks.length<=_;split <;> omega
  ·rw [KR z]
   have e:g j=none:=by
    have:=h3 j
    rw [wA (by simpa using z)] at this
    cases q:g j with
    | none=>rfl
    | some _=>rw [q] at this;cases this
   rw [KQ e]
   show (ks++[_]).length<=_
   simp;omega
 ·unfold putKs putDs upG
  by_cases z:wE ks (.inl (j:Int))=true
  ·rw [KQ z,KQ z]
   by_cases e:i=j
   ·rw [KQ e,e];exact Jd _ _ h1 z
   ·rw [KR e,wZ _ (fun q=>e (by have:=Sum.inl.inj q;omega))];exact h3 i
  ·rw [KR z,KR z,look_app h1]
   by_cases e:i=j
   ·rw [KQ e,e,wA (by simpa using z)]
    simp [yd]
   ·rw [KR e,h3 i]
    have:yd [(Sum.inl (j:Int):Key)] [D.int v] (.inl (i:Int))=none:=by
     simp only [yd]
     rw [KR (fun q=>e (by have:=Sum.inl.inj q;omega))]
    rw [this]
    simp
end RW
namespace EV
open PySem PySem.Spec L2 M
open RW (Dc upG dput_ Fi Sc wt wts)
variable {mm:Nat}
mutual
def Rq.np (g:Nat->Int):Rq->Int
 | .one _ _=>1
 | .call k=>g k
 | .loop rs=>1+nps g rs
 | .either a b=>1+(nps g a+nps g b)
def nps (g:Nat->Int):List Rq->Int
 | []=>0
 | r::rs=>r.np g+nps g rs
end
mutual
def Rq.lat (f:Nat):Rq->Prop
 | .one _ _=>True
 | .call k=>f<=k
 | .loop rs=>YE f rs
 | .either a b=>YE f a/\YE f b
def YE (f:Nat):List Rq->Prop
 | []=>True
 | r::rs=>r.lat f/\YE f rs
end
theorem Ws (g:Nat->Int):∀ rs:List Rq,(rs.map (Rq.np g)).sum=nps g rs
 | []=>by simp [nps]
 | r::rs=>by simp [nps,Ws g rs]
mutual
theorem np_nn (g:Nat->Int) (h:∀ k,0<=g k):∀ r:Rq,0<=r.np g
 | .one _ _=>by simp [Rq.np]
 | .call k=>by simp only [Rq.np];exact h k
 | .loop rs=>by have:=je g h rs;simp only [Rq.np];omega
 | .either a b=>by have:=je g h a;have:=je g h b;simp only [Rq.np];omega
theorem je (g:Nat->Int) (h:∀ k,0<=g k):∀ rs:List Rq,0<=nps g rs
 | []=>by simp [nps]
 | r::rs=>by have:=np_nn g h r;have:=je g h rs;simp only [nps];omega
end
mutual
theorem W3 {g g':Nat->Int} {f nb:Nat} (h:∀ k,f<=k->k<nb->g k=g' k):∀ r:Rq,r.lat f->r.ok mm nb->r.np g=r.np g'
 | .one _ _,_,_=>by simp [Rq.np]
 | .call k,o,o'=>by rw [Rq.lat] at o;rw [Rq.ok] at o';simp only [Rq.np,h k o o']
 | .loop rs,o,o'=>by rw [Rq.lat] at o;rw [Rq.ok] at o';simp only [Rq.np,yo h rs o o'.1]
 | .either a b,o,o'=>by rw [Rq.lat] at o;rw [Rq.ok] at o';simp only [Rq.np,yo h a o.1 o'.1.1,yo h b o.2 o'.2.1]
theorem yo {g g':Nat->Int} {f nb:Nat} (h:∀ k,f<=k->k<nb->g k=g' k):∀ rs:List Rq,YE f rs->oks mm nb rs->nps g rs=nps g' rs
 | [],_,_=>by simp [nps]
 | r::rs,o,o'=>by rw [YE] at o;rw [oks] at o';simp only [nps,W3 h r o.1 o'.1,yo h rs o.2 o'.2]
end
theorem fix_ex {B:Nat->List Rq} {n:Nat} (hB:∀ j,j<n->oks mm n (B j)/\YE (j+1) (B j)):∃ g:Nat->Int,(∀ k,0<=g k)/\∀ j,j<n->g j=nps g (B j):=by
 suffices h:∀ i,i<=n->∃ g:Nat->Int,(∀ k,0<=g k)/\∀ j,n - i<=j->j<n->g j=nps g (B j) by
  obtain ⟨g,h1,h2⟩:=h n (Qh n)
  exact ⟨g,h1,fun j hj=>h2 j (by omega) hj⟩
 intro i
 induction i with
 | zero=>exact fun _=>⟨fun _=>0,fun _=>Int.le_refl 0,fun j h1 h2=>by omega⟩
 | succ i ih =>
  intro hi
  obtain ⟨g,h1,h2⟩:=ih (by omega)
  have key:∀ j,n - (i+1)<=j->j<n->nps (fun k=>if k=n - (i+1) then nps g (B (n - (i+1))) else g k) (B j)=nps g (B j):=fun j hj1 hj2 =>
   yo (fun k hk1 hk2=>KR (by omega)) _ (hB j hj2).2 (hB j hj2).1
  refine ⟨fun k=>if k=n - (i+1) then nps g (B (n - (i+1))) else g k,fun k=>?_,fun j hj1 hj2=>?_⟩
  ·show 0<=(if k=n - (i+1) then nps g (B (n - (i+1))) else g k)
   split
   ·exact je _ h1 _
   ·exact h1 k
  ·rw [key j hj1 hj2]
   show (if j=n - (i+1) then nps g (B (n - (i+1))) else g j)=_
   by_cases e:j=n - (i+1)
   ·rw [KQ e,e]
   ·rw [KR e];exact h2 j (by omega) hj2
theorem no_places {B:Nat->List Rq} {nb:Nat} {N:Nat->Int} (hB:∀ k,k<nb->oks mm nb (B k)) (h0:∀ k,0<=N k) (hN:∀ k,k<nb->N k=nps N (B k)):∀ (m:Nat) (rs:List Rq) (p:Int) (s:Sx),oks mm nb rs->nps N rs=0->lyS B m rs p s=(p,s)
 | 0,rs,p,s,_,_=>by rw [lyS]
 | m+1,rs,p,s,ho,hz=>by
  rw [lyS]
  suffices h:∀ (rs:List Rq) (q:Int×Sx),oks mm nb rs->nps N rs=0->rs.foldl (Zg (lyS B m) B) q=q from h rs (p,s) ho hz
  intro rs
  induction rs with
  | nil=>intro q _ _;rfl
  | cons r rs ih =>
   intro q ho hz
   rw [oks] at ho
   rw [nps] at hz
   have h1:=np_nn N h0 r
   have h2:=je N h0 rs
   rw [Pk]
   have e:Zg (lyS B m) B q r=q:=by
    cases r with
    | one x ps=>simp only [Rq.np] at hz;omega
    | loop a=>have:=je N h0 a;simp only [Rq.np] at hz;omega
    | either a b=>have:=je N h0 a;have:=je N h0 b;simp only [Rq.np] at hz;omega
    | call k =>
     have hk:k<nb:=by have:=ho.1;rwa [Rq.ok] at this
     simp only [Rq.np] at hz h1
     simp only [Zg]
     rw [no_places hB h0 hN m (B k) q.1 q.2 (hB k hk) (by rw [<- hN k hk];omega)]
   rw [e]
   exact ih q ho.2 (by omega)
theorem Wb {u:D->Ev->Option Ev} {c:Ev->Option Bool} {e:Ev->Option D} (I:Ev->Prop):∀ (ps:List (D×D)) (ρ:Ev),I ρ->(∀ p ρ,p∈ps->I ρ->∃ ρ1,u p.1 ρ=some ρ1/\c ρ1=some true/\e ρ1=some p.2/\I ρ1)->Yh u c e (ps.map Prod.fst) ρ=some (ps.map Prod.snd)
 | [],ρ,_,_=>rfl
 | p::ps,ρ,hi,h=>by
  obtain ⟨ρ1,h1,h2,h3,h4⟩:=h p ρ Qt hi
  rw [Qq,Yh,h1,oB,h2,oB,KQ rfl,h3,oB,Wb I ps ρ1 h4 fun q ρ' hq=>h q ρ' (Qe _ hq)]
  rfl
theorem yx {k:Nat} {fl:Ev->Option (List D)} {u:D->Ev->Option Ev} {c:Ev->Option Bool} {e:Ev->Option D} {ρ:Ev} (ps:List (D×D)) (I:Ev->Prop) (hfl:fl ρ=some (ps.map Prod.fst)) (hm:ps.length<=1000) (h0:I (ρ++List.replicate k none))
  (hs:∀ p ρ,p∈ps->I ρ->∃ ρ1,u p.1 ρ=some ρ1/\c ρ1=some true/\e ρ1=some p.2/\I ρ1):ZX k fl u c e ρ=some (.lst (ps.map Prod.snd)):=by
 rw [gt,hfl,oB,Wb I ps _ h0 hs,oB]
 exact Jg (yA (by rw [Ql];omega))
def yu:Rq->List (List Rq)
 | .loop rs=>[rs]
 | .either a b=>[a,b]
 | _=>[]
theorem J0 {f:Nat}:∀ {rs:List Rq} {r:Rq},YE f rs->r∈rs->r.lat f
 | x::rs,r,o,h=>by
  rw [YE] at o
  rcases Qc.mp h with rfl | h
  ·exact o.1
  ·exact J0 o.2 h
theorem subs_rk {g:Nat->Nat} {r:Rq} {x:List Rq} (h:x∈yu r):rks g x+1<=r.rk g:=by
 cases r with
 | one _ _=>cases h
 | call _=>cases h
 | loop a=>simp only [yu,Qs] at h;subst h;rw [Rq.rk];omega
 | either a b =>
  simp only [yu,Qc,Qn,or_false] at h
  rw [Rq.rk]
  rcases h with rfl | rfl <;> omega
theorem subs_ok {nb f:Nat} {r:Rq} {x:List Rq} (ho:r.ok mm nb) (hf:r.lat f) (h:x∈yu r):oks mm nb x/\YE f x/\x.length<=100:=by
 cases r with
 | one _ _=>cases h
 | call _=>cases h
 | loop a=>simp only [yu,Qs] at h;subst h;rw [Rq.ok] at ho;rw [Rq.lat] at hf;exact ⟨ho.1,hf,ho.2⟩
 | either a b =>
  simp only [yu,Qc,Qn,or_false] at h
  rw [Rq.ok] at ho;rw [Rq.lat] at hf
  rcases h with rfl | rfl
  ·exact ⟨ho.1.1,hf.1,ho.1.2⟩
  ·exact ⟨ho.2.1,hf.2,ho.2.2⟩
theorem lf_isi {d:D} (h:Lf d=true):gj "list" d=some (.bl false):=by cases d <;> first | rfl | cases h
theorem comp_none:∀ (ds:List D) (ρ:Ev),(∀ d∈ds,gj "list" d=some (.bl false))->ρ.length=2->Yh (zP 1) (zI (f1 (gj "list") (zb 1))) (zb 1) ds ρ=some []
 | [],ρ,_,_=>rfl
 | d::ds,ρ,h,hl=>by
  rw [Yh,zP,oB]
  have e:zI (f1 (gj "list") (zb 1)) (ρ.set 1 (some d))=some false:=Zv (f1v (z6 (zH (by omega))) (h d Qt))
  rw [e,oB,KR (by simp)]
  exact comp_none ds _ (fun x hx=>h x (Qe _ hx)) (by simpa using hl)
theorem lists_in_ok {nb:Nat} (r:Rq) (ho:r.ok mm nb):mq1 [r.toD]=some (.lst ((yu r).map fun x=>.lst (qDs x))):=by
 refine Wo.eq ?_
 unfold mq1 bq1
 rw [yZ]
 refine ⟨rfl,?_⟩
 simp only [Zh,zMap,zLen,List.replicate,zApp,QK,Nat.reduceAdd,Nat.reduceSub]
 refine Jn (d:=.lst ((yu r).map fun x=>.lst (qDs x))) ?_ rfl
 cases r with
 | one x ps =>
  rw [Rq.ok] at ho
  rw [Rq.toD,gt,ZH (z6 rfl),oB,comp_none _ _ (fun d hd=>?_) rfl]
  ·rfl
  ·rcases Qc.mp hd with rfl | hd
   ·rfl
   ·exact lf_isi (ho.2.2.1 d hd)
 | call k=>rw [Rq.toD];rfl
 | loop a=>rw [Rq.toD];rfl
 | either a b=>rw [Rq.toD];rfl
def Tells (d:D) (f nb:Nat) (g:Nat->Int):Prop:=∀ k:Nat,f<=k->k<nb->gv d (.int (k:Nat))=some (.int (g k))
section
variable {dd:D} {f nb:Nat} {g:Nat->Int} (hd:Tells dd f nb g)
include hd
theorem np_step {n:Nat} {r:Rq} (ho:r.ok mm nb) (hf:r.lat f) (h:∀ x∈yu r,(Rq2 n).1 [.lst (qDs x),dd]=some (.int (nps g x))):(Rq2 (n+1)).2 [r.toD,dd]=some (.int (r.np g)):=by
 refine Wo.eq ?_
 rw [show (Rq2 (n+1)).2=yg 2 2 (bq3 (Rq2 n).1 (Rq2 n).2) by rw [Rq2]]
 unfold bq3
 rw [yZ]
 refine ⟨rfl,?_⟩
 simp only [Zh,zMap,zLen,List.replicate,zApp,QK,Nat.reduceAdd,Nat.reduceSub]
 generalize (Rq2 n).1=m1 at h ⊢
 generalize (Rq2 n).2=m2
 have Zc:∀ ρ:Ev,ρ=[some r.toD,some dd]->f2 Ze (fC (.int 1)) (fA YZ (zj true (ZX 1 (zj true (fA mq1 (ze (zb 0) zt))) (zP 2) Yn (fA m1 (ze (zb 2) (ze (zb 1) zt)))))) ρ=some (.int (1+((yu r).map (nps g)).sum)):=by
  rintro ρ rfl
  have ec:=yx (k:=1) (fl:=zj true (fA mq1 (ze (zb 0) zt))) (u:=zP 2) (c:=Yn) (e:=fA m1 (ze (zb 2) (ze (zb 1) zt))) (ρ:=[some r.toD,some dd]) ((yu r).map fun x=>(.lst (qDs x),.int (nps g x))) (fun ρ=>∃ z:Option D,ρ=[some r.toD,some dd,z])
   ((yB (fA1 rfl (lists_in_ok r ho))).trans (by rw [QV];rfl)) (by cases r <;> simp [yu]) ⟨none,rfl⟩ (by
    rintro p ρ hp ⟨z,rfl⟩
    obtain ⟨x,hx,rfl⟩:=Q3.mp hp
    exact ⟨_,rfl,rfl,fA2 rfl rfl (h x hx),_,rfl⟩)
  refine f2v (y:=.int ((yu r).map (nps g)).sum) rfl ?_ rfl
  rw [fA_,yB ec,oB,QV]
  exact (congrArg YZ (show List.map _ (yu r)=((yu r).map (nps g)).map D.int by rw [QV];rfl)).trans gSum_
 cases r with
 | call k =>
  rw [Rq.ok] at ho
  rw [Rq.lat] at hf
  rw [Rq.toD,zF]
  refine ⟨_,by rw [mIf_,kis rfl,oB,KQ rfl,Jc,f2v (y:=.int (k:Nat)) rfl (Zp (ZH (z6 rfl)) rfl (zB (j:=1) rfl)) (hd k hf ho)];rfl,?_⟩
  simp only [Rq.np];rfl
 | one x ps =>
  rw [Rq.ok] at ho
  rw [Rq.toD] at Zc
  rw [Rq.toD,zF]
  refine Jt (kno rfl ho.1.1) ?_
  rw [Z2,zV,zy]
  exact Jn (Zc _ rfl) (by simp [yu,Rq.np])
 | loop rs =>
  rw [Rq.toD] at Zc
  rw [Rq.toD,zF]
  refine Jt (kno rfl (by decide)) ?_
  rw [Z2,zV,zy]
  exact Jn (Zc _ rfl) (by simp [yu,Rq.np])
 | either a b =>
  rw [Rq.toD] at Zc
  rw [Rq.toD,zF]
  refine Jt (kno rfl (by decide)) ?_
  rw [Z2,zV,zy]
  exact Jn (Zc _ rfl) (by simp [yu,Rq.np])
theorem nps_step {n:Nat} {rs:List Rq} (hl:rs.length<=100) (h:∀ r∈rs,(Rq2 n).2 [r.toD,dd]=some (.int (r.np g))):(Rq2 (n+1)).1 [.lst (qDs rs),dd]=some (.int (nps g rs)):=by
 refine Wo.eq ?_
 rw [show (Rq2 (n+1)).1=yg 2 2 (bq2 (Rq2 n).1 (Rq2 n).2) by rw [Rq2]]
 unfold bq2
 rw [yZ]
 refine ⟨rfl,?_⟩
 simp only [Zh,zMap,zLen,List.replicate,zApp,QK,Nat.reduceAdd,Nat.reduceSub]
 generalize (Rq2 n).1=m1
 generalize (Rq2 n).2=m2 at h ⊢
 have ec:=yx (k:=1) (fl:=zj true (zb 0)) (u:=zP 2) (c:=Yn) (e:=fA m2 (ze (zb 2) (ze (zb 1) zt))) (ρ:=[some (.lst (qDs rs)),some dd]) (rs.map fun r=>(r.toD,.int (r.np g))) (fun ρ=>∃ z:Option D,ρ=[some (.lst (qDs rs)),some dd,z])
  ((yB (ds:=qDs rs) rfl).trans (by rw [QV,jY];rfl)) (by rw [Ql];omega) ⟨none,rfl⟩ (by
   rintro p ρ hp ⟨z,rfl⟩
   obtain ⟨x,hx,rfl⟩:=Q3.mp hp
   exact ⟨_,rfl,rfl,fA2 rfl rfl (h x hx),_,rfl⟩)
 refine Jn (d:=.int (nps g rs)) ?_ rfl
 rw [fA_,yB ec,oB,QV]
 exact (congrArg YZ (show List.map _ rs=(rs.map (Rq.np g)).map D.int by rw [QV];rfl)).trans (gSum_.trans (by rw [Ws]))
theorem new_all:∀ (h n:Nat),2*h+2<=n->∀ rs:List Rq,rks (fun _=>0) rs<=h->oks mm nb rs->YE f rs->rs.length<=100->(Rq2 n).1 [.lst (qDs rs),dd]=some (.int (nps g rs)):=by
 intro h
 induction h with
 | zero =>
  intro n hn rs hk ho hf hl
  obtain ⟨n,rfl⟩:∃ m,n=m+2:=⟨n - 2,by omega⟩
  refine nps_step hd hl fun r hr=>np_step hd (JW ho hr) (J0 hf hr) fun x hx=>?_
  have h1:=JS (g:=fun _=>0) hr
  have h2:=(subs_rk (g:=fun _=>0) hx)
  omega
 | succ h ih =>
  intro n hn rs hk ho hf hl
  obtain ⟨n,rfl⟩:∃ m,n=m+2:=⟨n - 2,by omega⟩
  refine nps_step hd hl fun r hr=>np_step hd (JW ho hr) (J0 hf hr) fun x hx=>?_
  have h1:=JS (g:=fun _=>0) hr
  have h2:=(subs_rk (g:=fun _=>0) hx)
  obtain ⟨o1,o2,o3⟩:=subs_ok (JW ho hr) (J0 hf hr) hx
  exact ih n (by omega) x (by omega) o1 o2 o3
end
def upto (n i:Nat) (g:Nat->Int):Nat->Option Int:=fun k=>if n - i<=k/\k<n then some (g k) else none
theorem upto_none {n i:Nat} {g:Nat->Int} {j:Nat} (h:j<n - i):upto n i g j=none:=KR (by omega)
theorem upto_some {n i:Nat} {g:Nat->Int} {j:Nat} (h:n - i<=j) (h2:j<n):upto n i g j=some (g j):=KQ ⟨h,h2⟩
theorem upto_up {n i:Nat} {g:Nat->Int} (hi:i<n) (k:Nat):upG (upto n i g) (n - 1 - i) (g (n - 1 - i)) k=upto n (i+1) g k:=by
 unfold upG upto
 by_cases e:k=n - 1 - i
 ·rw [KQ e,KQ (by omega),e]
 ·rw [KR e]
  by_cases h:n - i<=k/\k<n
  ·rw [KQ h,KQ (by omega)]
  ·rw [KR h,KR (by omega)]
theorem dc_as {d:D} {m m':Nat} {g g':Nat->Option Int} (h:Dc d m g) (hm:m=m') (hg:∀ k,g k=g' k):Dc d m' g':=by
 have:g=g':=funext hg
 subst this;subst hm;exact h
structure Bods2 (mm:Nat) (B:Nat->List Rq) (nb:Nat) (g G:Nat->Nat):Prop extends Bods mm B nb g G where
 lat:∀ k,k<nb->YE (k+1) (B k)
 low:∀ k,k<nb->rks (fun _=>0) (B k)<=12
 few:nb<=4
 pos:1<=nb
theorem places_ok {B:Nat->List Rq} {nb:Nat} {g G:Nat->Nat} (hB:Bods2 mm B nb g G) {N:Nat->Int} (hN:∀ j,j<nb->N j=nps N (B j)):∃ l,mq5 [zX B nb]=some l/\∀ k,k<nb->gv l (.int (k:Nat))=some (.int (N k)):=by
 suffices h:Wo (mq5 [zX B nb]) fun l=>∀ k,k<nb->gv l (.int (k:Nat))=some (.int (N k)) by
  obtain ⟨d,e,w⟩:=h
  exact ⟨d,e,w⟩
 have hn:=hB.pos
 have hn4:=hB.few
 unfold mq5 bq5
 rw [yZ]
 refine ⟨rfl,?_⟩
 simp only [Zh,zMap,zLen,List.replicate,zApp,QK,Nat.reduceAdd,Nat.reduceSub]
 rw [zF]
 refine new_ rfl (by simp) ?_
 simp only [zSet,zy]
 have er:gm (f2 JB (fA j9 (zj true (zb 0))) (fC (.int 1))) (f1 wH (fC (.int 1))) [some (zX B nb),some (.dict [] []),none]=some (YL ((nb:Int) - 1) nb):=by
  have e1:f2 JB (fA j9 (zj true (zb 0))) (fC (.int 1)) [some (zX B nb),some (.dict [] []),none]=some (.int ((nb:Int) - 1)):=f2v (x:=.int (nb:Nat)) (by show some (D.int (((List.range nb).map fun k=>D.lst (qDs (B k))).length:Nat))=_;rw [Ql,List.length_range]) rfl rfl
  unfold gm
  rw [e1,oB,show f1 wH (fC (.int 1)) [some (zX B nb),some (.dict [] []),none]=some (.int (-1)) from rfl,oB,asI_,oB,asI_,oB,KQ (by omega)]
  congr 2
  omega
 rw [zF,W8,er,oB]
 refine Jh (fun i ρ=>i<=nb/\∃ (d1:D) (z:Option D),ρ=[some (zX B nb),some d1,z]/\Dc d1 i (upto nb i N)) ⟨Q4 _,_,_,rfl,dc_as Dc.nil rfl fun k=>(KR (by omega)).symm⟩ ?_ ?_
 ·rintro i e ρ he ⟨hi,d1,z,rfl,c1⟩
  obtain ⟨hin,rfl⟩:=YK he
  have ej:(nb:Int) - 1 - (i:Nat)=((nb - 1 - i:Nat):Int):=by omega
  rw [ej,jw,zV]
  simp only [zSet]
  have hj:nb - 1 - i<nb:=by omega
  have t1:Tells d1 (nb - 1 - i+1) nb N:=fun k h1 h2=>c1.get (upto_some (by omega) (by omega))
  have v1:=new_all t1 12 60 (by omega) (B (nb - 1 - i)) (hB.low _ hj) (hB.ok _ hj) (hB.lat _ hj) (hB.len _ hj)
  rw [<- hN _ hj] at v1
  have ba:=j7 (B:=B) hj
  refine dput_ (Jf (fA2 (Zp (ds:=(List.range nb).map fun k=>.lst (qDs (B k))) rfl rfl ba) rfl v1) rfl) rfl rfl c1 (by omega) fun d1' c1'=>?_
  simp only [zSet]
  have k1:=dc_as c1' (KQ (upto_none (by omega))) (upto_up hin)
  exact ⟨hin,d1',_,rfl,k1⟩
 ·rintro ρ ⟨-,d1,z,rfl,c1⟩
  rw [Yy] at c1
  rw [zy]
  exact Jn rfl fun k hk=>c1.get (upto_some (by omega) hk)
open RW (Py)
variable {mm:Nat}
def StF (mm:Nat) (d:D):Prop:=∃ (p q:Int) (x:Kw) (ps:List D),d=stp p q (.tup (.str x::ps))/\x≠"halt"/\Dk mm x ps
theorem stp_s {p q:Int}:StF mm (stp p q skD):=⟨p,q,"skip",[],rfl,by decide,.inl ⟨rfl,rfl⟩⟩
section
variable {B:Nat->List Rq} {nb:Nat} {g G:Nat->Nat}
theorem ly_st (hB:Bods mm B nb g G):∀ (m:Nat) (rs:List Rq) (p:Int) (s:Sx),oks mm nb rs->(∀ d∈s.2,StF mm d)->∀ d∈(lyS B m rs p s).2.2,StF mm d
 | 0,rs,p,s,_,h=>by rw [lyS];exact h
 | m+1,rs,p,s,ho,h=>by
  rw [lyS]
  suffices key:∀ (rs:List Rq) (q:Int×Sx),oks mm nb rs->(∀ d∈q.2.2,StF mm d)->∀ d∈(rs.foldl (Zg (lyS B m) B) q).2.2,StF mm d from key rs (p,s) ho h
  intro rs
  induction rs with
  | nil=>intro q _ h;exact h
  | cons r rs ih =>
   intro q ho h
   rw [oks] at ho
   rw [Pk]
   refine ih _ ho.2 ?_
   have app:∀ {l:List D} {e:List D},(∀ d∈l,StF mm d)->(∀ d∈e,StF mm d)->∀ d∈l++e,StF mm d:=fun h1 h2 d hd=>(QL.mp hd).elim (h1 d) (h2 d)
   cases r with
   | one x ps =>
    have o:=ho.1
    rw [Rq.ok] at o
    simp only [Zg]
    split
    ·exact h
    ·rename_i hx
     exact app h fun d hd=>by rw [Qs.mp hd];exact ⟨_,_,x,ps,rfl,hx,o.2.2.2.2⟩
   | call k =>
    simp only [Zg]
    exact ly_st hB m (B k) q.1 q.2 (hB.ok k (by have:=ho.1;rwa [Rq.ok] at this)) h
   | loop a =>
    have o:=ho.1
    rw [Rq.ok] at o
    simp only [Zg]
    refine app (ly_st hB m a _ _ o.1 (app h fun d hd=>?_)) fun d hd=>?_
    ·rw [Qs.mp hd];exact stp_s
    ·rw [Qs.mp hd];exact stp_s
   | either a b =>
    have o:=ho.1
    rw [Rq.ok] at o
    simp only [Zg]
    refine app (ly_st hB m b _ _ o.2.1 (ly_st hB m a _ _ o.1.1 h)) fun d hd=>?_
    simp only [Qc,Qn,or_false] at hd
    rcases hd with rfl | rfl <;> exact stp_s
def ansD (r:Int×Sx):D:=.tup [.int r.2.1,.lst r.2.2,.int r.1]
theorem laid_ok (hB:Bods2 mm B nb g G) (hr:rks g (B 0)<20) (hz:szs G (B 0)<=800000) (KM:Int):mq4 [.tup [.int KM,zX B nb]]=some (ansD (lyS B 20 (B 0) 0 (1,[]))):=by
 obtain ⟨N,hN0,hN⟩:=fix_ex (B:=B) (n:=nb) fun j hj=>⟨hB.ok j hj,hB.lat j hj⟩
 obtain ⟨l,hl,hg⟩:=places_ok hB hN
 have hL:Lay B nb N l:=⟨hg,fun k hk z m p s=>no_places hB.ok hN0 hN m (B k) p s (hB.ok k hk) (by rw [<- hN k hk];exact z)⟩
 have key:=fun a=>YQ hB.toBods hL (a:=a) 20 60 (by omega) (B 0) (hB.ok 0 hB.pos) hr 0 (1,[]) (by show 0+_<=_;omega)
 generalize lyS B 20 (B 0) 0 (1,[])=r at key ⊢
 refine wX rfl ?_
 unfold bq4
 refine mLaid_eq (b:=zX B nb) (l:=l) (Zp (ZH (z6 rfl)) rfl (zB (j:=1) rfl)) hl fun a=>⟨_,yF (ZP (zu (wl_ (z6 rfl)) (zu (wl_ (Zp (yB (Zp (ZH (z6 rfl)) rfl (zB (j:=1) rfl))) rfl (j7 (k:=0) hB.pos))) (zu (wl_ rfl) ZT))) (key a)),rfl⟩
end
open RW (Py Fi Sc wt wts names JF mulT)
variable {mm:Nat}
theorem if_t {c:Ev->Option Bool} {m1 m2:Ev->Option Out} {ρ:Ev} {T:Out->Prop} (e:c ρ=some true) (k:Wo (m1 ρ) T):Wo (mIf c m1 m2 ρ) T:=by rw [mIf_,e];exact k
theorem if_b {c:Ev->Option Bool} {m1 m2:Ev->Option Out} {ρ:Ev} {T:Out->Prop} {b:Bool} (e:c ρ=some b) (k1:b=true->Wo (m1 ρ) T) (k2:b=false->Wo (m2 ρ) T):Wo (mIf c m1 m2 ρ) T:=by
 rw [mIf_,e]
 cases b with
 | true=>exact k1 rfl
 | false=>exact k2 rfl
theorem orv {c1 c2:Ev->Option Bool} {ρ:Ev} {a b:Bool} (e1:c1 ρ=some a) (e:a=false->c2 ρ=some b):fOr c1 c2 ρ=some (a||b):=by
 rw [fOr_,e1]
 cases a with
 | true=>rfl
 | false=>exact e rfl
theorem andc {c1 c2:Ev->Option Bool} {ρ:Ev} {a b:Bool} (e1:c1 ρ=some a) (e:a=true->c2 ρ=some b):J5 c1 c2 ρ=some (a&&b):=by
 rw [fAnd_,e1]
 cases a with
 | true=>exact e rfl
 | false=>rfl
theorem lt_ {a b:Int}:dLt (.int a) (.int b)=some (.bl (decide (a<b))):=rfl
theorem gt_ {a b:Int}:dGt (.int a) (.int b)=some (.bl (decide (b<a))):=rfl
theorem sub_ {a b:Int}:JB (.int a) (.int b)=some (.int (a - b)):=rfl
theorem nilv {ρ:Ev}:ZL zt ρ=some (.lst []):=by rw [fLst_];exact Jg (ds:=[]) (yA (by simp))
theorem yL {ρ:Ev} {f f':Ev->Option D} {d d':D} (e:f ρ=some d) (e':f' ρ=some d'):Zo (ze f (ze f' zt)) ρ=some (.tup [d,d']):=by
 rw [fTup_,ZR,e,oB,ZR,e'];exact dTup_ (yA (by simp))
theorem atB {B:List D} {j:Nat} (h:j<B.length):atI B ((j:Nat):Int)=some (B.getD j .non):=zB (by simp [List.getD,h])
theorem mem_getD {B:List D} {j:Nat} (h:j<B.length):B.getD j .non∈B:=by
 simp only [List.getD,Qz h,Option.getD_some]
 exact PB h
theorem Ww (ns:List Int) (k:Int) (h0:0<=k) (hk:k<=1000):∃ v:Int,wy [.scr ns,.int k]=some (.int v):=by
 suffices h:Wo (wy [.scr ns,.int k]) fun d=>∃ v:Int,d=.int v by
  obtain ⟨d,e,v,rfl⟩:=h
  exact ⟨v,e⟩
 unfold wy bq18
 rw [yZ]
 refine ⟨rfl,?_⟩
 simp only [Zh,zMap,zLen,List.replicate,zApp,QK,Nat.reduceAdd,Nat.reduceSub]
 have el:∀ ρ:Ev,ρ[0]?.join=some (.scr ns)->fA j9 (zj true (zb 0)) ρ=some (.int (ns.length:Nat)):=fun ρ h=>by
  rw [fA_,fSeq_,show zb 0 ρ=some (.scr ns) from h,oB]
  show j9 (ns.map D.int)=_
  rw [gLen_,Ql]
 have tail:∀ v:Int,Wo (Zf (Zx 2 (f2 yN (f2 Yg (zb 2) (zb 2)) (fC (.int 2147483629)))) (Z1 (f2 yN (f2 Yg (f2 Ze (zb 2) (fC (.int 11))) (f2 Ze (zb 2) (fC (.int 3)))) (fC (.int 2147483587)))) [some (.scr ns),some (.int k),some (.int v)]) (Wl fun d=>∃ v:Int,d=.int v)\/¬ (-(2 ^ 64)<v/\v<2 ^ 64):=fun v=>by
  by_cases hv:-(2 ^ 64)<v/\v<2 ^ 64
  ·left
   rw [zF]
   refine yf (f2v (f2v rfl rfl (yz (JX hv.1 hv.2))) rfl (Z4 (by decide))) ?_
   simp only [zSet,zy]
   have m0:=QB (v*v) (show (2147483629:Int)≠0 by decide)
   have m1:=Qw (v*v) (show (0:Int)<2147483629 by decide)
   exact Jn (f2v (f2v (f2v rfl rfl rfl) (f2v rfl rfl rfl) (yz (JX (by omega) (by omega)))) rfl (Z4 (by decide))) ⟨_,rfl⟩
  ·exact .inr hv
 by_cases hlt:k<(ns.length:Nat)
 ·rw [zF]
  refine if_t (Zv (f2v rfl (el _ rfl) (by show some (D.bl (decide (k<((ns.length:Nat):Int))))=_;rw [KS hlt]))) ?_
  exact wT (Zp (ds:=ns.map .int) rfl rfl (Wx h0 hlt)) ⟨_,rfl⟩
 ·rw [zF]
  refine Jt (Zv (f2v rfl (el _ rfl) (by show some (D.bl (decide (k<((ns.length:Nat):Int))))=_;rw [KU hlt]))) ?_
  rw [Z2,zV,zy,zF]
  refine yf (f2v (f2v rfl rfl (yz (JX (by omega) (by omega)))) rfl rfl) ?_
  simp only [zSet,zy]
  rw [zF]
  by_cases hp:(0:Int)<(ns.length:Nat)
  ·refine if_t (Zv (f2v (el _ rfl) rfl (by rw [gt_,KS hp]))) ?_
   have q0:=QB (k*7) (show ((ns.length:Nat):Int)≠0 by omega)
   have q1:=Qw (k*7) hp
   refine yf (f2v (f2v (f2v (Zp (ds:=ns.map .int) rfl (f2v (f2v rfl rfl (yz (JX (by omega) (by omega)))) (el _ rfl) (Z4 hp)) (Wx q0 q1)) rfl (yz (mulT (by decide) (by decide)))) (f2v rfl rfl (yz (JX (by omega) (by omega)))) rfl) rfl (Z4 (by decide))) ?_
   simp only [zSet,zy]
   refine (tail _).resolve_right fun z=>z ?_
   have r0:=QB (ns.getD (k*7 % ((ns.length:Nat):Int)).toNat 0*48271+k*7919) (show (2147483647:Int)≠0 by decide)
   have r1:=Qw (ns.getD (k*7 % ((ns.length:Nat):Int)).toNat 0*48271+k*7919) (show (0:Int)<2147483647 by decide)
   exact ⟨by omega,by omega⟩
  ·refine Jt (Zv (f2v (el _ rfl) rfl (by rw [gt_,KU hp]))) ?_
   rw [Z2,zV,zy]
   exact (tail _).resolve_right fun z=>z ⟨by omega,by omega⟩
theorem at_mod {L:List D} {c:Int} (h:0<L.length):∃ d∈L,atI L (c % (L.length:Nat))=some d:=by
 have h0:=QB c (show ((L.length:Nat):Int)≠0 by omega)
 have h1:=Qw c (show (0:Int)<(L.length:Nat) by omega)
 obtain ⟨j,hj⟩:∃ j:Nat,c % (L.length:Nat)=(j:Nat):=⟨(c % (L.length:Nat)).toNat,by omega⟩
 have hl:j<L.length:=by omega
 exact ⟨L.getD j .non,mem_getD hl,by rw [hj];exact atB hl⟩
theorem ns_small:∀ x∈([0,1,0,-1,1,2,0,3,-2]:List Int),x.natAbs<=3:=by decide
theorem line_ok (c:Int) {KM:Nat} (hm:KM<=6):∃ ns:List Int,mq19 [.int c,.int (KM:Nat)]=some (.tup (ns.map .int))/\ns.length=KM+1/\∀ x∈ns,x.natAbs<=2000000:=by
 suffices h:Wo (mq19 [.int c,.int (KM:Nat)]) fun d=>∃ ns:List Int,d=.tup (ns.map .int)/\ns.length=KM+1/\∀ x∈ns,x.natAbs<=2000000 by
  obtain ⟨d,e,ns,rfl,q⟩:=h
  exact ⟨ns,e,q⟩
 unfold mq19 bq19
 rw [yZ]
 refine ⟨rfl,?_⟩
 simp only [Zh,zMap,zLen,List.replicate,zApp,QK,Nat.reduceAdd,Nat.reduceSub]
 rw [zF]
 refine new_ nilv (by simp) ?_
 simp only [zSet,zy]
 rw [zF,W8,rng1v (n:=KM+1) (f2v rfl rfl rfl) (by omega),oB]
 refine Jh (fun i ρ=>∃ (ns:List Int) (a b e:Option D),ρ=[some (.int c),some (.int (KM:Nat)),some (.lst (ns.map .int)),a,b,e]/\ns.length=i/\∀ x∈ns,x.natAbs<=2000000) ⟨[],_,_,_,rfl,rfl,fun x hx=>by cases hx⟩ ?_ ?_
 ·rintro i d ρ hd ⟨ns,a,b,e,rfl,hl,hb⟩
  obtain ⟨hi,rfl⟩:=Jo hd
  rw [Int.zero_add,jw,zV]
  simp only [zSet]
  have hii:((i:Nat):Int)*(i:Nat)=((i*i:Nat):Int):=by rw [Int.natCast_mul]
  have hpos:(0:Int)<=(i:Nat)*(i:Nat):=by rw [hii];omega
  rw [zF]
  refine yf (f2v (f2v (f2v (f2v rfl (f2v (f2v rfl rfl (yz (JX (by omega) (by omega)))) rfl yp) (dDivP_s (show (i:Nat)*(i:Nat)+3≠(0:Int) by omega))) rfl (yz (mulT (by decide) (by decide)))) (f2v rfl rfl (yz (JX (by omega) (by omega)))) yp) rfl (Z4 (by decide))) ?_
  simp only [zSet,zy]
  generalize (c.fdiv ((i:Nat)*(i:Nat)+3)*48271+(i:Nat)*69621) % 2147483647=v
  have q0:=QB v (show (9:Int)≠0 by decide)
  have q1:=Qw v (show (0:Int)<9 by decide)
  rw [zF]
  refine yf (d:=.int (([0,1,0,-1,1,2,0,3,-2]:List Int).getD (v % 9).toNat 0)) (Zp (ds:=([0,1,0,-1,1,2,0,3,-2]:List Int).map .int) rfl (f2v rfl rfl (Z4 (by decide))) (Wx q0 q1)) ?_
  simp only [zSet,zy]
  have hx0:(([0,1,0,-1,1,2,0,3,-2]:List Int).getD (v % 9).toNat 0).natAbs<=3:=by
   refine ns_small _ ?_
   have hlt:(v % 9).toNat<9:=by omega
   simp only [List.getD]
   rw [Qz (by simpa using hlt),Option.getD_some]
   exact PB _
  generalize (([0,1,0,-1,1,2,0,3,-2]:List Int).getD (v % 9).toNat 0)=x0 at hx0
  have fin:∀ x:Int,x.natAbs<=2000000->Wo (mUpd 2 YR (zb 5) [some (.int c),some (.int (KM:Nat)),some (.lst (ns.map .int)),some (.int (i:Nat)),some (.int v),some (.int x)]) fun o=>match o with
    | .nx ρ2=>∃ (ns:List Int) (a b e:Option D),ρ2=[some (.int c),some (.int (KM:Nat)),some (.lst (ns.map .int)),a,b,e]/\ns.length=i+1/\∀ x∈ns,x.natAbs<=2000000
    | .ct ρ2=>∃ (ns:List Int) (a b e:Option D),ρ2=[some (.int c),some (.int (KM:Nat)),some (.lst (ns.map .int)),a,b,e]/\ns.length=i+1/\∀ x∈ns,x.natAbs<=2000000
    | .bk ρ2=>gJ (Z1 (fA jk (zj true (zb 2)))) (Wl fun d=>∃ ns:List Int,d=.tup (ns.map .int)/\ns.length=KM+1/\∀ x∈ns,x.natAbs<=2000000) (.nx ρ2)
    | .rt r=>gJ (Z1 (fA jk (zj true (zb 2)))) (Wl fun d=>∃ ns:List Int,d=.tup (ns.map .int)/\ns.length=KM+1/\∀ x∈ns,x.natAbs<=2000000) (.rt r):=fun x hx=>by
   refine upd_ (d:=.int x) rfl rfl (W9 (JQ (by rw [Ql];omega))) ?_
   simp only [zSet]
   refine ⟨ns++[x],_,_,_,by rw [Q8];rfl,by simp [hl],fun y hy=>?_⟩
   rcases QL.mp hy with hy | hy
   ·exact hb y hy
   ·rw [Qs.mp hy];exact hx
  rw [zF]
  refine if_b (Zv (f2v (f2v (f2v rfl rfl (Ys (by decide) (by decide))) rfl (Z4 (by decide))) rfl jR)) (fun _=>?_) (fun _=>?_)
  ·rw [zF]
   have w0:=QB (v / 540) (show (1999999:Int)≠0 by decide)
   have w1:=Qw (v / 540) (show (0:Int)<1999999 by decide)
   refine yf (f2v (f2v (f2v rfl rfl (Ys (by decide) (by decide))) rfl (Z4 (by decide))) rfl sub_) ?_
   simp only [zSet,zy]
   refine if_b (Zv (f2v rfl rfl gt_)) (fun _=>?_) (fun _=>?_)
   ·have u0:=QB (v / 540 % 1999999 - 999999) (show (19:Int)≠0 by decide)
    have u1:=Qw (v / 540 % 1999999 - 999999) (show (0:Int)<19 by decide)
    refine yf (f2v (f2v rfl rfl (Z4 (by decide))) rfl sub_) ?_
    simp only [zSet,zy]
    exact fin _ (by omega)
   ·rw [Z2,zV,zy]
    exact fin _ (by omega)
  ·rw [Z2,zV,zy]
   exact fin _ (by omega)
 ·rintro ρ ⟨ns,a,b,e,rfl,hl,hb⟩
  rw [YX] at hl
  rw [zy]
  exact Jn (tupL rfl) ⟨ns,rfl,hl,hb⟩
theorem wts_ints:∀ ns:List Int,wts (ns.map .int)=9*ns.length
 | []=>by simp [wts]
 | n::ns=>by rw [Qq,wts,wts_ints ns,wt,Qg];omega;all_goals (intros;simp_all)
theorem Y9 {ds:List D}:wt (.tup ds)=wts ds:=by rw [wt]
theorem wt_lst {ds:List D}:wt (.lst ds)=wts ds:=by rw [wt]
theorem wt_int {i:Int}:wt (.int i)=8:=by simp [wt]
theorem js {x:Kw}:wt (.str x)=8:=by simp [wt]
theorem ne_nil {xs:List D} (h:j8 (.lst xs)=true):dNeD (.lst xs) (.lst [])=some (.bl (!xs.isEmpty)):=by
 unfold dNeD
 rw [KQ ⟨h,by decide⟩]
 unfold eqD
 cases xs with
 | nil=>rw [ya,yv,PyData.eqv];simp [PyData.eqvAll]
 | cons a t=>rw [ya,yv,ya,yv,PyData.eqv];simp [PyData.eqvAll]
open RW (Py Fi Sc wt wts names JF)
variable {mm:Nat}
mutual
def nd:D->Nat
 | .tup (.str _::ds)=>1+nds ds
 | .lst ds=>nds ds
 | _=>0
def nds:List D->Nat
 | []=>0
 | d::ds=>nd d+nds ds
end
theorem YY {x:Kw} {ds:List D}:nd (.tup (.str x::ds))=1+nds (.str x::ds):=by rw [nd,nds];simp [nd]
theorem Js {ds:List D}:nd (.lst ds)=nds ds:=by rw [nd]
theorem nd_int {i:Int}:nd (.int i)=0:=by simp [nd]
theorem Jr {x:Kw}:nd (.str x)=0:=by simp [nd]
theorem nds_app:∀ a b:List D,nds (a++b)=nds a+nds b
 | [],b=>by rw [Ps,nds];omega
 | d::a,b=>by rw [Pe,nds,nds,nds_app a b];omega
theorem nd_line:∀ ns:List Int,nd (.tup (ns.map .int))=0
 | []=>by simp [nd]
 | n::ns=>by simp [nd]
abbrev r0:Nat->Nat:=fun _=>0
def gL (mm nb f:Nat) (d:D):Prop:=∃ t:Rq,d=t.toD/\t.ok mm nb/\t.lat f/\t.rk r0<=1/\Fi 3 d/\(wt d<=150/\nd d<=1)/\((t=.loop []\/t=.either [] [])\/(∃ k,t=.call k)\/∃ x ps,t=.one x ps)
def YO (p:Nat×Int):D:=.tup [.int (p.1:Nat),.int p.2]
def Yu (KK:List (Nat×Int)):D:=.lst (KK.map YO)
structure LatOk (nb f:Nat) (KK:List (Nat×Int)):Prop where
 few:KK.length<=4
 few2:nb<=4
 mem:∀ p∈KK,f<=p.1/\p.1<nb
theorem lat_py (KK:List (Nat×Int)):j8 (Yu KK)=true:=by
 have h:Py 2 (Yu KK):=.lst fun d hd=>by
  obtain ⟨p,hp,rfl⟩:=Q3.mp hd
  refine Py.tup (n:=0) fun e he=>?_
  simp only [Qc,Qn,or_false] at he
  rcases he with rfl | rfl <;> exact .int _ _
 unfold j8 SeqAt.shaped
 rw [h.1,KS (Qv h.2 (by omega))];rfl
theorem yO (x:Kw) (ps:List D):(Rq.one x ps).toD=.tup (.str x::ps):=by rw [Rq.toD]
theorem Ym (k:Nat):(Rq.call k).toD=.tup [.str "call",.int (k:Nat)]:=by rw [Rq.toD]
theorem ym (a:List Rq):(Rq.loop a).toD=.tup [.str "loop",.lst (qDs a)]:=by rw [Rq.toD]
theorem ZU (a b:List Rq):(Rq.either a b).toD=.tup [.str "either",.lst (qDs a),.lst (qDs b)]:=by rw [Rq.toD]
theorem Jy {n:Nat} {ds:List D} (h:∀ r∈ds,Fi n r):Fi (n+1) (.tup ds):=.inr ⟨ds,.inl rfl,h⟩
theorem fi_lst {n:Nat} {ds:List D} (h:∀ r∈ds,Fi n r):Fi (n+1) (.lst ds):=.inr ⟨ds,.inr rfl,h⟩
theorem Wq {nb f:Nat} {x:Kw} {ps:List D} (hx:x≠"call"/\x≠"loop"/\x≠"either") (hn:names.contains x=true) (hp:ps.length<=10) (hl:∀ p∈ps,Lf p=true) (hf:∀ p∈ps,Fi 2 p) (hw:wt (.tup (.str x::ps))<=150) (hn2:nds ps<=0) (hk:Dk mm x ps):gL mm nb f (.tup (.str x::ps)):=by
 have hfi:Fi 3 (.tup (.str x::ps)):=Jy fun r hr=>by
  rcases Qc.mp hr with rfl | hr
  ·exact .str hn _
  ·exact hf r hr
 exact ⟨.one x ps,(yO x ps).symm,by rw [Rq.ok];exact ⟨hx,hp,hl,hfi.pyd.mono (by omega),hk⟩,by rw [Rq.lat];trivial,by rw [Rq.rk];omega,hfi,⟨hw,by rw [YY,nds,Jr];omega⟩,.inr (.inr ⟨_,_,rfl⟩)⟩
theorem row_call {nb f k:Nat} (h1:f<=k) (h2:k<nb) (hnb:nb<=4):gL mm nb f (.tup [.str "call",.int (k:Nat)]) :=
 ⟨.call k,(Ym k).symm,by rw [Rq.ok];exact h2,by rw [Rq.lat];exact h1,by rw [Rq.rk];exact Qh 1,Jy fun r hr=>by
  simp only [Qc,Qn,or_false] at hr
  rcases hr with rfl | rfl
  ·exact .str (by decide) _
  ·exact .int (Qv (m:=10) (by omega) (by decide)) _,⟨by simp only [Y9,wts,js,wt_int];omega,by simp only [YY,nds,Jr,nd_int];omega⟩,.inr (.inl ⟨_,rfl⟩)⟩
theorem fi_nil (n:Nat):Fi (n+1) (.lst []):=fi_lst fun r hr=>by cases hr
theorem row_loop {nb f:Nat}:gL mm nb f (.tup [.str "loop",.lst []]) :=
 ⟨.loop [],by rw [ym,qDs],by rw [Rq.ok,oks];exact ⟨trivial,by simp⟩,by rw [Rq.lat,YE];trivial,by rw [Rq.rk,rks];omega,Jy fun r hr=>by
  simp only [Qc,Qn,or_false] at hr
  rcases hr with rfl | rfl
  ·exact .str (by decide) _
  ·exact fi_nil 1,⟨by simp only [Y9,wts,js,wt_lst];omega,by simp only [YY,nds,Jr,Js];omega⟩,.inl (.inl rfl)⟩
theorem row_either {nb f:Nat}:gL mm nb f (.tup [.str "either",.lst [],.lst []]) :=
 ⟨.either [] [],by rw [ZU,qDs],by rw [Rq.ok,oks];exact ⟨⟨trivial,by simp⟩,trivial,by simp⟩,by rw [Rq.lat,YE];exact ⟨trivial,trivial⟩,by rw [Rq.rk,rks];omega,Jy fun r hr=>by
  simp only [Qc,Qn,or_false] at hr
  rcases hr with rfl | rfl | rfl
  ·exact .str (by decide) _
  ·exact fi_nil 1
  ·exact fi_nil 1,⟨by simp only [Y9,wts,js,wt_lst];omega,by simp only [YY,nds,Jr,Js];omega⟩,.inl (.inr rfl)⟩
theorem lenv {f:Ev->Option D} {ρ:Ev} {ds:List D} (h:f ρ=some (.lst ds)):fA j9 (zj true f) ρ=some (.int (ds.length:Nat)):=by rw [fA_,yB h,oB,gLen_]
theorem deed_ok (c:Int) {KM nb f:Nat} (hm:KM<=6) {KK:List (Nat×Int)} (hl:LatOk nb f KK):∃ d,mq20 [.int c,.int (KM:Nat),Yu KK]=some d/\gL KM nb f d:=by
 suffices h:Wo (mq20 [.int c,.int (KM:Nat),Yu KK]) (gL KM nb f) by
  obtain ⟨d,e,q⟩:=h
  exact ⟨d,e,q⟩
 unfold mq20 bq20
 rw [yZ]
 refine ⟨rfl,?_⟩
 simp only [Zh,zMap,zLen,List.replicate,zApp,QK,Nat.reduceAdd,Nat.reduceSub]
 rw [zF]
 refine yf (f2v (f2v rfl rfl (Ys (by decide) (by decide))) rfl (Z4 (by decide))) ?_
 simp only [zSet,zy]
 generalize c / 8 % 13=kd
 rw [zF]
 refine if_b (andc (Zv (f2v rfl rfl gt_)) fun _=>Zv (f2v rfl nilv (ne_nil (lat_py KK)))) (fun e=>?_) (fun _=>?_)
 ·simp only [QI,decide_eq_true_eq,Bool.not_eq_true',List.isEmpty_eq_false_iff,ne_eq,List.map_eq_nil_iff] at e
  have hpos:0<KK.length:=List.length_pos_iff.mpr e.2
  have ec:ZX 1 (zj true (zb 2)) (zP 5) Yn (Zo (ze (fC (.str "call")) (ze (fIx (zj false (zb 5)) (fC (.int 0))) zt))) [some (.int c),some (.int (KM:Nat)),some (Yu KK),some (.int kd),none]=some (.lst (KK.map fun p=>.tup [.str "call",.int (p.1:Nat)])):=by
   have:=yx (k:=1) (fl:=zj true (zb 2)) (u:=zP 5) (c:=Yn) (e:=Zo (ze (fC (.str "call")) (ze (fIx (zj false (zb 5)) (fC (.int 0))) zt))) (ρ:=[some (.int c),some (.int (KM:Nat)),some (Yu KK),some (.int kd),none]) (KK.map fun p=>(YO p,.tup [.str "call",.int (p.1:Nat)])) (fun ρ=>∃ z:Option D,ρ=[some (.int c),some (.int (KM:Nat)),some (Yu KK),some (.int kd),none,z])
    ((yB (ds:=KK.map YO) rfl).trans (by rw [QV];rfl)) (by rw [Ql];have:=hl.few;omega) ⟨none,rfl⟩ (by
     rintro p ρ hp ⟨z,rfl⟩
     obtain ⟨x,hx,rfl⟩:=Q3.mp hp
     exact ⟨_,rfl,rfl,yL rfl (Zp (ZH (z6 rfl)) rfl (zB (j:=0) rfl)),_,rfl⟩)
   rw [this,QV]
   rfl
  obtain ⟨d,hd,ed⟩:=at_mod (L:=KK.map fun p=>.tup [.str "call",.int (p.1:Nat)]) (c:=c / 104) (by rw [Ql];exact hpos)
  rw [Ql] at ed
  obtain ⟨p,hp,rfl⟩:=Q3.mp hd
  refine wT (Jf (Zp (yB ec) (f2v (f2v rfl rfl (Ys (by decide) (by decide))) (lenv (ds:=KK.map YO) rfl) (by rw [Ql];exact Z4 (by omega))) ed) rfl) ?_
  exact row_call (hl.mem p hp).1 (hl.mem p hp).2 hl.few2
 ·rw [Z2,zV,zy,zF]
  refine if_b (Zv (f2v rfl rfl jR)) (fun e=>?_) (fun _=>?_)
  ·exact wT (tup3v rfl nilv nilv) row_either
  ·rw [Z2,zV,zy,zF]
   refine if_b (Zv (f2v rfl rfl jR)) (fun e=>?_) (fun _=>?_)
   ·exact wT (yL rfl nilv) row_loop
   ·rw [Z2,zV,zy,zF]
    refine if_b (andc (Zv (f2v rfl rfl jR)) fun _=>Zv (f2v (f2v (f2v rfl rfl (Ys (by decide) (by decide))) rfl (Z4 (by decide))) rfl jR)) (fun e=>?_) (fun _=>?_)
    ·exact wT (Jf (tup1_ rfl) rfl) (Wq (ps:=[]) (by decide) (by decide) (by simp) (fun p hp=>by cases hp) (fun p hp=>by cases hp) (by simp only [Y9,wts,js];omega) (by simp only [nds];omega) (.inr (.inl ⟨rfl,rfl⟩)))
    ·rw [Z2,zV,zy,zF]
     refine if_b (orv (Zv (f2v rfl rfl jR)) fun _=>Zv (f2v rfl rfl jR)) (fun e=>?_) (fun e=>?_)
     ·exact wT (Jf (tup1_ rfl) rfl) (Wq (ps:=[]) (by decide) (by decide) (by simp) (fun p hp=>by cases hp) (fun p hp=>by cases hp) (by simp only [Y9,wts,js];omega) (by simp only [nds];omega) (.inl ⟨rfl,rfl⟩))
     ·rw [Z2,zV,zy,zF]
      simp only [PX,decide_eq_false_iff_not] at e
      have hpos:(0:Int)<(KM:Nat):=by omega
      have q0:=QB (c / 104) (show ((KM:Nat):Int)≠0 by omega)
      have q1:=Qw (c / 104) hpos
      refine yf (f2v (f2v rfl rfl (Ys (by decide) (by decide))) rfl (Z4 hpos)) ?_
      simp only [zSet,zy]
      generalize c / 104 % ((KM:Nat):Int)=box at q0 q1
      have fb:Fi 2 (.int box):=.int (Qv (m:=10) (by omega) (by decide)) _
      rw [zF]
      refine if_b (andc (Zv (f2v rfl rfl gt_)) fun _=>Zv (f2v rfl rfl lt_)) (fun _=>?_) (fun _=>?_)
      ·refine wT (Jf (yL rfl rfl) rfl) (Wq (ps:=[.int box]) (by decide) (by decide) (by simp) (fun p hp=>?_) (fun p hp=>?_) (by simp only [Y9,wts,js,wt_int];omega) (by simp only [nds,nd_int];omega) (.inr (.inr (.inl ⟨box.toNat,rfl,by rw [P0 q0],by omega⟩))))
       ·rw [Qs.mp hp];rfl
       ·rw [Qs.mp hp];exact fb
      ·rw [Z2,zV,zy]
       obtain ⟨ns,el,hln,hx⟩:=line_ok (c / 13) hm
       refine wT (Jf (tup3v rfl rfl (fA2 (f2v rfl rfl (Ys (by decide) (by decide))) rfl el)) (by simp [D.flat,Z5,Jx])) (Wq (ps:=[.int box,.tup (ns.map .int)]) (by decide) (by decide) (by simp) (fun p hp=>?_) (fun p hp=>?_) (by simp only [Y9,wts,js,wt_int,wts_ints];omega) (by simp only [nds,nd_int,nd_line];omega) (.inr (.inr (.inr ⟨box.toNat,ns,rfl,by rw [P0 q0],by omega,hln,hx⟩))))
       ·simp only [Qc,Qn,or_false] at hp
        rcases hp with rfl | rfl <;> rfl
       ·simp only [Qc,Qn,or_false] at hp
        rcases hp with rfl | rfl
        ·exact fb
        ·refine Jy fun r hr=>?_
         obtain ⟨x,hx',rfl⟩:=Q3.mp hr
         exact .int (Qv (hx x hx') (by decide)) _
variable {mm:Nat}
def Gq (mm nb f n:Nat) (d:D):Prop:=∃ t:Rq,d=t.toD/\t.ok mm nb/\t.lat f/\t.rk r0<=n/\Fi (2*n+3) d
section
variable {nb f:Nat}
theorem Gq.mono {n m:Nat} {d:D} (h:Gq mm nb f n d) (hm:n<=m):Gq mm nb f m d:=by
 obtain ⟨t,a,b,c,e,g⟩:=h
 exact ⟨t,a,b,c,by omega,g.mono (by omega)⟩
theorem gL.gq {d:D} (h:gL mm nb f d) {n:Nat} (hn:1<=n):Gq mm nb f n d:=by
 obtain ⟨t,a,b,c,e,g,_⟩:=h
 exact ⟨t,a,b,c,by omega,g.mono (by omega)⟩
theorem J2 {n:Nat}:∀ {ds:List D},(∀ r∈ds,Gq mm nb f n r)->∃ ts:List Rq,ds=qDs ts/\oks mm nb ts/\YE f ts/\rks r0 ts<=n/\ts.length=ds.length
 | [],_=>⟨[],by rw [qDs],by rw [oks];trivial,by rw [YE];trivial,by rw [rks];omega,rfl⟩
 | d::ds,h=>by
  obtain ⟨t,a,b,c,e,_⟩:=h d Qt
  obtain ⟨ts,a',b',c',e',l'⟩:=J2 fun r hr=>h r (Qe _ hr)
  exact ⟨t::ts,by rw [qDs,<- a,<- a'],by rw [oks];exact ⟨b,b'⟩,by rw [YE];exact ⟨c,c'⟩,by rw [rks];omega,by simp [l']⟩
theorem gq_fi {n:Nat} {ds:List D} (h:∀ r∈ds,Gq mm nb f n r):Fi (2*n+4) (.lst ds):=fi_lst fun r hr=>by obtain ⟨_,_,_,_,_,g⟩:=h r hr;exact g
theorem gq_loop {n:Nat} {ds:List D} (hl:ds.length<=100) (h:∀ r∈ds,Gq mm nb f n r):Gq mm nb f (n+1) (.tup [.str "loop",.lst ds]):=by
 obtain ⟨ts,rfl,b,c,e,l⟩:=J2 h
 refine ⟨.loop ts,(ym ts).symm,by rw [Rq.ok];exact ⟨b,by omega⟩,by rw [Rq.lat];exact c,by rw [Rq.rk];omega,?_⟩
 refine Jy (n:=2*n+4) fun r hr=>?_
 simp only [Qc,Qn,or_false] at hr
 rcases hr with rfl | rfl
 ·exact .str (by decide) _
 ·exact gq_fi h
theorem j5 {n:Nat} {as bs:List D} (la:as.length<=100) (ha:∀ r∈as,Gq mm nb f n r) (lb:bs.length<=100) (hb:∀ r∈bs,Gq mm nb f n r):Gq mm nb f (n+1) (.tup [.str "either",.lst as,.lst bs]):=by
 obtain ⟨ts,rfl,b,c,e,l⟩:=J2 ha
 obtain ⟨us,rfl,b',c',e',l'⟩:=J2 hb
 refine ⟨.either ts us,(ZU ts us).symm,by rw [Rq.ok];exact ⟨⟨b,by omega⟩,b',by omega⟩,by rw [Rq.lat];exact ⟨c,c'⟩,by rw [Rq.rk];omega,?_⟩
 refine Jy (n:=2*n+4) fun r hr=>?_
 simp only [Qc,Qn,or_false] at hr
 rcases hr with rfl | rfl | rfl
 ·exact .str (by decide) _
 ·exact gq_fi ha
 ·exact gq_fi hb
def FrOk (mm nb f m n:Nat) (fr:Fr):Prop:=(fr.x="loop"/\fr.pre=[]/\fr.post=[])\/(fr.x="either"/\fr.pre=[]/\fr.post=[.lst []])\/(fr.x="either"/\fr.post=[]/\∃ a,fr.pre=[.lst a]/\a.length<=m/\∀ r∈a,Gq mm nb f n r)
def Fq (mm nb f dp m:Nat):Nat->List Fr->Prop
 | n,[]=>n=dp
 | n,fr::fs=>FrOk mm nb f m n fr/\fr.done.length+1<=m/\(∀ r∈fr.done,Gq mm nb f (n+1) r)/\Fq mm nb f dp m (n+1) fs
structure Zt (mm nb f dp m n:Nat) (top:List D) (fs:List Fr):Prop where
 len:top.length<=m
 gq:∀ r∈top,Gq mm nb f n r
 pos:1<=n
 fq:Fq mm nb f dp m n fs
variable {dp:Nat}
theorem FrOk.up {m n:Nat} {fr:Fr} (h:FrOk mm nb f m n fr):FrOk mm nb f (m+1) n fr:=by
 rcases h with h | h | ⟨h1,h2,a,h3,h4,h5⟩
 ·exact .inl h
 ·exact .inr (.inl h)
 ·exact .inr (.inr ⟨h1,h2,a,h3,by omega,h5⟩)
theorem Fq.up {m:Nat}:∀ {n:Nat} {fs:List Fr},Fq mm nb f dp m n fs->Fq mm nb f dp (m+1) n fs
 | n,[],h=>h
 | n,fr::fs,⟨a,b,c,d⟩=>⟨a.up,by omega,c,d.up⟩
theorem Fq.sum {m:Nat}:∀ {n:Nat} {fs:List Fr},Fq mm nb f dp m n fs->n+fs.length=dp
 | n,[],h=>h
 | n,fr::fs,⟨_,_,_,d⟩=>by have:=d.sum;simp only [Qg];omega
theorem Zt.up {m n:Nat} {top:List D} {fs:List Fr} (z:Zt mm nb f dp m n top fs):Zt mm nb f dp (m+1) n top fs:=⟨Nat.le_succ_of_le z.len,z.gq,z.pos,z.fq.up⟩
theorem Zt.row {m n:Nat} {top:List D} {fr:Fr} {fs:List Fr} (z:Zt mm nb f dp m n top (fr::fs)) (hm:m<=100):Zt mm nb f dp m (n+1) (shut fr top) fs:=by
 obtain ⟨a,b,c,d⟩:=z.fq
 refine ⟨?_,fun r hr=>?_,by omega,d⟩
 ·unfold shut;rw [Qd];simp only [Qg,Qy];omega
 ·unfold shut at hr
  rcases QL.mp hr with hr | hr
  ·exact c r hr
  ·rw [Qs.mp hr]
   have hl:=z.len
   rcases a with ⟨h1,h2,h3⟩ | ⟨h1,h2,h3⟩ | ⟨h1,h2,e,h3,h4,h5⟩
   ·rw [h1,h2,h3];exact gq_loop (by omega) z.gq
   ·rw [h1,h2,h3];exact j5 (by omega) z.gq (by simp) fun r hr=>by cases hr
   ·rw [h1,h2,h3];exact j5 (by omega) h5 (by omega) z.gq
theorem Zt.shut {m:Nat} (hm:m<=100):∀ {fs:List Fr} {n:Nat} {top:List D},Zt mm nb f dp m n top fs->(ZF top fs).length<=m/\∀ r∈ZF top fs,Gq mm nb f dp r
 | [],n,top,z=>by
  have e:n=dp:=z.fq
  subst e
  exact ⟨z.len,z.gq⟩
 | fr::fs,n,top,z=>by rw [ZF];exact Zt.shut hm (z.row hm)
theorem jU:∀ (fs:List Fr) (top:List D),wts (ZF top fs)=wts top+wts (ZF [] fs)
 | [],top=>by rw [ZF,ZF];simp only [wts];omega
 | fr::fs,top=>by
  rw [ZF,ZF,jU fs (M.shut fr top),jU fs (M.shut fr [])]
  unfold M.shut
  simp only [JF,wts,Y9,wt_lst]
  omega
theorem j0:∀ (fs:List Fr) (top:List D),nds (ZF top fs)=nds top+nds (ZF [] fs)
 | [],top=>by rw [ZF,ZF];simp only [nds];omega
 | fr::fs,top=>by
  rw [ZF,ZF,j0 fs (M.shut fr top),j0 fs (M.shut fr [])]
  unfold M.shut
  simp only [nds_app,nds,YY,Js]
  omega
theorem inV2 {x:Kw} (h1:x≠"either") (h2:x≠"loop"):inV (.str x) jG=false:=by
 unfold inV jG
 simp only [Pm,List.any_nil,Bool.or_false,PX]
 exact ⟨by simp [eqV];exact fun e=>h1 e.symm,by simp [eqV];exact fun e=>h2 e.symm⟩
theorem add_ok {m n:Nat} {top:List D} {fs:List Fr} {d:D} (z:Zt mm nb f dp m n top fs) (hd:gL mm nb f d) (hm:m<100) (hdp:dp<=10):∃ top' fs' n',addQ (dp:Nat) d top fs=some (top',fs')/\Zt mm nb f dp (m+1) n' top' fs'/\ZF top' fs'=ZF (top++[d]) fs:=by
 have hg:=hd.gq z.pos
 have hl:=z.len
 have hs:=z.fq.sum
 have zup:Zt mm nb f dp (m+1) n (top++[d]) fs:=⟨by rw [Qd];simp only [Qg,Qy];omega,fun r hr=>by
  rcases QL.mp hr with hr | hr
  ·exact z.gq r hr
  ·rw [Qs.mp hr];exact hg,z.pos,z.fq.up⟩
 have htop:top.length<Kg:=JQ (by omega)
 obtain ⟨t,rfl,ok,_,_,_,_,hk⟩:=hd
 have hn:=z.pos
 have fit:∀ {x:Kw} {ps:List D},FrOk mm nb f (m+1) (n - 1) ⟨top,x,[],ps⟩->((fs.length+1:Nat):Int)<(dp:Nat)->Zt mm nb f dp (m+1) (n - 1) [] (⟨top,x,[],ps⟩::fs):=fun hF hlt =>
  ⟨by simp,fun r hr=>(by cases hr),by omega,hF,by simp only;omega,fun r hr=>by rw [show n - 1+1=n by omega];exact z.gq r hr,by rw [show n - 1+1=n by omega];exact z.fq.up⟩
 rcases hk with (rfl | rfl) | ⟨k,rfl⟩ | ⟨x,ps,rfl⟩
 ·rw [ym,qDs] at zup ⊢
  unfold addQ
  simp only
  rw [KQ ⟨htop,by omega,by simp⟩]
  by_cases ho:inV (.str "loop") jG=true/\((fs.length+1:Nat):Int)<(dp:Nat)
  ·rw [KQ ho,KQ ⟨by simp,by simp⟩]
   exact ⟨_,_,n - 1,rfl,fit (.inl ⟨rfl,rfl,rfl⟩) ho.2,by rw [ZF];rfl⟩
  ·rw [KR ho]
   exact ⟨_,_,n,rfl,zup,rfl⟩
 ·rw [ZU,qDs] at zup ⊢
  unfold addQ
  simp only
  rw [KQ ⟨htop,by omega,by simp⟩]
  by_cases ho:inV (.str "either") jG=true/\((fs.length+1:Nat):Int)<(dp:Nat)
  ·rw [KQ ho,KQ ⟨by simp,by simp⟩]
   exact ⟨_,_,n - 1,rfl,fit (.inr (.inl ⟨rfl,rfl,rfl⟩)) ho.2,by rw [ZF];rfl⟩
  ·rw [KR ho]
   exact ⟨_,_,n,rfl,zup,rfl⟩
 ·rw [Ym] at zup ⊢
  unfold addQ
  simp only
  rw [KQ ⟨htop,by omega,by simp⟩,KR (fun h=>by rw [inV2 (by decide) (by decide)] at h;cases h.1)]
  exact ⟨_,_,n,rfl,zup,rfl⟩
 ·rw [Rq.ok] at ok
  rw [yO] at zup ⊢
  unfold addQ
  simp only
  rw [KQ ⟨htop,by omega,by omega⟩,KR (fun h=>by rw [inV2 ok.1.2.2 ok.1.2.1] at h;cases h.1)]
  exact ⟨_,_,n,rfl,zup,rfl⟩
theorem pop_ok {m n:Nat} {top:List D} {fs:List Fr} (z:Zt mm nb f dp m n top fs) (hm:m<=100) (hp:0<fs.length):∃ top' fs' n',popQ top fs=some (top',fs')/\Zt mm nb f dp m n' top' fs'/\ZF top' fs'=ZF top fs:=by
 cases fs with
 | nil=>simp at hp
 | cons fr fs =>
  obtain ⟨a,b,c,d⟩:=id z.fq
  rcases a with ⟨h1,h2,h3⟩ | ⟨h1,h2,h3⟩ | ⟨h1,h2,e,h3,h4,h5⟩
  ·refine ⟨_,_,n+1,by rw [popQ,h3],z.row hm,by rw [ZF]⟩
  ·refine ⟨[],⟨fr.done,fr.x,fr.pre++[.lst top],[]⟩::fs,n,by rw [popQ,h3],⟨by simp,fun r hr=>(by cases hr),z.pos,.inr (.inr ⟨h1,rfl,top,by rw [h2];rfl,z.len,z.gq⟩),b,c,d⟩,?_⟩
   rw [ZF,ZF]
   unfold M.shut
   simp only
   rw [h2,h3]
   rfl
  ·refine ⟨_,_,n+1,by rw [popQ,h2],z.row hm,by rw [ZF]⟩
def Draws (mm nb f:Nat) (ρ:Ev) (F c1 c2:Ev->Option D):Prop:=∀ (u c:Int),∃ (d k1:D) (k:Int),F ((evQ ρ u).set 8 (some (.int c)))=some d/\gL mm nb f d/\c1 (((evQ ρ u).set 8 (some (.int c))).set 9 (some d))=some k1/\c2 ((((evQ ρ u).set 8 (some (.int c))).set 9 (some d)).set 10 (some k1))=some (.int k)
theorem step_ok {ρ:Ev} {F c1 c2:Ev->Option D} (hD:Draws mm nb f ρ F c1 c2) {m n:Nat} {top:List D} {fs:List Fr} {c u KN:Int} (z:Zt mm nb f dp m n top fs) (hm:m<100) (hdp:dp<=10):∃ top' fs' n' u',stepQ (dp:Nat) KN ρ F c1 c2 c top fs u=some ((top',fs'),u')/\Zt mm nb f dp (m+1) n' top' fs'/\wts (ZF top' fs')<=wts (ZF top fs)+151/\nds (ZF top' fs')<=nds (ZF top fs)+1:=by
 unfold stepQ
 by_cases hc:c % 8=0/\0<fs.length
 ·rw [KQ hc]
  obtain ⟨top',fs',n',e,z',hcl⟩:=pop_ok z (by omega) hc.2
  exact ⟨top',fs',n',u,by rw [e];rfl,z'.up,by rw [hcl];omega,by rw [hcl];omega⟩
 ·rw [KR hc]
  obtain ⟨d,k1,k,e1,hd,e2,e3⟩:=hD u c
  have hr:isRowT d=true:=by
   obtain ⟨t,rfl,_⟩:=hd
   cases t with
   | one x ps=>rw [yO];rfl
   | call k=>rw [Ym];rfl
   | loop a=>rw [ym];rfl
   | either a b=>rw [ZU];rfl
  rw [e1,oB,KQ hr,e2,oB,e3,oB,asI_,oB]
  by_cases hu:u+k<=KN
  ·rw [KQ hu]
   obtain ⟨top',fs',n',e,z',hcl⟩:=add_ok z hd hm hdp
   obtain ⟨_,_,_,_,_,_,hw,_⟩:=hd
   refine ⟨top',fs',n',u+k,by rw [e];rfl,z',?_,?_⟩
   ·rw [hcl,jU fs (top++[d]),jU fs top,JF]
    simp only [wts]
    omega
   ·rw [hcl,j0 fs (top++[d]),j0 fs top,nds_app]
    simp only [nds]
    omega
  ·rw [KR hu]
   exact ⟨top,fs,n,u,rfl,z.up,by omega,by omega⟩
theorem goQ_ok {ρ:Ev} {F c1 c2:Ev->Option D} (hD:Draws mm nb f ρ F c1 c2) {KN:Int} (hdp:dp<=10):∀ (cs:List Int) (m n:Nat) (top:List D) (fs:List Fr) (u:Int),Zt mm nb f dp m n top fs->m+cs.length<=100->∃ out u',goQ (dp:Nat) KN ρ F c1 c2 cs top fs u=some (out,u')/\out.length<=m+cs.length/\(∀ r∈out,Gq mm nb f dp r)/\wts out<=wts (ZF top fs)+151*cs.length/\nds out<=nds (ZF top fs)+cs.length
 | [],m,n,top,fs,u,z,hm=>by
  obtain ⟨h1,h2⟩:=z.shut (by simp at hm;omega)
  exact ⟨_,u,by rw [goQ],by simpa using h1,h2,by simp,by simp⟩
 | c::cs,m,n,top,fs,u,z,hm=>by
  simp only [Qg] at hm
  obtain ⟨top',fs',n',u',e,z',hw,hn⟩:=step_ok (c:=c) (u:=u) (KN:=KN) hD z (by omega) hdp
  obtain ⟨out,u2,e2,hl,hg,hw2,hn2⟩:=goQ_ok hD hdp cs (m+1) n' top' fs' u' z' (by omega)
  refine ⟨out,u2,?_,by simp only [Qg];omega,hg,by simp only [Qg];omega,by simp only [Qg];omega⟩
  rw [goQ,e,oB]
  exact e2
end
variable {mm:Nat}
theorem eqD_ii (a b:Int):∃ w:Bool,dEqD (.int a) (.int b)=some (.bl w):=by
 have h:∀ i:Int,j8 (.int i)=true:=fun i=>by
  unfold j8 SeqAt.shaped
  rw [(Py.int i 0).1,KS (Qv (Py.int i 0).2 (by omega))];rfl
 exact ⟨_,by unfold dEqD;rw [KQ ⟨h a,h b⟩]⟩
theorem cost_comp {nb f:Nat} {d:D} (hd:gL mm nb f d):∀ (KK:List (Nat×Int)) (ρ:Ev),ρ.length=12->ρ[9]?=some (some d)->∃ vs:List Int,Yh (zP 11) (J5 (zI (f2 ZJ (fIx (zj false (zb 9)) (fC (.int 0))) (fC (.str "call")))) (zI (f2 dEqD (fIx (zj false (zb 11)) (fC (.int 0))) (fIx (zj false (zb 9)) (fC (.int 1)))))) (fIx (zj false (zb 11)) (fC (.int 1))) (KK.map YO) ρ=some (vs.map .int)/\vs.length<=KK.length
 | [],ρ,_,_=>⟨[],rfl,Qh _⟩
 | p::KK,ρ,hl,h9=>by
  have l1:(ρ.set 11 (some (YO p))).length=12:=by simpa using hl
  have h9':(ρ.set 11 (some (YO p)))[9]?=some (some d):=by rw [zd (by decide)];exact h9
  have h11:(ρ.set 11 (some (YO p)))[11]?=some (some (YO p)):=zH (by omega)
  obtain ⟨vs,e,hv⟩:=cost_comp hd KK _ l1 h9'
  have et:∃ b,J5 (zI (f2 ZJ (fIx (zj false (zb 9)) (fC (.int 0))) (fC (.str "call")))) (zI (f2 dEqD (fIx (zj false (zb 11)) (fC (.int 0))) (fIx (zj false (zb 9)) (fC (.int 1))))) (ρ.set 11 (some (YO p)))=some b:=by
   obtain ⟨t,rfl,ok,_,_,_,_,hk⟩:=hd
   rcases hk with (rfl | rfl) | ⟨k,rfl⟩ | ⟨x,ps,rfl⟩
   ·rw [ym] at h9'
    exact ⟨_,andc (kno h9' (by decide)) (b:=false) fun z=>by cases z⟩
   ·rw [ZU] at h9'
    exact ⟨_,andc (kno h9' (by decide)) (b:=false) fun z=>by cases z⟩
   ·rw [Ym] at h9'
    obtain ⟨w,ew⟩:=eqD_ii (p.1:Nat) (k:Nat)
    exact ⟨_,andc (kis h9') fun _=>Zv (f2v (Zp (ZH (z6 h11)) rfl (zB (j:=0) rfl)) (Zp (ZH (z6 h9')) rfl (zB (j:=1) rfl)) ew)⟩
   ·rw [Rq.ok] at ok
    rw [yO] at h9'
    exact ⟨_,andc (kno h9' ok.1.1) (b:=false) fun z=>by cases z⟩
  obtain ⟨b,eb⟩:=et
  rw [Qq,Yh,zP,oB,eb,oB]
  cases b with
  | true =>
   rw [KQ rfl,Zp (d:=.int p.2) (ZH (z6 h11)) rfl (zB (j:=1) rfl),oB,e]
   exact ⟨p.2::vs,rfl,by simp;omega⟩
  | false =>
   rw [KR (by simp),e]
   exact ⟨vs,rfl,by simp;omega⟩
theorem draws_ok {nb f KM:Nat} (hm:KM<=6) {KK:List (Nat×Int)} (hl:LatOk nb f KK) (cells:D) (deep KN:Int):Draws KM nb f (Zh 11 [cells,.int (KM:Nat),Yu KK,.int deep,.int KN]) (fA mq20 (ze (zb 8) (ze (zb 1) (ze (zb 2) zt)))) (fA YZ (zj true (ZX 1 (zj true (zb 2)) (zP 11) (J5 (zI (f2 ZJ (fIx (zj false (zb 9)) (fC (.int 0))) (fC (.str "call")))) (zI (f2 dEqD (fIx (zj false (zb 11)) (fC (.int 0))) (fIx (zj false (zb 9)) (fC (.int 1)))))) (fIx (zj false (zb 11)) (fC (.int 1)))))) (f2 Ze (zb 10) (fA gk (ze (Yo (f2 wI (fIx (zj false (zb 9)) (fC (.int 0))) (fC (.str "call")))) zt))):=by
 intro u c
 obtain ⟨d,ed,hd⟩:=deed_ok c hm hl
 obtain ⟨vs,ev,hv⟩:=cost_comp hd KK ([some cells,some (.int (KM:Nat)),some (Yu KK),some (.int deep),some (.int KN),none,none,some (.int u),some (.int c),some d,none]++List.replicate 1 none) rfl rfl
 have en:∃ b:Bool,f2 wI (fIx (zj false (zb 9)) (fC (.int 0))) (fC (.str "call")) [some cells,some (.int (KM:Nat)),some (Yu KK),some (.int deep),some (.int KN),none,none,some (.int u),some (.int c),some d,some (.int vs.sum)]=some (.bl b):=by
  obtain ⟨t,rfl,_⟩:=hd
  have key:∀ (x:Kw) (ps:List D),t.toD=.tup (.str x::ps)->_:=fun x ps e=>(⟨_,f2v (Y5 (x:=x) (ps:=ps) (by rw [e];rfl)) rfl rfl⟩:∃ b:Bool,f2 wI (fIx (zj false (zb 9)) (fC (.int 0))) (fC (.str "call")) [some cells,some (.int (KM:Nat)),some (Yu KK),some (.int deep),some (.int KN),none,none,some (.int u),some (.int c),some t.toD,some (.int vs.sum)]=some (.bl b))
  cases t with
  | one x ps=>exact key _ _ (yO x ps)
  | call k=>exact key _ _ (Ym k)
  | loop a=>exact key _ _ (ym a)
  | either a b=>exact key _ _ (ZU a b)
 obtain ⟨b,eb⟩:=en
 refine ⟨d,.int vs.sum,vs.sum+(if b then 1 else 0),fA3 rfl rfl rfl ed,hd,?_,?_⟩
 ·show fA YZ _ [some cells,some (.int (KM:Nat)),some (Yu KK),some (.int deep),some (.int KN),none,none,some (.int u),some (.int c),some d,none]=_
  have hfew:=hl.few
  have ec:ZX 1 (zj true (zb 2)) (zP 11) (J5 (zI (f2 ZJ (fIx (zj false (zb 9)) (fC (.int 0))) (fC (.str "call")))) (zI (f2 dEqD (fIx (zj false (zb 11)) (fC (.int 0))) (fIx (zj false (zb 9)) (fC (.int 1)))))) (fIx (zj false (zb 11)) (fC (.int 1))) [some cells,some (.int (KM:Nat)),some (Yu KK),some (.int deep),some (.int KN),none,none,some (.int u),some (.int c),some d,none]=some (.lst (vs.map .int)):=by
   rw [gt,yB (ds:=KK.map YO) rfl,oB,ev,oB]
   exact Jg (yA (by rw [Ql];omega))
  rw [fA_,yB ec,oB]
  exact gSum_
 ·exact f2v (x:=.int vs.sum) (y:=.int (if b then 1 else 0)) rfl (fA1 (Jf eb rfl) rfl) rfl
theorem body_ok {nb f KM dp:Nat} (hm:KM<=6) {KK:List (Nat×Int)} (hl:LatOk nb f KK) {cs:List Int} (hc:cs.length<=20) (hd1:1<=dp) (hd2:dp<=10) (KN:Int):∃ (out:List D) (u:Int),mq21 [.lst (cs.map .int),.int (KM:Nat),Yu KK,.int (dp:Nat),.int KN]=some (.tup [.lst out,.int u])/\out.length<=20/\(∀ r∈out,Gq KM nb f dp r)/\wts out<=151*cs.length/\nds out<=cs.length:=by
 obtain ⟨out,u,e,h1,h2,h3,h4⟩:=goQ_ok (draws_ok hm hl (.lst (cs.map .int)) (dp:Nat) KN) (KN:=KN) hd2 cs 0 dp [] [] 0 ⟨by simp,fun r hr=>(by cases hr),hd1,rfl⟩ (by omega)
 refine ⟨out,u,?_,by omega,h2,by simpa [ZF,wts] using h3,by simpa [ZF,nds] using h4⟩
 refine wX rfl ?_
 unfold bq21 mB15
 show Option.bind (J1 (cs.map .int)) _=_
 rw [intsD_map,oB]
 show Option.bind (some ((dp:Nat):Int)) _=_
 rw [oB]
 show Option.bind (some KN) _=_
 rw [oB,KQ (by rfl),e]
 rfl
variable {mm:Nat}
theorem fA5 {ρ:Ev} {fa fb fc fd fe:Ev->Option D} {x y z t w d:D} {g:List D->Option D} (h1:fa ρ=some x) (h2:fb ρ=some y) (h3:fc ρ=some z) (h4:fd ρ=some t) (h5:fe ρ=some w) (e:g [x,y,z,t,w]=some d):fA g (ze fa (ze fb (ze fc (ze fd (ze fe zt))))) ρ=some d:=by
 rw [fA_,ZR,h1,oB,ZR,h2,oB,ZR,h3,oB,ZR,h4,oB,ZR,h5];exact e
def hb (n k:Nat):Nat:=if k=0 then (if n=1 then 6 else 3) else 2
structure BodG (mm n k:Nat) (ds:List D):Prop where
 len:ds.length<=20
 gq:∀ r∈ds,Gq mm n (k+1) (hb n k) r
 wt:wts ds<=2500
 nd:nds ds<=if k=0 then 20 else 4
theorem wrap_v {ρ:Ev} {d:D} (h:ρ[12]?=some (some d)):ZL (ze (Zo (ze (fC (.str "either")) (ze (ZL zt) (ze (ZL (ze (Zo (ze (fC (.str "loop")) (ze (ZL (ze (Zo (ze (fC (.str "either")) (ze (zb 12) (ze (ZL zt) zt)))) zt)) zt))) zt)) zt)))) zt) ρ=some (.lst [.tup [.str "either",.lst [],.lst [.tup [.str "loop",.lst [.tup [.str "either",d,.lst []]]]]]]) :=
 jI (tup3v rfl nilv (jI (yL rfl (jI (tup3v rfl (z6 h) nilv)))))
theorem wrap_g {out:List D} (hl:out.length<=20) (hg:∀ r∈out,Gq mm 1 1 3 r) (hw:wts out<=2265) (hn:nds out<=17):BodG mm 1 0 [.tup [.str "either",.lst [],.lst [.tup [.str "loop",.lst [.tup [.str "either",.lst out,.lst []]]]]]]:=by
 have one:∀ {n:Nat} {d:D},Gq mm 1 1 n d->∀ r∈[d],Gq mm 1 1 n r:=fun h r hr=>by rw [Qs.mp hr];exact h
 have non:∀ {n:Nat},∀ r∈([]:List D),Gq mm 1 1 n r:=fun r hr=>by cases hr
 have g1:Gq mm 1 1 4 (.tup [.str "either",.lst out,.lst []]):=j5 (n:=3) (by omega) hg (by simp) non
 have g2:Gq mm 1 1 5 (.tup [.str "loop",.lst [.tup [.str "either",.lst out,.lst []]]]):=gq_loop (n:=4) (by simp) (one g1)
 have g3:Gq mm 1 1 6 (.tup [.str "either",.lst [],.lst [.tup [.str "loop",.lst [.tup [.str "either",.lst out,.lst []]]]]]):=j5 (n:=5) (by simp) non (by simp) (one g2)
 refine ⟨by simp,one g3,?_,?_⟩
 ·simp only [wts,Y9,wt_lst,js];omega
 ·simp only [nds,YY,Js,Jr]
  show _<=(if (0:Nat)=0 then 20 else 4)
  rw [KQ rfl]
  omega
theorem prog_ok (ns:List Int) {at_ KM:Nat} (ha:at_<=100) (hm:KM<=6) (KN:Int):∃ L:List (List D),mq22 [.scr ns,.int (at_:Nat),.int (KM:Nat),.int KN]=some (.tup [.int (KM:Nat),.lst (L.map .lst)])/\1<=L.length/\L.length<=4/\∀ k,k<L.length->BodG KM L.length k (L.getD k []):=by
 suffices h:Wo (mq22 [.scr ns,.int (at_:Nat),.int (KM:Nat),.int KN]) fun d=>∃ L:List (List D),d=.tup [.int (KM:Nat),.lst (L.map .lst)]/\1<=L.length/\L.length<=4/\∀ k,k<L.length->BodG KM L.length k (L.getD k []) by
  obtain ⟨d,e,L,rfl,q⟩:=h
  exact ⟨L,e,q⟩
 unfold mq22 bq22
 rw [yZ]
 refine ⟨rfl,?_⟩
 simp only [Zh,zMap,zLen,List.replicate,zApp,QK,Nat.reduceAdd,Nat.reduceSub]
 obtain ⟨v0,e0⟩:=Ww ns (at_:Nat) (by omega) (by omega)
 have p0:=QB v0 (show (4:Int)≠0 by decide)
 have p1:=Qw v0 (show (0:Int)<4 by decide)
 obtain ⟨n,hn⟩:∃ n:Nat,1+v0 % 4=n:=⟨(1+v0 % 4).toNat,by omega⟩
 have n1:1<=n:=by omega
 have n4:n<=4:=by omega
 rw [zF]
 refine yf nilv ?_
 simp only [zSet,zy]
 rw [zF]
 refine yf nilv ?_
 simp only [zSet,zy]
 rw [zF]
 refine yf (d:=.int (n:Nat)) (f2v rfl (f2v (fA2 rfl rfl e0) rfl (Z4 (by decide))) (yp.trans (by rw [hn]))) ?_
 simp only [zSet,zy]
 have er:gm (f2 JB (zb 6) (fC (.int 1))) (f1 wH (fC (.int 1))) [some (.scr ns),some (.int (at_:Nat)),some (.int (KM:Nat)),some (.int KN),some (.lst []),some (.lst []),some (.int (n:Nat)),none,none,none,none,none,none,none]=some (YL ((n:Int) - 1) n):=by
  unfold gm
  rw [show f2 JB (zb 6) (fC (.int 1)) [some (.scr ns),some (.int (at_:Nat)),some (.int (KM:Nat)),some (.int KN),some (.lst []),some (.lst []),some (.int (n:Nat)),none,none,none,none,none,none,none]=some (.int ((n:Int) - 1)) from rfl,oB,show f1 wH (fC (.int 1)) [some (.scr ns),some (.int (at_:Nat)),some (.int (KM:Nat)),some (.int KN),some (.lst []),some (.lst []),some (.int (n:Nat)),none,none,none,none,none,none,none]=some (.int (-1)) from rfl,oB,asI_,oB,asI_,oB,KQ (by omega)]
  congr 2
  omega
 rw [zF,W8,er,oB]
 refine Jh (fun i ρ=>i<=n/\∃ (L:List (List D)) (KK:List (Nat×Int)) (z7 z8 z9 z10 z11 z12 z13:Option D),ρ=[some (.scr ns),some (.int (at_:Nat)),some (.int (KM:Nat)),some (.int KN),some (.lst (L.map .lst)),some (Yu KK),some (.int (n:Nat)),z7,z8,z9,z10,z11,z12,z13]/\L.length=i/\KK.length=i/\(∀ p∈KK,n - i<=p.1/\p.1<n)/\∀ t,t<i->BodG KM n (n - i+t) (L.getD t [])) ⟨Q4 _,[],[],_,_,_,_,_,_,_,rfl,rfl,rfl,fun p hp=>(by cases hp),fun t ht=>by omega⟩ ?_ ?_
 ·rintro i d ρ hd ⟨hi,L,KK,z7,z8,z9,z10,z11,z12,z13,rfl,hL,hla,hmem,hG⟩
  obtain ⟨hin,rfl⟩:=YK hd
  obtain ⟨k,hk⟩:∃ k:Nat,k=n - 1 - i:=⟨_,rfl⟩
  have ej:(n:Int) - 1 - (i:Nat)=((k:Nat):Int):=by omega
  rw [ej,jw,zV]
  simp only [zSet]
  rw [zF]
  refine yf rfl ?_
  simp only [zSet,zy]
  rw [zF]
  refine yf rfl ?_
  simp only [zSet,zy]
  rw [zF]
  have Zc:∀ (sz dp:Nat),sz<=(if k=0 then 15 else 4)->dp=(if k=0 then 3 else 2)->Wo (Zf (Zx 10 (f2 Ze (f2 Ze (f2 Ze (zb 1) (fC (.int 1))) (f2 Yg (fC (.int 11)) (fA gk (ze (Yo (f2 dGt (zb 7) (fC (.int 0)))) zt)))) (f2 Yg (fC (.int 4)) (zb 7))))
    (Zf (Zx 11 (ZX 1 (jQ (zb 8)) (zP 14) Yn (fA wy (ze (zb 0) (ze (f2 Ze (zb 10) (zb 14)) zt)))))
    (Zf (mAsg (wd (yr (zP 12) (yr (zP 13) wf))) (fA mq21 (ze (zb 11) (ze (zb 2) (ze (zb 5) (ze (zb 9) (ze (zb 3) zt)))))))
    (Zf (mIf (J5 (zI (f2 ZJ (zb 6) (fC (.int 1)))) (zI (f2 ZJ (f2 yN (f2 Y7 (fA wy (ze (zb 0) (ze (zb 1) zt))) (fC (.int 108))) (fC (.int 2))) (fC (.int 1)))))
    (Zx 12 (ZL (ze (Zo (ze (fC (.str "either")) (ze (ZL zt) (ze (ZL (ze (Zo (ze (fC (.str "loop")) (ze (ZL (ze (Zo (ze (fC (.str "either")) (ze (zb 12) (ze (ZL zt) zt)))) zt)) zt))) zt)) zt)))) zt)))
    yt)
    (Zf (Zx 4 (Wg (fL (ZL (ze (zb 12) zt))) (fL (zb 4))))
    (Zx 5 (Wg (fL (ZL (ze (Zo (ze (zb 7) (ze (zb 13) zt))) zt))) (fL (zb 5))))))))
    [some (.scr ns),some (.int (at_:Nat)),some (.int (KM:Nat)),some (.int KN),some (.lst (L.map .lst)),some (Yu KK),some (.int (n:Nat)),some (.int (k:Nat)),some (.int (sz:Nat)),some (.int (dp:Nat)),z10,z11,z12,z13]) fun o=>∃ ρ2,o=.nx ρ2/\i+1<=n/\∃ (L:List (List D)) (KK:List (Nat×Int)) (z7 z8 z9 z10 z11 z12 z13:Option D),ρ2=[some (.scr ns),some (.int (at_:Nat)),some (.int (KM:Nat)),some (.int KN),some (.lst (L.map .lst)),some (Yu KK),some (.int (n:Nat)),z7,z8,z9,z10,z11,z12,z13]/\L.length=i+1/\KK.length=i+1/\(∀ p∈KK,n - (i+1)<=p.1/\p.1<n)/\∀ t,t<i+1->BodG KM n (n - (i+1)+t) (L.getD t []):=by
   intro sz dp hsz hdp
   have hsz':sz<=15:=by split at hsz <;> omega
   have hdp1:1<=dp/\dp<=3:=by split at hdp <;> omega
   obtain ⟨bg,hbg,ebg⟩:∃ bg:Nat,bg<=200/\f2 Ze (f2 Ze (f2 Ze (zb 1) (fC (.int 1))) (f2 Yg (fC (.int 11)) (fA gk (ze (Yo (f2 dGt (zb 7) (fC (.int 0)))) zt)))) (f2 Yg (fC (.int 4)) (zb 7)) [some (.scr ns),some (.int (at_:Nat)),some (.int (KM:Nat)),some (.int KN),some (.lst (L.map .lst)),some (Yu KK),some (.int (n:Nat)),some (.int (k:Nat)),some (.int (sz:Nat)),some (.int (dp:Nat)),z10,z11,z12,z13]=some (.int (bg:Nat)):=by
    by_cases h0:(0:Int)<(k:Nat)
    ·refine ⟨at_+1+11+4*k,by omega,f2v (f2v (f2v rfl rfl yp) (f2v (x:=.int 11) (y:=.int 1) rfl (fA1 (x:=.bl true) (Jf (f2v rfl rfl (by rw [gt_,KS h0])) rfl) rfl) (yz (JX (by decide) (by decide)))) yp) (f2v rfl rfl (yz (JX (by decide) (by decide)))) (yp.trans ?_)⟩
     congr 2
    ·refine ⟨at_+1+4*k,by omega,f2v (f2v (f2v rfl rfl yp) (f2v (x:=.int 11) (y:=.int 0) rfl (fA1 (x:=.bl false) (Jf (f2v rfl rfl (by rw [gt_,KU h0])) rfl) rfl) (yz (JX (by decide) (by decide)))) yp) (f2v rfl rfl (yz (JX (by decide) (by decide)))) (yp.trans ?_)⟩
     congr 2
   rw [zF]
   refine yf ebg ?_
   simp only [zSet,zy]
   obtain ⟨cs,ecs,hcs,_⟩:=Jz (k:=1) (fl:=jQ (zb 8)) (u:=zP 14) (c:=Yn) (e:=fA wy (ze (zb 0) (ze (f2 Ze (zb 10) (zb 14)) zt))) (ρ:=[some (.scr ns),some (.int (at_:Nat)),some (.int (KM:Nat)),some (.int KN),some (.lst (L.map .lst)),some (Yu KK),some (.int (n:Nat)),some (.int (k:Nat)),some (.int (sz:Nat)),some (.int (dp:Nat)),some (.int (bg:Nat)),z11,z12,z13]) (ds:=yR 0 sz) (fun _ _=>True) (fun ρ=>∃ z:Option D,ρ=[some (.scr ns),some (.int (at_:Nat)),some (.int (KM:Nat)),some (.int KN),some (.lst (L.map .lst)),some (Yu KK),some (.int (n:Nat)),some (.int (k:Nat)),some (.int (sz:Nat)),some (.int (dp:Nat)),some (.int (bg:Nat)),z11,z12,z13,z])
    (rng1v (n:=sz) rfl (by omega)) (by rw [YX];omega) ⟨none,rfl⟩ (by
     rintro t d ρ hd ⟨z,rfl⟩
     obtain ⟨ht,rfl⟩:=Jo hd
     rw [jw,zV]
     simp only [zSet]
     obtain ⟨v,ev⟩:=Ww ns ((bg:Nat)+(0+(t:Nat))) (by omega) (by omega)
     exact ⟨rfl,⟨_,fA2 rfl (f2v rfl rfl yp) ev,v,rfl,trivial⟩,_,rfl⟩)
   rw [YX] at hcs
   rw [zF]
   refine yf ecs ?_
   simp only [zSet,zy]
   have hlat:LatOk n (k+1) KK:=⟨by omega,n4,fun p hp=>⟨by have:=(hmem p hp).1;omega,(hmem p hp).2⟩⟩
   obtain ⟨out,u,eo,o1,o2,o3,o4⟩:=body_ok (cs:=cs) (KM:=KM) (dp:=dp) hm hlat (by omega) (by omega) (by omega) KN
   rw [zF]
   refine asg_ (fA5 rfl rfl rfl rfl rfl eo) rfl ?_
   simp only [zSet,zy]
   have fin:∀ body:List D,BodG KM n k body->Wo (Zf (Zx 4 (Wg (fL (ZL (ze (zb 12) zt))) (fL (zb 4)))) (Zx 5 (Wg (fL (ZL (ze (Zo (ze (zb 7) (ze (zb 13) zt))) zt))) (fL (zb 5)))) [some (.scr ns),some (.int (at_:Nat)),some (.int (KM:Nat)),some (.int KN),some (.lst (L.map .lst)),some (Yu KK),some (.int (n:Nat)),some (.int (k:Nat)),some (.int (sz:Nat)),some (.int (dp:Nat)),some (.int (bg:Nat)),some (lstI cs),some (.lst body),some (.int u)]) fun o=>∃ ρ2,o=.nx ρ2/\i+1<=n/\∃ (L:List (List D)) (KK:List (Nat×Int)) (z7 z8 z9 z10 z11 z12 z13:Option D),ρ2=[some (.scr ns),some (.int (at_:Nat)),some (.int (KM:Nat)),some (.int KN),some (.lst (L.map .lst)),some (Yu KK),some (.int (n:Nat)),z7,z8,z9,z10,z11,z12,z13]/\L.length=i+1/\KK.length=i+1/\(∀ p∈KK,n - (i+1)<=p.1/\p.1<n)/\∀ t,t<i+1->BodG KM n (n - (i+1)+t) (L.getD t []):=by
    intro body hb
    rw [zF]
    refine yf (catv (lv (jI (d:=.lst body) rfl)) (lv (xs:=L.map .lst) rfl) (by rw [Ql];simp only [Qg,Qy];omega)) ?_
    simp only [zSet,zy]
    refine yf (catv (lv (jI (yL (d:=.int (k:Nat)) (d':=.int u) rfl rfl))) (lv (xs:=KK.map YO) rfl) (by rw [Ql];simp only [Qg,Qy];omega)) ?_
    simp only [zSet]
    refine ⟨_,rfl,by omega,body::L,(k,u)::KK,_,_,_,_,_,_,_,rfl,by simp [hL],by simp [hla],fun p hp=>?_,fun t ht=>?_⟩
    ·rcases Qc.mp hp with rfl | hp
     ·simp only;omega
     ·have:=hmem p hp;omega
    ·cases t with
     | zero=>rw [show n - (i+1)+0=k by omega];simpa using hb
     | succ t =>
      rw [show n - (i+1)+(t+1)=n - i+t by omega]
      simpa using hG t (by omega)
   have bodg:¬ (n=1)\/True->(dp<=hb n k)->BodG KM n k out:=fun _ hle=>⟨o1,fun r hr=>(o2 r hr).mono hle,by omega,by
    split
    ·rename_i h0;rw [KQ h0] at hsz;omega
    ·rename_i h0;rw [KR h0] at hsz;omega⟩
   have hle:dp<=hb n k:=by
    unfold hb
    rw [hdp]
    split
    ·split <;> omega
    ·omega
   rw [zF]
   refine if_b (andc (Zv (f2v rfl rfl jR)) fun _=>Zv (f2v (f2v (f2v (fA2 rfl rfl e0) rfl (Ys (by decide) (by decide))) rfl (Z4 (by decide))) rfl jR)) (fun e=>?_) (fun _=>?_)
   ·simp only [QI,decide_eq_true_eq] at e
    have hn1:n=1:=by omega
    have hk0:k=0:=by omega
    refine yf (wrap_v (d:=.lst out) rfl) ?_
    simp only [zSet,zy]
    refine fin _ ?_
    subst hn1
    subst hk0
    rw [KQ rfl] at hsz hdp
    subst hdp
    exact wrap_g o1 o2 (by omega) (by omega)
   ·rw [Z2,zV,zy]
    exact fin out (bodg (.inr trivial) hle)
  have conv:∀ {m:Ev->Option Out} {ρ:Ev},Wo (m ρ) (fun o=>∃ ρ2,o=.nx ρ2/\i+1<=n/\∃ (L:List (List D)) (KK:List (Nat×Int)) (z7 z8 z9 z10 z11 z12 z13:Option D),ρ2=[some (.scr ns),some (.int (at_:Nat)),some (.int (KM:Nat)),some (.int KN),some (.lst (L.map .lst)),some (Yu KK),some (.int (n:Nat)),z7,z8,z9,z10,z11,z12,z13]/\L.length=i+1/\KK.length=i+1/\(∀ p∈KK,n - (i+1)<=p.1/\p.1<n)/\∀ t,t<i+1->BodG KM n (n - (i+1)+t) (L.getD t []))->∃ ρ2,m ρ=some (.nx ρ2)/\i+1<=n/\∃ (L:List (List D)) (KK:List (Nat×Int)) (z7 z8 z9 z10 z11 z12 z13:Option D),ρ2=[some (.scr ns),some (.int (at_:Nat)),some (.int (KM:Nat)),some (.int KN),some (.lst (L.map .lst)),some (Yu KK),some (.int (n:Nat)),z7,z8,z9,z10,z11,z12,z13]/\L.length=i+1/\KK.length=i+1/\(∀ p∈KK,n - (i+1)<=p.1/\p.1<n)/\∀ t,t<i+1->BodG KM n (n - (i+1)+t) (L.getD t []):=fun ⟨o,e,ρ2,ho,q⟩=>⟨ρ2,by rw [e,ho],q⟩
  have s0:=QB (v0 / 3) (show (9:Int)≠0 by decide)
  have s1:=Qw (v0 / 3) (show (0:Int)<9 by decide)
  refine if_b (Zv (f2v rfl rfl jR)) (fun e=>?_) (fun e=>?_)
  ·simp only [decide_eq_true_eq] at e
   obtain ⟨sz,hsz⟩:∃ m:Nat,6+v0 / 3 % 9=m:=⟨(6+v0 / 3 % 9).toNat,by omega⟩
   rw [zF]
   refine yf (d:=.int (sz:Nat)) (f2v rfl (f2v (f2v (fA2 rfl rfl e0) rfl (Ys (by decide) (by decide))) rfl (Z4 (by decide))) (yp.trans (by rw [hsz]))) ?_
   simp only [zSet,zy]
   refine yf rfl ?_
   simp only [zSet,zy]
   obtain ⟨ρ2,e2,q⟩:=conv (Zc sz 3 (by rw [KQ (by omega)];omega) (by rw [KQ (by omega)]))
   exact ⟨_,e2,q⟩
  ·simp only [decide_eq_false_iff_not] at e
   rw [Z2,zV,zy]
   obtain ⟨ρ2,e2,q⟩:=conv (Zc 4 2 (by rw [KR (by omega)];omega) (by rw [KR (by omega)]))
   exact ⟨_,e2,q⟩
 ·rintro ρ ⟨-,L,KK,z7,z8,z9,z10,z11,z12,z13,rfl,hL,hla,hmem,hG⟩
  rw [Yy] at hL hG
  rw [zy]
  refine Jn (yL rfl rfl) ⟨L,rfl,by omega,by omega,fun k hk=>?_⟩
  rw [hL]
  have:=hG k (by omega)
  rwa [show n - n+k=k by omega] at this
variable {mm:Nat}
mutual
theorem rk_le {g:Nat->Nat} {c f nb:Nat} (h:∀ k,f<=k->k<nb->g k<=c):∀ r:Rq,r.lat f->r.ok mm nb->r.rk g<=r.rk r0+c
 | .one _ _,_,_=>by simp only [Rq.rk];omega
 | .call k,o,o'=>by rw [Rq.lat] at o;rw [Rq.ok] at o';have:=h k o o';simp only [Rq.rk];show g k+1<=0+1+c;omega
 | .loop rs,o,o'=>by rw [Rq.lat] at o;rw [Rq.ok] at o';have:=Jm h rs o o'.1;simp only [Rq.rk];omega
 | .either a b,o,o'=>by rw [Rq.lat] at o;rw [Rq.ok] at o';have:=Jm h a o.1 o'.1.1;have:=Jm h b o.2 o'.2.1;simp only [Rq.rk];omega
theorem Jm {g:Nat->Nat} {c f nb:Nat} (h:∀ k,f<=k->k<nb->g k<=c):∀ rs:List Rq,YE f rs->oks mm nb rs->rks g rs<=rks r0 rs+c
 | [],_,_=>by simp only [rks];omega
 | r::rs,o,o'=>by rw [YE] at o;rw [oks] at o';have:=rk_le h r o.1 o'.1;have:=Jm h rs o.2 o'.2;simp only [rks];omega
end
mutual
theorem sz_le {G:Nat->Nat} {m f nb:Nat} (h2:2<=m) (h:∀ k,f<=k->k<nb->G k<=m):∀ r:Rq,r.lat f->r.ok mm nb->r.sz G<=m*nd r.toD
 | .one x ps,_,_=>by rw [yO,YY,Pf];simp only [Rq.sz];omega
 | .call k,o,o'=>by rw [Rq.lat] at o;rw [Rq.ok] at o';have:=h k o o';rw [Ym,YY,Pf];simp only [Rq.sz];omega
 | .loop rs,o,o'=>by
  rw [Rq.lat] at o;rw [Rq.ok] at o'
  have:=WK h2 h rs o o'.1
  rw [ym,YY,nds,nds,nds,Jr,Js,Pf,Pf,Pf]
  simp only [Rq.sz]
  omega
 | .either a b,o,o'=>by
  rw [Rq.lat] at o;rw [Rq.ok] at o'
  have:=WK h2 h a o.1 o'.1.1
  have:=WK h2 h b o.2 o'.2.1
  rw [ZU,YY,nds,nds,nds,nds,Jr,Js,Js,Pf,Pf,Pf,Pf]
  simp only [Rq.sz]
  omega
theorem WK {G:Nat->Nat} {m f nb:Nat} (h2:2<=m) (h:∀ k,f<=k->k<nb->G k<=m):∀ rs:List Rq,YE f rs->oks mm nb rs->szs G rs<=m*nds (qDs rs)
 | [],_,_=>by simp only [szs];omega
 | r::rs,o,o'=>by
  rw [YE] at o;rw [oks] at o'
  have:=sz_le h2 h r o.1 o'.1
  have:=WK h2 h rs o.2 o'.2
  rw [qDs,nds,Pf]
  simp only [szs]
  omega
end
def gR (nb:Nat):Nat->Nat:=fun k=>if k=0 then 13 else 3*(nb - k)
def gS:Nat->Nat
 | 0=>2560
 | 1=>128
 | 2=>32
 | _=>8
def gM:Nat->Nat
 | 0=>128
 | 1=>32
 | 2=>8
 | _=>2
theorem trees {L:List (List D)} (h1:1<=L.length) (h4:L.length<=4) (hG:∀ k,k<L.length->BodG mm L.length k (L.getD k [])):∃ B:Nat->List Rq,Bods2 mm B L.length (gR L.length) gS/\D.lst (L.map .lst)=zX B L.length/\rks (gR L.length) (B 0)<20/\szs gS (B 0)<=2560/\L.getD 0 []=qDs (B 0):=by
 have hex:∀ k:Nat,∃ ts:List Rq,k<L.length->L.getD k []=qDs ts/\oks mm L.length ts/\YE (k+1) ts/\rks r0 ts<=hb L.length k/\ts.length<=20:=fun k=>by
  by_cases hk:k<L.length
  ·obtain ⟨ts,a,b,c,d,e⟩:=J2 (hG k hk).gq
   exact ⟨ts,fun _=>⟨a,b,c,d,by rw [e];exact (hG k hk).len⟩⟩
  ·exact ⟨[],fun z=>absurd z hk⟩
 obtain ⟨B,hB⟩:=Classical.axiomOfChoice hex
 generalize hn:L.length=n at *
 have hbl:∀ k,hb n k<=6:=fun k=>by unfold hb;split <;> (try split) <;> omega
 have rk:∀ k,k<n->rks (gR n) (B k)<=gR n k:=fun k hk=>by
  obtain ⟨a,b,c,d,e⟩:=hB k hk
  by_cases h0:k=0
  ·subst h0
   by_cases hn1:n=1
   ·have:=Jm (g:=gR n) (c:=0) (f:=1) (nb:=n) (fun j j1 j2=>by omega) (B 0) c b
    have h6:=hbl 0
    have:gR n 0=13:=rfl
    omega
   ·have:=Jm (g:=gR n) (c:=9) (f:=1) (nb:=n) (fun j j1 j2=>by unfold gR;rw [KR (by omega)];omega) (B 0) c b
    have h3:hb n 0=3:=by unfold hb;rw [KQ rfl,KR hn1]
    have:gR n 0=13:=rfl
    omega
  ·have:=Jm (g:=gR n) (c:=3*(n - (k+1))) (f:=k+1) (nb:=n) (fun j j1 j2=>by unfold gR;rw [KR (by omega)];omega) (B k) c b
   have h2:hb n k=2:=by unfold hb;rw [KR h0]
   have:gR n k=3*(n - k):=by unfold gR;rw [KR h0]
   omega
 have sz:∀ k,k<n->szs gS (B k)<=gS k:=fun k hk=>by
  obtain ⟨a,b,c,d,e⟩:=hB k hk
  have hnd:=(hG k hk).nd
  rw [a] at hnd
  have k4:k=0\/k=1\/k=2\/k=3:=by omega
  have key:szs gS (B k)<=gM k*nds (qDs (B k)):=WK (f:=k+1) (nb:=n) (by rcases k4 with rfl | rfl | rfl | rfl <;> decide) (fun j j1 j2=>by
   have j4:j=1\/j=2\/j=3:=by omega
   rcases k4 with rfl | rfl | rfl | rfl <;> rcases j4 with rfl | rfl | rfl <;> first | decide | omega) (B k) c b
  rcases k4 with rfl | rfl | rfl | rfl
  ·rw [KQ rfl] at hnd
   have:gM 0*nds (qDs (B 0))<=128*20:=PK 128 hnd
   have:gS 0=2560:=rfl
   omega
  ·rw [KR (by decide)] at hnd
   have:gM 1*nds (qDs (B 1))<=32*4:=PK 32 hnd
   have:gS 1=128:=rfl
   omega
  ·rw [KR (by decide)] at hnd
   have:gM 2*nds (qDs (B 2))<=8*4:=PK 8 hnd
   have:gS 2=32:=rfl
   omega
  ·rw [KR (by decide)] at hnd
   have:gM 3*nds (qDs (B 3))<=2*4:=PK 2 hnd
   have:gS 3=8:=rfl
   omega
 refine ⟨B,⟨⟨fun k hk=>(hB k hk).2.1,fun k hk=>by have:=(hB k hk).2.2.2.2;omega,rk,sz⟩,fun k hk=>(hB k hk).2.2.1,fun k hk=>Qv (hB k hk).2.2.2.1 (Qv (hbl k) (by decide)),h4,h1⟩,?_,?_,?_,(hB 0 h1).1⟩
 ·unfold zX
  congr 1
  refine List.ext_getElem (by simp [hn]) fun k hk1 hk2=>?_
  rw [Ql,hn] at hk1
  have:=(hB k hk1).1
  rw [List.getElem_map,List.getElem_map,List.getElem_range,<- this]
  congr 1
  simp [List.getD,hn,hk1]
 ·have:=rk 0 h1;have:gR n 0=13:=rfl;omega
 ·have:=sz 0 h1;have:gS 0=2560:=rfl;omega
variable {mm:Nat}
inductive Dd where
 | skip | take (b:Nat) | set (b:Nat) (ns:List Int)
def Dd.toD:Dd->D
 | .skip=>skD
 | .take b=>.tup [.str "take",.int (b:Nat)]
 | .set b ns=>.tup [.str "set",.int (b:Nat),.tup (ns.map .int)]
def Dd.ok (mm:Nat):Dd->Prop
 | .skip=>True
 | .take b=>b<mm
 | .set b ns=>b<mm/\ns.length=mm+1/\∀ n∈ns,n.natAbs<=2000000
def Dd.tk:Dd->Bool
 | .take _=>true
 | _=>false
def dot (ns st:List Int):Int:=(List.zipWith (·*·) ns st).sum
def Dd.go (d:Dd) (o:Option Int) (st:List Int):List Int:=match d with
 | .skip=>st
 | .take b=>st.set (b+1) (o.getD 0)
 | .set b ns=>st.set (b+1) (dot ns st)
structure Sp where
 p:Int
 q:Int
 d:Dd
def Sp.toD (t:Sp):D:=stp t.p t.q t.d.toD
theorem steps_of:∀ l:List D,(∀ d∈l,StF mm d)->∃ sps:List Sp,l=sps.map Sp.toD/\∀ t∈sps,t.d.ok mm
 | [],_=>⟨[],rfl,fun t h=>by cases h⟩
 | d::l,h=>by
  obtain ⟨sps,e,ho⟩:=steps_of l fun d hd=>h d (Qe _ hd)
  obtain ⟨p,q,x,ps,rfl,hx,hk⟩:=h d Qt
  have key:∃ t:Sp,stp p q (.tup (.str x::ps))=t.toD/\t.d.ok mm:=by
   rcases hk with ⟨rfl,rfl⟩ | ⟨rfl,rfl⟩ | ⟨b,rfl,rfl,hb⟩ | ⟨b,ns,rfl,rfl,hb,hl,hn⟩
   ·exact ⟨⟨p,q,.skip⟩,rfl,trivial⟩
   ·exact absurd rfl hx
   ·exact ⟨⟨p,q,.take b⟩,rfl,hb⟩
   ·exact ⟨⟨p,q,.set b ns⟩,rfl,hb,hl,hn⟩
  obtain ⟨t,e1,e2⟩:=key
  exact ⟨t::sps,by rw [Qq,e,e1],fun u hu=>(Qc.mp hu).elim (fun z=>by rw [z];exact e2) (ho u)⟩
def oD:Option Int->D
 | none=>.non
 | some n=>.int n
def mvD (m:Nat×Option Int):D:=.tup [.int (m.1:Nat),oD m.2]
def inD (st:List Int):D:=.tup (st.map .int)
def rowD (s:Int×List Int):D:=.tup [.int s.1,inD s.2]
theorem ints_ext {vs ws:List Int} (hl:vs.length=ws.length) (h:∀ i,i<ws.length->vs.getD i 0=ws.getD i 0):vs=ws:=by
 refine List.ext_getElem hl fun i h1 h2=>?_
 have:=h i h2
 simpa [List.getD,h1,h2] using this
theorem dot_at {ns st:List Int} {i:Nat} (h1:i<ns.length) (h2:i<st.length):(List.zipWith (·*·) ns st).getD i 0=ns.getD i 0*st.getD i 0:=by
 simp [List.getD,Px,h1,h2]
theorem b21 {n:Int} (h:n.natAbs<=2000000):n.natAbs<2 ^ 21:=Q7 h (by decide)
theorem wo_retv {f:Ev->Option D} {ρ:Ev} {d:D} {m:Ev->Option Out} {P:D->Prop} (e:f ρ=some d) (k:P d):Wo (Z1 f ρ) (gJ m (Wl P)):=by rw [Jc,e];exact ⟨_,rfl,k⟩
section
variable {ns st:List Int} {n:Nat}
theorem jM {l:List Int} {i:Nat} (h:i<l.length):l.getD i 0∈l:=by
 rw [List.getD,Qz h]
 exact PB h
theorem worth_ok (hl:ns.length=st.length) (h7:st.length<=7) (h1:∀ x∈ns,x.natAbs<=2000000) (h2:∀ x∈st,x.natAbs<2 ^ n) (hn:n<=1000000):mq0 [inD ns,inD st]=some (.int (dot ns st)):=by
 obtain ⟨vs,e,hv,hP⟩:=Jz (k:=2) (fl:=fZip (zj false (zb 0)) (zj false (zb 1))) (u:=wd (yr (zP 2) (yr (zP 3) wf))) (c:=Yn) (e:=f2 Yg (zb 2) (zb 3)) (ρ:=[some (inD ns),some (inD st)]) (ds:=zipD (ns.map .int) (st.map .int))
  (fun i v=>v=ns.getD i 0*st.getD i 0) (fun ρ=>∃ y z:Option D,ρ=[some (inD ns),some (inD st),y,z]) rfl (by simp [zipD];omega) ⟨none,none,rfl⟩ (by
   rintro i d ρ hd ⟨y,z,rfl⟩
   obtain ⟨a1,a2,rfl⟩:=zip_at hd
   refine ⟨_,rfl,rfl,⟨_,f2v rfl rfl (yz (mulB (b21 (h1 _ (jM a1))) (h2 _ (jM a2)) (by omega))),_,rfl,rfl⟩,_,_,rfl⟩)
 have hz:(zipD (ns.map D.int) (st.map D.int)).length=st.length:=by simp [zipD];omega
 have ev:vs=List.zipWith (·*·) ns st:=ints_ext (by rw [hv,hz];simp;omega) fun i hi=>by
  have hi':i<st.length:=by simp at hi;omega
  rw [hP i (by rw [hz];exact hi'),dot_at (by omega) hi']
 refine wX rfl ?_
 unfold bq0
 rw [Jc]
 show (Option.map Out.rt (fA YZ (zj true _) [some (inD ns),some (inD st)]))=_
 rw [fA_,yB e,oB,gSum_,ev]
 rfl
theorem set_cat {st:List Int} {b:Nat} {v:Int} (hb:b<st.length):(st.map D.int).take b++[D.int v]++(st.map D.int).drop (b+1)=(st.set b v).map D.int:=by
 rw [List.set_eq_take_append_cons_drop,KQ hb]
 simp [List.map_take,List.map_drop]
theorem WG (d:Dd):mq14 [d.toD]=some (.bl d.tk):=by
 cases d with
 | skip =>
  refine wX rfl ?_
  unfold bq14
  rw [Jc,f2v (Y5 (i:=0) rfl) rfl (eq_f (x:="skip") (y:="take") (by decide))]
  rfl
 | take b =>
  refine wX rfl ?_
  unfold bq14
  rw [Jc,f2v (Y5 (i:=0) rfl) rfl (eq_t (x:="take"))]
  rfl
 | set b ns =>
  refine wX rfl ?_
  unfold bq14
  rw [Jc,f2v (Y5 (i:=0) rfl) rfl (eq_f (x:="set") (y:="take") (by decide))]
  rfl
theorem behind_ok (d:Dd) (o:Option Int) (hd:d.ok mm) (ho:o.isSome=d.tk) (hl:st.length=mm+1) (h6:mm<=6) (hs:∀ x∈st,x.natAbs<2 ^ n) (hn:n<=1000000):mq15 [d.toD,oD o,inD st]=some (inD (d.go o st)):=by
 refine Wo.eq ?_
 unfold mq15 bq15
 rw [yZ]
 refine ⟨rfl,?_⟩
 simp only [Zh,zMap,zLen,List.replicate,zApp,QK,Nat.reduceAdd,Nat.reduceSub]
 have fin:∀ (b:Nat) (v:Int),b<mm->Wo (Z1 (J4 (J4 (YT (zj false (zb 2)) fNo (YS (zb 3))) (Zo (ze (zb 4) zt))) (YT (zj false (zb 2)) (YS (f2 Ze (zb 3) (fC (.int 1)))) fNo)) [some d.toD,some (oD o),some (inD st),some (.int ((b:Nat)+1)),some (.int v)]) (Wl fun r=>r=inD (st.set (b+1) v)):=fun b v hb=>by
  have hlm:(st.map D.int).length=mm+1:=by rw [Ql,hl]
  have e3:zb 3 [some d.toD,some (oD o),some (inD st),some (.int ((b:Nat)+1)),some (.int v)]=some (.int ((b+1:Nat):Int)):=by rw [QP];rfl
  have e4:f2 Ze (zb 3) (fC (.int 1)) [some d.toD,some (oD o),some (inD st),some (.int ((b:Nat)+1)),some (.int v)]=some (.int ((b+1+1:Nat):Int)):=by rw [f2v e3 rfl yp];rfl
  have e:=catT_ (catT_ (cutTo_ (fl:=zj false (zb 2)) (ds:=st.map D.int) rfl e3 (by rw [hlm];omega)) (tup1_ (f:=zb 4) rfl) (by simp;omega)) (gy (fl:=zj false (zb 2)) (ds:=st.map D.int) rfl e4 (by omega) (by rw [hlm];omega)) (by simp;omega)
  rw [set_cat (by omega)] at e
  exact Jn e rfl
 cases d with
 | skip =>
  rw [zF]
  refine if_t (kis (x:="skip") (ps:=[]) rfl) ?_
  refine wo_retv (d:=inD st) ?_ ?_
  ·rfl
  ·rfl
 | take b =>
  rw [zF]
  refine Jt (kno (x:="take") rfl (by decide)) ?_
  rw [Z2,zV,zy,zF]
  refine yf (f2v (Zp (ZH (z6 rfl)) rfl (zB (j:=1) rfl)) rfl yp) ?_
  simp only [zSet,zy]
  rw [zF]
  obtain ⟨v,rfl⟩:∃ v,o=some v:=Pc.mp ho
  refine yf (d:=.int v) (by rw [fIf_,Zv (fA1 rfl (WG (.take b)))];rfl) ?_
  simp only [zSet,zy]
  exact fin b v hd
 | set b ns =>
  rw [zF]
  refine Jt (kno (x:="set") rfl (by decide)) ?_
  rw [Z2,zV,zy,zF]
  refine yf (f2v (Zp (ZH (z6 rfl)) rfl (zB (j:=1) rfl)) rfl yp) ?_
  simp only [zSet,zy]
  rw [zF]
  refine yf (d:=.int (dot ns st)) (by rw [fIf_,Zv (fA1 rfl (WG (.set b ns))),oB,KR (by simp [Dd.tk])];exact fA2 (x:=inD ns) (y:=inD st) (Zp (ZH (z6 rfl)) rfl (zB (j:=2) rfl)) (z6 rfl) (worth_ok (by rw [hd.2.1,hl]) (by omega) hd.2.2 hs hn)) ?_
  simp only [zSet,zy]
  exact fin b _ hd.1
end
variable {mm:Nat}
abbrev Mv:=Nat×Option Int
def nxt (sps:List Sp) (s:Int×List Int) (m:Mv):Int×List Int:=match sps[m.1]? with
 | some t=>(t.q,t.d.go m.2 s.2)
 | none=>s
def stA (sps:List Sp) (s:Int×List Int) (ms:List Mv) (i:Nat):Int×List Int:=(ms.take i).foldl (nxt sps) s
def s0 (mm:Nat):Int×List Int:=(0,1::List.replicate mm 0)
structure Good (mm:Nat) (sps:List Sp) (ms:List Mv):Prop where
 ok:∀ t∈sps,t.d.ok mm
 at_:∀ (i:Nat) m,ms[i]?=some m->∃ t,sps[m.1]?=some t/\t.p=(stA sps (s0 mm) ms i).1/\m.2.isSome=t.d.tk/\∀ n,m.2=some n->n.natAbs<2 ^ 30
section
variable {sps:List Sp} {ms:List Mv} {s:Int×List Int}
theorem JL:stA sps s ms 0=s:=by simp [stA]
theorem JM {i:Nat} {m:Mv} (h:ms[i]?=some m):stA sps s ms (i+1)=nxt sps (stA sps s ms i) m:=by
 unfold stA
 rw [List.take_add_one,h]
 simp [List.foldl_append]
theorem stA_take {a i:Nat} (h:i<=a):stA sps s (ms.take a) i=stA sps s ms i:=by
 unfold stA
 rw [List.take_take,PH h]
theorem Wp {es:List Mv} {i:Nat} (h:i<=ms.length):stA sps s (ms++es) i=stA sps s ms i:=by
 unfold stA
 rw [List.take_append_of_le_length h]
theorem Good.take {a:Nat} (h:Good mm sps ms):Good mm sps (ms.take a):=⟨h.ok,fun i m e=>by
 rw [List.getElem?_take] at e
 split at e
 ·rename_i hi
  rw [stA_take (Q2 hi)]
  exact h.at_ i m e
 ·cases e⟩
theorem nxt_at {t:Sp} {m:Mv} (h:sps[m.1]?=some t):nxt sps s m=(t.q,t.d.go m.2 s.2):=by unfold nxt;rw [h]
theorem mem_set' {l:List Int} {i:Nat} {v x:Int} (h:x∈l.set i v):x=v\/x∈l:=by
 rcases List.mem_or_eq_of_mem_set h with h | h
 ·exact .inr h
 ·exact .inl h
theorem pw {a b x:Nat} (h:x<2 ^ a) (hab:a<=b):x<2 ^ b:=Qr h (Nat.pow_le_pow_right (by decide) hab)
theorem WN (h:Good mm sps ms) (h6:mm<=6):∀ i,i<=ms.length->(stA sps (s0 mm) ms i).2.length=mm+1/\∀ x∈(stA sps (s0 mm) ms i).2,x.natAbs<2 ^ (30+24*i)
 | 0,_=>by
  rw [JL]
  refine ⟨by simp [s0],fun x hx=>?_⟩
  have hx':x∈(1:Int)::List.replicate mm 0:=hx
  rcases Qc.mp hx' with rfl | hx'
  ·decide
  ·rw [List.eq_of_mem_replicate hx'];decide
 | i+1,hi=>by
  obtain ⟨hl,hb⟩:=WN h h6 i (by omega)
  have hm:ms[i]?=some ms[i]:=Qz (by omega)
  obtain ⟨t,e1,_,e3,e4⟩:=h.at_ i _ hm
  rw [JM hm,nxt_at e1]
  have hok:=h.ok t (QS e1)
  generalize stA sps (s0 mm) ms i=w at hl hb
  show (t.d.go _ w.2).length=mm+1/\∀ x∈t.d.go _ w.2,_
  have old:∀ x∈w.2,x.natAbs<2 ^ (30+24*(i+1)):=fun x hx=>pw (hb x hx) (by omega)
  cases hd:t.d with
  | skip=>exact ⟨hl,old⟩
  | take b =>
   refine ⟨by simp [Dd.go,hl],fun x hx=>?_⟩
   rcases mem_set' hx with rfl | hx
   ·rw [hd] at e3
    obtain ⟨v,ev⟩:=Pc.mp e3
    have:=e4 v ev
    rw [ev]
    exact pw this (by omega)
   ·exact old x hx
  | set b ns =>
   rw [hd] at hok
   refine ⟨by simp [Dd.go,hl],fun x hx=>?_⟩
   rcases mem_set' hx with rfl | hx
   ·refine pw (sum_big (m:=51+24*i) (fun y hy=>?_) (by simp [hl,hok.2.1];omega)) (by omega)
    obtain ⟨k,hk,rfl⟩:=List.getElem_of_mem hy
    rw [List.getElem_zipWith,Int.natAbs_mul]
    have a1:=hok.2.2 _ (PB (l:=ns) (n:=k) (by simp at hk;omega))
    have a2:=hb _ (PB (l:=w.2) (n:=k) (by simp at hk;omega))
    have e:51+24*i=21+(30+24*i):=by omega
    rw [e,Nat.pow_add]
    exact Nat.mul_lt_mul_of_lt_of_le (b21 a1) (Q2 a2) (Nat.pow_pos (by decide))
   ·exact old x hx
end
variable {mm:Nat}
theorem atI_end {xs:List D} {x:D}:atI (xs++[x]) (-1)=some x:=by
 unfold atI ixN
 rw [KR (by omega),KQ (by simp;omega)]
 have:((-1:Int)+((xs++[x]).length:Nat)).toNat=xs.length:=by rw [Qd,QA];omega
 rw [this,oB]
 simp
theorem atI_rng {f:Nat->D} {i:Nat}:atI ((List.range (i+1)).map f) (-1)=some (f i):=by
 rw [List.range_succ,Q8]
 exact atI_end
theorem rng_app {f:Nat->D} {i:Nat}:(List.range (i+1)).map f++[f (i+1)]=(List.range (i+1+1)).map f:=by
 rw [List.range_succ (n:=i+1),Q8]
 rfl
theorem chainv {fa fb fc:Ev->Option D} {ρ:Ev} {a b c:Int} (h1:fa ρ=some (.int a)) (h2:fb ρ=some (.int b)) (h3:fc ρ=some (.int c)) (hab:a<=b) (hbc:b<c):wG dLe dLt fa fb fc ρ=some (.bl true):=by
 unfold wG
 rw [h1,oB,h2,oB]
 have e:dLe (.int a) (.int b)=some (.bl true):=by
  show some (D.bl (decide (a<=b)))=_
  rw [KS hab]
 rw [e,oB]
 rw [show asB (D.bl true)=some true from rfl,oB,KQ rfl,h3,oB]
 show some (D.bl (decide (b<c)))=_
 rw [KS hbc]
def JK (sps:List Sp):D:=.lst (sps.map Sp.toD)
def mvsD (ms:List Mv):D:=.lst (ms.map mvD)
section
variable {sps:List Sp} {ms:List Mv}
theorem sp_at {t:Sp} {j:Nat} (h:sps[j]?=some t):atI (sps.map Sp.toD) (j:Int)=some t.toD:=zB (by simp [h])
theorem mv_get {i:Nat} {d:D} (h:(ms.map mvD)[i]?=some d):∃ m,ms[i]?=some m/\d=mvD m:=by
 rw [QE] at h
 obtain ⟨m,e,rfl⟩:=Ph.mp h
 exact ⟨m,e,rfl⟩
theorem goes_on_ok {t:Sp} {m:Mv} (h:sps[m.1]?=some t) (ho:m.2.isSome=t.d.tk):mq17 [JK sps,mvD m,.int t.p]=some (.bl true):=by
 refine Wo.eq ?_
 unfold mq17 bq17
 rw [yZ]
 refine ⟨rfl,?_⟩
 simp only [Zh,zMap,zLen,List.replicate,zApp,QK,Nat.reduceAdd,Nat.reduceSub]
 have e0:∀ z,fIx (zj false (zb 1)) (fC (.int 0)) [some (JK sps),some (mvD m),some (.int t.p),z]=some (.int (m.1:Nat)):=fun z=>Zp (ZH (ds:=[.int (m.1:Nat),oD m.2]) rfl) rfl (zB (j:=0) rfl)
 have hlt:=(Qm.mp h).1
 rw [zF]
 refine Jt (not_t (Zv (chainv rfl (e0 none) (lenv (ds:=sps.map Sp.toD) rfl) (by omega) (by rw [Ql];omega)))) ?_
 rw [Z2,zV,zy,zF]
 refine yf (d:=t.toD) (Zp (yB (ds:=sps.map Sp.toD) rfl) (e0 none) (sp_at h)) ?_
 simp only [zSet,zy]
 refine Jn (andV_t (f2v (Zp (ZH (ds:=[.int t.p,.int t.q,t.d.toD]) rfl) rfl (zB (j:=0) rfl)) rfl (by show ZJ (.int t.p) (.int t.p)=_;rw [dEqS_self])) (f2v (fA1 (Zp (ZH (ds:=[.int t.p,.int t.q,t.d.toD]) rfl) rfl (zB (j:=2) rfl)) (WG t.d)) (f2v (Zp (ZH (ds:=[.int (m.1:Nat),oD m.2]) rfl) rfl (zB (j:=1) rfl)) rfl dNotN_) ?_)) rfl
 have:YA (oD m.2)=!t.d.tk:=by
  rw [<- ho]
  cases m.2 <;> rfl
 rw [this,Bool.not_not]
 cases t.d.tk <;> rfl
def plD (sps:List Sp) (mm:Nat) (ms:List Mv) (k:Nat):D:=.int (stA sps (s0 mm) ms k).1
theorem jq (h:Good mm sps ms) (hl:ms.length<=100000):mq16 [JK sps,mvsD ms]=some (.lst ((List.range (ms.length+1)).map (plD sps mm ms))):=by
 refine Wo.eq ?_
 unfold mq16 bq16
 rw [yZ]
 refine ⟨rfl,?_⟩
 simp only [Zh,zMap,zLen,List.replicate,zApp,QK,Nat.reduceAdd,Nat.reduceSub]
 rw [zF]
 refine new_ (jI (d:=.int 0) rfl) (by simp) ?_
 simp only [zSet,zy]
 rw [zF,W8,yB (ds:=ms.map mvD) rfl,oB]
 refine Jh (fun i ρ=>i<=ms.length/\∃ z:Option D,ρ=[some (JK sps),some (mvsD ms),some (.lst ((List.range (i+1)).map (plD sps mm ms))),z]) ⟨by omega,none,?_⟩ ?_ ?_
 ·show _=[some (JK sps),some (mvsD ms),some (.lst [plD sps mm ms 0]),none]
  unfold plD
  rw [JL]
  rfl
 ·rintro i d ρ hd ⟨hi,z,rfl⟩
  obtain ⟨m,em,rfl⟩:=mv_get hd
  have hlt:=(Qm.mp em).1
  obtain ⟨t,e1,e2,e3,_⟩:=h.at_ i m em
  rw [jw,zV]
  simp only [zSet]
  rw [zF]
  refine Jt (not_t (Zv (fA3 (x:=JK sps) (y:=mvD m) (z:=.int t.p) rfl rfl (Zp (yB (ds:=(List.range (i+1)).map (plD sps mm ms)) rfl) (f1v rfl dNeg_) (by rw [atI_rng];unfold plD;rw [e2])) (goes_on_ok e1 e3)))) ?_
  rw [Z2,zV,zy]
  refine upd_ (d:=.int t.q) (Zp (ZH (ds:=[.int t.p,.int t.q,t.d.toD]) (Zp (yB (ds:=sps.map Sp.toD) rfl) (Zp (ZH (ds:=[.int (m.1:Nat),oD m.2]) rfl) rfl (zB (j:=0) rfl)) (sp_at e1))) rfl (zB (j:=1) rfl)) rfl (W9 (size8 (by simp;omega))) ?_
  refine ⟨by omega,some (mvD m),?_⟩
  simp only [zSet]
  have:(D.int t.q)=plD sps mm ms (i+1):=by unfold plD;rw [JM em,nxt_at e1]
  rw [this,rng_app]
 ·rintro ρ ⟨_,z,rfl⟩
  rw [zy]
  refine Jn (z6 (d:=.lst ((List.range ((ms.map mvD).length+1)).map (plD sps mm ms))) rfl) ?_
  rw [Ql]
theorem s0_cat (h6:mm<=6) {f:Ev->Option D} {ρ:Ev} (e:f ρ=some (.int (mm:Nat))):J4 (Zo (ze (fC (.int 1)) zt)) (f2 gu (Zo (ze (fC (.int 0)) zt)) f) ρ=some (inD (s0 mm).2):=by
 have e2:gu (.tup [.int 0]) (.int (mm:Nat))=some (.tup (List.replicate mm (.int 0))):=by
  unfold gu
  simp only
  rw [KQ ⟨by simp,by omega,by simp;omega,by omega⟩,Q9,YV]
 rw [catT_ (tup1_ (d:=.int 1) rfl) (f2v (tup1_ (d:=.int 0) rfl) e e2) (by simp;omega)]
 unfold inD s0
 simp
theorem first_ok (h6:mm<=6) (bs:D):mq13 [.tup [.int (mm:Nat),bs]]=some (inD (s0 mm).2):=by
 refine wX rfl ?_
 unfold bq13
 rw [Jc,s0_cat h6 (Zp (ZH (ds:=[.int (mm:Nat),bs]) rfl) rfl (zB (j:=0) rfl))]
 rfl
def stD (sps:List Sp) (mm:Nat) (ms:List Mv) (k:Nat):D:=inD (stA sps (s0 mm) ms k).2
def rwD (sps:List Sp) (mm:Nat) (ms:List Mv) (k:Nat):D:=rowD (stA sps (s0 mm) ms k)
theorem zip_rows:∀ (l:List Nat),zipD (l.map (plD sps mm ms)) (l.map (stD sps mm ms))=l.map (rwD sps mm ms)
 | []=>rfl
 | k::l=>by
  have:=zip_rows l
  unfold zipD at this ⊢
  rw [Qq,Qq,Qq,List.zipWith_cons_cons,this]
  rfl
theorem ran_ok (h:Good mm sps ms) (h6:mm<=6) (hl:ms.length<=10000) {bs c e:D} (hp:mq4 [.tup [.int (mm:Nat),bs]]=some (.tup [c,JK sps,e])):mq12 [.tup [.int (mm:Nat),bs],mvsD ms]=some (.lst ((List.range (ms.length+1)).map (rwD sps mm ms))):=by
 refine Wo.eq ?_
 unfold mq12 bq12
 rw [yZ]
 refine ⟨rfl,?_⟩
 simp only [Zh,zMap,zLen,List.replicate,zApp,QK,Nat.reduceAdd,Nat.reduceSub]
 rw [zF]
 refine yf (d:=JK sps) (Zp (ZH (fA1 rfl hp)) rfl (zB (j:=1) rfl)) ?_
 simp only [zSet,zy]
 rw [zF]
 refine yf (fA2 rfl rfl (jq h (by omega))) ?_
 simp only [zSet,zy]
 rw [zF]
 refine Jt (Zv (f2v rfl rfl (by rw [dIsN_,isNon_l]))) ?_
 rw [Z2,zV,zy,zF]
 refine new_ (jI (fA1 rfl (first_ok h6 bs))) (by simp) ?_
 simp only [zSet,zy]
 rw [zF,W8,yB (ds:=ms.map mvD) rfl,oB]
 refine Jh (fun i ρ=>i<=ms.length/\∃ z:Option D,ρ=[some (.tup [.int (mm:Nat),bs]),some (mvsD ms),some (JK sps),some (.lst ((List.range (ms.length+1)).map (plD sps mm ms))),some (.lst ((List.range (i+1)).map (stD sps mm ms))),z]) ⟨by omega,none,?_⟩ ?_ ?_
 ·show _=[_,_,_,_,some (D.lst [stD sps mm ms 0]),none]
  unfold stD
  rw [JL]
 ·rintro i d ρ hd ⟨hi,z,rfl⟩
  obtain ⟨m,em,rfl⟩:=mv_get hd
  have hlt:=(Qm.mp em).1
  obtain ⟨t,e1,e2,e3,_⟩:=h.at_ i m em
  obtain ⟨s1,s2⟩:=WN h h6 i hi
  rw [jw,zV]
  simp only [zSet]
  refine upd_ (d:=stD sps mm ms (i+1)) (fA3 (x:=t.d.toD) (y:=oD m.2) (z:=stD sps mm ms i) (Zp (ZH (ds:=[.int t.p,.int t.q,t.d.toD]) (Zp (yB (ds:=sps.map Sp.toD) rfl) (Zp (ZH (ds:=[.int (m.1:Nat),oD m.2]) rfl) rfl (zB (j:=0) rfl)) (sp_at e1))) rfl (zB (j:=2) rfl)) (Zp (ZH (ds:=[.int (m.1:Nat),oD m.2]) rfl) rfl (zB (j:=1) rfl)) (Zp (yB (ds:=(List.range (i+1)).map (stD sps mm ms)) rfl) (f1v rfl dNeg_) atI_rng) ?_) rfl (W9 (size8 (by simp;omega))) ?_
  ·unfold stD
   rw [behind_ok t.d m.2 (h.ok t (QS e1)) e3 s1 h6 s2 (by omega),JM em,nxt_at e1]
  ·refine ⟨by omega,some (mvD m),?_⟩
   simp only [zSet]
   rw [rng_app]
 ·rintro ρ ⟨_,z,rfl⟩
  rw [zy]
  refine Jn (d:=.lst ((List.range (ms.length+1)).map (rwD sps mm ms))) ?_ rfl
  unfold gi
  rw [Ql,yB (ds:=(List.range (ms.length+1)).map (plD sps mm ms)) rfl,oB,yB (ds:=(List.range (ms.length+1)).map (stD sps mm ms)) rfl]
  show some (D.lst (zipD _ _))=_
  rw [zip_rows]
theorem is_run_ok (h:Good mm sps ms) (hl:ms.length<=10000) {bs c e:D} (hp:mq4 [.tup [.int (mm:Nat),bs]]=some (.tup [c,JK sps,e])):mq11 [.tup [.int (mm:Nat),bs],mvsD ms]=some (.bl true):=by
 refine wX rfl ?_
 unfold bq11
 rw [Jc,f2v (fA2 (Zp (ZH (fA1 rfl hp)) rfl (zB (j:=1) rfl)) rfl (jq h (by omega))) rfl dNotN_]
 rfl
end
variable {mm:Nat}
abbrev Zs:=Int×Nat
def zR (f:List Rq->Zs) (B:Nat->List Rq):Rq->Zs
 | .call k=>f (B k)
 | .either a b=>(1+((f a).1+(f b).1),2+((f a).2+(f b).2))
 | .loop a=>(1+(f a).1,2+(f a).2)
 | .one x _=>(1,if x="halt" then 0 else 1)
def zL (f:Rq->Zs):List Rq->Zs
 | []=>(0,0)
 | r::rs=>((f r).1+(zL f rs).1,(f r).2+(zL f rs).2)
def zS (B:Nat->List Rq):Nat->List Rq->Zs
 | 0=>fun _=>(0,0)
 | m+1=>zL (zR (zS B m) B)
theorem zL_snoc (f:Rq->Zs) (r:Rq):∀ rs,zL f (rs++[r])=((zL f rs).1+(f r).1,(zL f rs).2+(f r).2)
 | []=>by simp [zL]
 | x::rs=>by
  rw [Pe,zL,zL_snoc f r rs,zL]
  simp only [Prod.mk.injEq]
  omega
theorem zL_one (f:Rq->Zs) (r:Rq):zL f [r]=f r:=by simp [zL]
def cR (f:List Rq->Nat) (B:Nat->List Rq):Rq->Nat
 | .call k=>f (B k)
 | .either a b=>1+(f a+f b)
 | .loop _=>1
 | .one _ _=>1
def cL (f:Rq->Nat):List Rq->Nat
 | []=>0
 | r::rs=>f r+cL f rs
def cS (B:Nat->List Rq):Nat->List Rq->Nat
 | 0=>fun _=>0
 | m+1=>cL (cR (cS B m) B)
section
variable {B:Nat->List Rq} {nb:Nat} {g G:Nat->Nat}
def Adds (s s':Sx) (z:Zs):Prop:=s'.1=s.1+z.1/\∃ new,s'.2=s.2++new/\new.length=z.2
theorem WT {f:List Rq->Int->Sx->Int×Sx} {z:List Rq->Zs} (h:∀ rs p s,Adds s (f rs p s).2 (z rs)) (q:Int×Sx) (r:Rq):Adds q.2 (Zg f B q r).2 (zR z B r):=by
 cases r with
 | one x ps =>
  simp only [Zg,zR]
  refine ⟨rfl,?_⟩
  by_cases hx:x="halt"
  ·rw [KQ hx,KQ hx];exact ⟨[],by simp,rfl⟩
  ·rw [KR hx,KR hx];exact ⟨_,rfl,rfl⟩
 | call k=>exact h (B k) q.1 q.2
 | loop a =>
  simp only [Zg,zR]
  obtain ⟨h1,new,h2,h3⟩:=h a q.2.1 (q.2.1+1,q.2.2++[stp q.1 q.2.1 skD])
  refine ⟨by rw [h1];simp only;omega,[stp q.1 q.2.1 skD]++new++[stp (f a q.2.1 (q.2.1+1,q.2.2++[stp q.1 q.2.1 skD])).1 q.2.1 skD],by rw [h2];simp only [QY],by simp only [Qd,Qg,Qy,h3];omega⟩
 | either a b =>
  simp only [Zg,zR]
  obtain ⟨h1,new,h2,h3⟩:=h a q.1 q.2
  obtain ⟨k1,mew,k2,k3⟩:=h b q.1 (f a q.1 q.2).2
  refine ⟨by rw [k1,h1];omega,new++mew++[stp (f a q.1 q.2).1 (f b q.1 (f a q.1 q.2).2).2.1 skD,stp (f b q.1 (f a q.1 q.2).2).1 (f b q.1 (f a q.1 q.2).2).2.1 skD],by rw [k2,h2];simp only [QY],by simp only [Qd,Qg,Qy,h3,k3];omega⟩
theorem Adds.nil (s:Sx):Adds s s (0,0):=⟨by simp,[],by simp,rfl⟩
theorem Adds.trans {s s1 s2:Sx} {z z':Zs} (h:Adds s s1 z) (k:Adds s1 s2 z'):Adds s s2 (z.1+z'.1,z.2+z'.2):=by
 obtain ⟨h1,n,h2,h3⟩:=h
 obtain ⟨k1,n',k2,k3⟩:=k
 exact ⟨by rw [k1,h1];simp only;omega,n++n',by rw [k2,h2,QY],by rw [Qd,h3,k3]⟩
theorem ji:∀ (m:Nat) (rs:List Rq) (p:Int) (s:Sx),Adds s (lyS B m rs p s).2 (zS B m rs)
 | 0,rs,p,s=>.nil s
 | m+1,rs,p,s=>by
  rw [lyS,zS]
  suffices h:∀ (rs:List Rq) (q:Int×Sx),Adds q.2 (rs.foldl (Zg (lyS B m) B) q).2 (zL (zR (zS B m) B) rs) from h rs (p,s)
  intro rs
  induction rs with
  | nil=>intro q;exact .nil _
  | cons r rs ih=>intro q;rw [Pk,zL];exact (WT (ji m) q r).trans (ih _)
theorem c_le (hB:Bods mm B nb g G):∀ (m:Nat) (rs:List Rq),oks mm nb rs->cS B m rs<=szs G rs
 | 0,rs,_=>Q4 _
 | m+1,rs,ho=>by
  rw [cS]
  induction rs with
  | nil=>exact Q4 _
  | cons r rs ih =>
   rw [oks] at ho
   rw [cL,szs]
   have h1:=ih ho.2
   have h2:cR (cS B m) B r<=r.sz G:=by
    cases r with
    | one x ps=>simp [cR,Rq.sz]
    | call k =>
     have hk:k<nb:=by have:=ho.1;rwa [Rq.ok] at this
     simp only [cR,Rq.sz]
     exact Qv (c_le hB m (B k) (hB.ok k hk)) (hB.sz k hk)
    | loop a=>simp only [cR,Rq.sz];omega
    | either a b =>
     have o:=ho.1
     rw [Rq.ok] at o
     have h3:=c_le hB m a o.1.1
     have h4:=c_le hB m b o.2.1
     simp only [cR,Rq.sz];omega
   omega
def zD (z:Zs):D:=.tup [.int z.1,.int (z.2:Nat)]
theorem comp_no {u:D->Ev->Option Ev} {c:Ev->Option Bool} {e:Ev->Option D} (I:Ev->Prop):∀ (ds:List D) (ρ:Ev),I ρ->(∀ d ρ,I ρ->∃ ρ1,u d ρ=some ρ1/\c ρ1=some false/\I ρ1)->Yh u c e ds ρ=some []
 | [],ρ,_,_=>rfl
 | d::ds,ρ,hi,h=>by
  obtain ⟨ρ1,h1,h2,h3⟩:=h d ρ hi
  rw [Yh,h1,oB,h2,oB,KR (by decide)]
  exact comp_no I ds ρ1 h3 h
abbrev eltV:Ev->Option Bool:=zI (f2 dInT (fIx (zj false (zb 4)) (fC (.int 0))) (Zo (ze (fC (.str "either")) (ze (fC (.str "loop")) zt))))
theorem elt_t {x:Kw} {ps:List D} {ρ:Ev} (h:ρ[4]?=some (some (.tup (.str x::ps)))) (hx:x="either"\/x="loop"):eltV ρ=some true :=
 Zv (f2v (Y5 h) (yL rfl rfl) (dInT_t (xs:=["either","loop"]) (by simpa using hx) rfl))
theorem elt_f {x:Kw} {ps:List D} {ρ:Ev} (h:ρ[4]?=some (some (.tup (.str x::ps)))) (hx:x≠"either"/\x≠"loop"):eltV ρ=some false :=
 Zv (f2v (Y5 h) (yL rfl rfl) (dInT_f (xs:=["either","loop"]) (by simpa using hx) rfl))
end
variable {mm:Nat}
section
variable {B:Nat->List Rq} {nb:Nat} {g G:Nat->Nat}
theorem inner_ok {rz:List D->Option D} {z:List Rq->Zs} {bs:D} {r:Rq} (ho:r.ok mm nb) (hk:∀ k,r≠.call k) (hs:∀ x∈yu r,rz [.lst (qDs x),bs]=some (zD (z x))) {y0 y2 y3 y5 y6 y7:Option D} :
  ZX 1 (zj false (YT (zj false (zb 4)) (YS (fC (.int 1))) fNo)) (zP 8) eltV (fA rz (ze (zb 8) (ze (zb 1) zt))) [y0,some bs,y2,y3,some r.toD,y5,y6,y7]=some (.lst ((yu r).map fun x=>zD (z x))):=by
 have cut:∀ (x:Kw) (ps:List D),zj false (YT (zj false (zb 4)) (YS (fC (.int 1))) fNo) [y0,some bs,y2,y3,some (.tup (.str x::ps)),y5,y6,y7]=some ps:=fun x ps=>ZH ((gy (k:=1) (fl:=zj false (zb 4)) (ds:=.str x::ps) (ZH rfl) rfl (by omega) (by simp)).trans (by simp))
 cases r with
 | call k=>exact absurd rfl (hk k)
 | one x ps =>
  rw [Rq.ok] at ho
  rw [yO,gt,cut,oB]
  show (Yh _ _ _ _ [y0,some bs,y2,y3,some (.tup (.str x::ps)),y5,y6,y7,none]).bind Wi=_
  rw [comp_no (fun ρ=>∃ y,ρ=[y0,some bs,y2,y3,some (.tup (.str x::ps)),y5,y6,y7,y]) _ _ ⟨none,rfl⟩ ?_]
  ·exact Jg (ds:=[]) (yA (by simp))
  ·rintro d ρ ⟨y,rfl⟩
   exact ⟨_,rfl,elt_f (x:=x) (ps:=ps) rfl ⟨ho.1.2.2,ho.1.2.1⟩,_,rfl⟩
 | loop a =>
  rw [ym]
  refine yx (k:=1) [(.lst (qDs a),zD (z a))] (fun ρ=>∃ y,ρ=[y0,some bs,y2,y3,some (.tup [.str "loop",.lst (qDs a)]),y5,y6,y7,y]) (cut _ _) (by simp) ⟨none,rfl⟩ ?_
  rintro p ρ hp ⟨y,rfl⟩
  rw [Qs.mp hp]
  exact ⟨_,rfl,elt_t (x:="loop") (ps:=[.lst (qDs a)]) rfl (.inr rfl),fA2 rfl rfl (hs a (by simp [yu])),_,rfl⟩
 | either a b =>
  rw [ZU]
  refine yx (k:=1) [(.lst (qDs a),zD (z a)),(.lst (qDs b),zD (z b))] (fun ρ=>∃ y,ρ=[y0,some bs,y2,y3,some (.tup [.str "either",.lst (qDs a),.lst (qDs b)]),y5,y6,y7,y]) (cut _ _) (by simp) ⟨none,rfl⟩ ?_
  rintro p ρ hp ⟨y,rfl⟩
  simp only [Qc,Qn,or_false] at hp
  rcases hp with rfl | rfl
  ·exact ⟨_,rfl,elt_t (x:="either") (ps:=[.lst (qDs a),.lst (qDs b)]) rfl (.inl rfl),fA2 rfl rfl (hs a (by simp [yu])),_,rfl⟩
  ·exact ⟨_,rfl,elt_t (x:="either") (ps:=[.lst (qDs a),.lst (qDs b)]) rfl (.inl rfl),fA2 rfl rfl (hs b (by simp [yu])),_,rfl⟩
theorem sum_at {L:List Zs} {j:Nat} {w:Zs->Int} (hl:L.length<=100) (hj:∀ z:Zs,atI [D.int z.1,D.int (z.2:Nat)] (j:Nat)=some (.int (w z))) {f:Ev->Option D} (hf:∀ {ρ:Ev},f ρ=some (.int (j:Nat))) {y0 y1 y2 y3 y4 y5 y7:Option D} :
  fA YZ (zj true (ZX 1 (zj true (zb 6)) (zP 8) Yn (fIx (zj false (zb 8)) f))) [y0,y1,y2,y3,y4,y5,some (.lst (L.map zD)),y7]=some (.int (L.map w).sum):=by
 have ec:=yx (k:=1) (fl:=zj true (zb 6)) (u:=zP 8) (c:=Yn) (e:=fIx (zj false (zb 8)) f) (ρ:=[y0,y1,y2,y3,y4,y5,some (.lst (L.map zD)),y7]) (L.map fun z=>(zD z,.int (w z))) (fun ρ=>∃ y,ρ=[y0,y1,y2,y3,y4,y5,some (.lst (L.map zD)),y7,y])
  ((yB (ds:=L.map zD) rfl).trans (by rw [QV];rfl)) (by rw [Ql];omega) ⟨none,rfl⟩ (by
   rintro p ρ hp ⟨y,rfl⟩
   obtain ⟨z,hz,rfl⟩:=Q3.mp hp
   exact ⟨_,rfl,rfl,Zp (ZH (ds:=[.int z.1,.int (z.2:Nat)]) rfl) hf (hj z),_,rfl⟩)
 rw [fA_,yB ec,oB,QV]
 exact (congrArg YZ (show List.map _ L=(L.map w).map D.int by rw [QV];rfl)).trans gSum_
abbrev kvs3:List (Kw×Int):=[("either",2),("loop",2),("halt",0)]
theorem getC_ {x:Kw} {ps:List D} {ρ:Ev} {v:Int} (h:ρ[4]?=some (some (.tup (.str x::ps)))) (hv:(jJ kvs3 x).getD 1=v):fGetC kvs3 (fIx (zj false (zb 4)) (fC (.int 0))) 1 ρ=some (.int v):=by
 unfold fGetC
 rw [Y5 h,<- hv]
 rfl
theorem more_ok {rz:List D->Option D} {z:List Rq->Zs} {bs:D} {r:Rq} (ho:r.ok mm nb) (hk:∀ k,r≠.call k) (hs:∀ x∈yu r,rz [.lst (qDs x),bs]=some (zD (z x))) {y0 y2 y3 y5 y6 y7:Option D} {T:Out->Prop} (k:∀ a b,T (.nx [y0,some bs,y2,y3,some r.toD,some (zD (zR z B r)),a,b])) :
  Wo ((Zf (Zx 6 (ZX 1 (zj false (YT (zj false (zb 4)) (YS (fC (.int 1))) fNo)) (zP 8) eltV (fA rz (ze (zb 8) (ze (zb 1) zt)))))
  (Zf (Zx 7 (fGetC kvs3 (fIx (zj false (zb 4)) (fC (.int 0))) 1))
  (Zx 5 (Zo (ze (f2 Ze (fC (.int 1)) (fA YZ (zj true (ZX 1 (zj true (zb 6)) (zP 8) Yn (fIx (zj false (zb 8)) (fC (.int 0))))))) (ze (f2 Ze (zb 7) (fA YZ (zj true (ZX 1 (zj true (zb 6)) (zP 8) Yn (fIx (zj false (zb 8)) (fC (.int 1))))))) zt)))))) [y0,some bs,y2,y3,some r.toD,y5,y6,y7]) T:=by
 rw [zF]
 refine yf (inner_ok ho hk hs) ?_
 simp only [zSet,zy]
 obtain ⟨x,ps,v,e1,e2,e3⟩:∃ (x:Kw) (ps:List D) (v:Int),r.toD=.tup (.str x::ps)/\(jJ kvs3 x).getD 1=v/\zD (zR z B r)=.tup [.int (1+(((yu r).map z).map fun z=>z.1).sum),.int (v+(((yu r).map z).map fun z=>((z.2:Nat):Int)).sum)]:=by
  cases r with
  | call j=>exact absurd rfl (hk j)
  | one x ps =>
   rw [Rq.ok] at ho
   refine ⟨x,ps,if x="halt" then 0 else 1,yO x ps,?_,?_⟩
   ·have h1:("either":Kw)≠x:=fun e=>ho.1.2.2 e.symm
    have h2:("loop":Kw)≠x:=fun e=>ho.1.2.1 e.symm
    by_cases hx:x="halt"
    ·subst hx;decide
    ·have h3:("halt":Kw)≠x:=fun e=>hx e.symm
     simp [jJ,h1,h2,h3,hx]
   ·simp only [yu,zR,zD,Po,List.sum_nil,Int.add_zero]
    by_cases hx:x="halt"
    ·rw [KQ hx,KQ hx];rfl
    ·rw [KR hx,KR hx];rfl
  | loop a =>
   refine ⟨"loop",_,2,ym a,by decide,?_⟩
   simp [yu,zR,zD]
  | either a b =>
   refine ⟨"either",_,2,ZU a b,by decide,?_⟩
   simp [yu,zR,zD]
 rw [zF]
 refine yf (getC_ (x:=x) (ps:=ps) (by rw [<- e1];rfl) e2) ?_
 simp only [zSet,zy]
 have hl:((yu r).map z).length<=100:=by cases r <;> simp [yu]
 have s0:=fun y5 y7=>sum_at (L:=(yu r).map z) (j:=0) (w:=fun z=>z.1) (f:=fC (.int 0)) hl (fun z=>zB (j:=0) rfl) rfl (y0:=y0) (y1:=some bs) (y2:=y2) (y3:=y3) (y4:=some r.toD) (y5:=y5) (y7:=y7)
 have s1:=fun y5 y7=>sum_at (L:=(yu r).map z) (j:=1) (w:=fun z=>((z.2:Nat):Int)) (f:=fC (.int 1)) hl (fun z=>zB (j:=1) rfl) rfl (y0:=y0) (y1:=some bs) (y2:=y2) (y3:=y3) (y4:=some r.toD) (y5:=y5) (y7:=y7)
 simp only [QV] at s0 s1 e3
 refine yf (d:=zD (zR z B r)) ?_ ?_
 ·rw [e3]
  exact yL (f2v rfl (s0 _ _) yp) (f2v rfl (s1 _ _) yp)
 ·simp only [zSet]
  exact k _ _
theorem size_step (hB:Bods mm B nb g G) {n m:Nat} (ih:∀ x,oks mm nb x->rks g x<m->gK n [.lst (qDs x),zX B nb]=some (zD (zS B m x))) (rs:List Rq) (ho:oks mm nb rs) (hr:rks g rs<m+1):gK (n+1) [.lst (qDs rs),zX B nb]=some (zD (zS B (m+1) rs)):=by
 refine Wo.eq ?_
 rw [show gK (n+1)=yg 2 8 (bq23 (gK n)) by rw [gK]]
 unfold bq23
 rw [yZ]
 refine ⟨rfl,?_⟩
 simp only [Zh,zMap,zLen,List.replicate,zApp,QK,Nat.reduceAdd,Nat.reduceSub]
 generalize gK n=rz at ih ⊢
 rw [zF]
 refine yf (d:=.int 0) rfl ?_
 simp only [zSet,zy]
 rw [zF]
 refine yf (d:=.int 0) rfl ?_
 simp only [zSet,zy]
 rw [zF,W8,yB (ds:=qDs rs) rfl,oB]
 refine Jh (fun i ρ=>i<=rs.length/\∃ a b c d:Option D,ρ=[some (.lst (qDs rs)),some (zX B nb),some (.int (zL (zR (zS B m) B) (rs.take i)).1),some (.int ((zL (zR (zS B m) B) (rs.take i)).2:Nat)),a,b,c,d]) ⟨by omega,none,none,none,none,rfl⟩ ?_ ?_
 ·rintro i d ρ hd ⟨hi,a,b,c,e,rfl⟩
  rw [jY,QE] at hd
  obtain ⟨r,er,rfl⟩:=Ph.mp hd
  have hlt:=(Qm.mp er).1
  have hmem:=QS er
  have hro:=JW ho hmem
  have hrr:=JS (g:=g) hmem
  rw [jw,zV]
  simp only [zSet]
  have tk:rs.take (i+1)=rs.take i++[r]:=by rw [List.take_add_one,er];rfl
  have fin:∀ a b,Wo ((Zf (Zx 2 (f2 Ze (zb 2) (fIx (zj false (zb 5)) (fC (.int 0))))) (Zx 3 (f2 Ze (zb 3) (fIx (zj false (zb 5)) (fC (.int 1)))))) [some (.lst (qDs rs)),some (zX B nb),some (.int (zL (zR (zS B m) B) (rs.take i)).1),some (.int ((zL (zR (zS B m) B) (rs.take i)).2:Nat)),some r.toD,some (zD (zR (zS B m) B r)),a,b]) fun o=>match o with
    | .nx ρ2=>i+1<=rs.length/\∃ a b c d:Option D,ρ2=[some (.lst (qDs rs)),some (zX B nb),some (.int (zL (zR (zS B m) B) (rs.take (i+1))).1),some (.int ((zL (zR (zS B m) B) (rs.take (i+1))).2:Nat)),a,b,c,d]
    | .ct ρ2=>i+1<=rs.length/\∃ a b c d:Option D,ρ2=[some (.lst (qDs rs)),some (zX B nb),some (.int (zL (zR (zS B m) B) (rs.take (i+1))).1),some (.int ((zL (zR (zS B m) B) (rs.take (i+1))).2:Nat)),a,b,c,d]
    | .bk ρ2=>gJ (Z1 (Zo (ze (zb 2) (ze (zb 3) zt)))) (Wl fun d=>d=zD (zS B (m+1) rs)) (.nx ρ2)
    | .rt r=>gJ (Z1 (Zo (ze (zb 2) (ze (zb 3) zt)))) (Wl fun d=>d=zD (zS B (m+1) rs)) (.rt r):=fun a b=>by
   rw [zF]
   refine yf (f2v rfl (Zp (ZH (ds:=[.int (zR (zS B m) B r).1,.int ((zR (zS B m) B r).2:Nat)]) rfl) rfl (zB (j:=0) rfl)) yp) ?_
   simp only [zSet,zy]
   refine yf (f2v rfl (Zp (ZH (ds:=[.int (zR (zS B m) B r).1,.int ((zR (zS B m) B r).2:Nat)]) rfl) rfl (zB (j:=1) rfl)) yp) ?_
   simp only [zSet]
   refine ⟨by omega,some r.toD,some (zD (zR (zS B m) B r)),a,b,?_⟩
   rw [tk,zL_snoc]
   simp only [QP]
  rw [zF]
  by_cases hc:∃ k,r=.call k
  ·obtain ⟨k,rfl⟩:=hc
   rw [Rq.ok] at hro
   rw [Rq.rk] at hrr
   have h1:=hB.rk k hro
   rw [Ym] at fin ⊢
   refine if_t (kis (x:="call") (ps:=[.int (k:Nat)]) rfl) ?_
   refine yf (fA2 (Zp (yB rfl) (Zp (ZH (z6 rfl)) rfl (zB (j:=1) rfl)) (j7 hro)) rfl (ih (B k) (hB.ok k hro) (by omega))) ?_
   simp only [zSet,zy]
   exact fin _ _
  ·have hk:∀ k,r≠.call k:=fun k e=>hc ⟨k,e⟩
   obtain ⟨x,ps,ex,hx⟩:∃ (x:Kw) (ps:List D),r.toD=.tup (.str x::ps)/\x≠"call":=by
    cases r with
    | call k=>exact absurd rfl (hk k)
    | one x ps=>rw [Rq.ok] at hro;exact ⟨x,ps,yO x ps,hro.1.1⟩
    | loop a=>exact ⟨_,_,ym a,by decide⟩
    | either a b=>exact ⟨_,_,ZU a b,by decide⟩
   refine Jt (kno (x:=x) (ps:=ps) (by rw [<- ex];rfl) hx) ?_
   refine more_ok (B:=B) (z:=zS B m) hro hk (fun x hx=>ih x ?_ ?_) (fun a b=>?_)
   ·cases r with
    | one _ _=>simp [yu] at hx
    | call _=>simp [yu] at hx
    | loop a=>rw [Rq.ok] at hro;rw [Qs.mp hx];exact hro.1
    | either a b =>
     rw [Rq.ok] at hro
     simp only [yu,Qc,Qn,or_false] at hx
     rcases hx with rfl | rfl
     ·exact hro.1.1
     ·exact hro.2.1
   ·have:=subs_rk (g:=g) hx;omega
   ·rw [zy];exact fin a b
 ·rintro ρ ⟨_,a,b,c,d,rfl⟩
  rw [zy,jY,Ql,List.take_length]
  exact Jn (yL rfl rfl) rfl
theorem Y2 (hB:Bods mm B nb g G):∀ (m n:Nat),m<=n->∀ rs,oks mm nb rs->rks g rs<m->gK n [.lst (qDs rs),zX B nb]=some (zD (zS B m rs))
 | 0,n,_,rs,_,h=>by omega
 | m+1,0,h,rs,_,_=>by omega
 | m+1,n+1,h,rs,ho,hr=>size_step hB (fun x hx hx'=>Y2 hB m n (by omega) x hx hx') rs ho hr
end
variable {mm:Nat}
abbrev sx (a b c:List D) (d1 d2 d3:D):List D:=[.lst a,.lst b,.lst c,d1,d2,d3]
section
variable {a b c d1 d2 d3:D} {ρ:Ev} {S:List D} {i n:Nat} {f:Ev->Option D} {d:D}
theorem gs0:ZE (.dict sKs [a,b,c,d1,d2,d3]) (.str "moves")=some a:=rfl
theorem gs2:ZE (.dict sKs [a,b,c,d1,d2,d3]) (.str "stand")=some c:=rfl
theorem gs4:ZE (.dict sKs [a,b,c,d1,d2,d3]) (.str "over")=some d2:=rfl
theorem gs5:ZE (.dict sKs [a,b,c,d1,d2,d3]) (.str "at")=some d3:=rfl
theorem rd_ (h:f (ρ.set i (some (.dict sKs S)))=some d) (hf:d.flat=true):wRd i f ρ S=some (d,S):=by unfold wRd;rw [h,oB,KQ hf]
theorem rdB_ {g:Ev->Option Bool} {x:Bool} (h:g (ρ.set i (some (.dict sKs S)))=some x):ju i g ρ S=some (x,S):=by unfold ju;rw [h];rfl
theorem appK_ {ds:List D} (h:f (ρ.set i (some (.dict sKs S)))=some d) (h2:S[n]?=some (.lst ds)) (hf:d.flat=true) (hl:ds.length<=1000000):wK i n f ρ S=some (.nx ρ,S.set n (.lst (ds++[d]))):=by
 unfold wK
 rw [h,oB]
 simp only [h2]
 rw [KQ ⟨hf,size8 hl⟩]
theorem putK_ (h:f (ρ.set i (some (.dict sKs S)))=some d) (hf:d.flat=true):JG i n f ρ S=some (.nx ρ,S.set n d):=by unfold JG;rw [h,oB,KQ hf]
theorem stand_ {fk:Ev->Option D} {ds:List D} {k:Nat} (h:f (ρ.set i (some (.dict sKs S)))=some d) (h1:fk ρ=some (.int (k:Nat))) (h2:S[2]?=some (.lst ds)) (hf:d.flat=true) (hk:k<ds.length):wc i f fk ρ S=some (.nx ρ,S.set 2 (.lst (ds.set k d))):=by
 unfold wc
 rw [h,oB,h1,oB,asI_,oB]
 simp only [h2]
 rw [KQ hf,ixN_nat hk]
 rfl
end
theorem flat_row (q:Int) (c:List Int):(rowD (q,c)).flat=true:=by simp [rowD,inD,D.flat,Z5,Jx]
theorem flat_mv (m:Mv):(mvD m).flat=true:=by
 obtain ⟨j,o⟩:=m
 cases o <;> simp [mvD,oD,D.flat,Z5]
theorem Wu {h:Kc} {a b:List D} {c:List Int} {d1 d2 d3:D} {j:Nat} {o:Option Int} {q:Int} (ha:a.length<=100000) (hb:b.length<=100000):W5 [.adr h,.int (j:Nat),oD o,.int q] (sx a b (c.map .int) d1 d2 d3)=some (.non,sx (a++[mvD (j,o)]) (b++[rowD (q,c)]) (c.map .int) (.int q) d2 d3):=by
 refine YG (ρ1:=[some (.adr h),some (.int (j:Nat)),some (oD o),some (.int q)]) rfl ?_
 unfold bq24
 refine Zb (appK_ (d:=mvD (j,o)) (ds:=a) (yL rfl rfl) rfl (flat_mv _) (by omega)) ?_
 refine Zb (putK_ (d:=.int q) rfl rfl) ?_
 exact appK_ (d:=rowD (q,c)) (ds:=b) (yL rfl (tupL (f2v rfl rfl gs2))) rfl (flat_row q c) (by omega)
theorem next_ok (ns:List Int) {a b c d1 d2:D} {at_:Int} (hat:0<=at_):∃ v,∀ h:Kc,mq25 [.scr ns,.adr h] [a,b,c,d1,d2,.int at_]=some (.int v,[a,b,c,d1,d2,.int (at_+1)]):=by
 have q0:=QB (at_+1) (show (37:Int)≠0 by decide)
 have q1:=Qw (at_+1) (show (0:Int)<37 by decide)
 obtain ⟨v,ev⟩:=Ww ns (26+(at_+1) % 37) (by omega) (by omega)
 refine ⟨v.fdiv (1+(at_+1) / 37),fun h=>WC (d:=.int (v.fdiv (1+(at_+1) / 37))) rfl ?_⟩
 unfold bq25
 refine Zb (putK_ (d:=.int (at_+1)) (f2v (f2v rfl rfl gs5) rfl yp) rfl) ?_
 exact jo (rd_ (f2v (fA2 rfl (f2v rfl (f2v (f2v rfl rfl gs5) rfl (Z4 (by decide))) yp) ev) (f2v rfl (f2v (f2v rfl rfl gs5) rfl (Ys (by decide) (by decide))) yp) (dDivP_s (show (1+(at_+1) / 37)≠0 by omega))) rfl)
def sD (F:List Sp) (mm:Nat) (ms:List Mv) (o:Bool) (at_:Int):List D:=sx (ms.map mvD) ((List.range (ms.length+1)).map (rwD F mm ms)) ((stA F (s0 mm) ms ms.length).2.map .int) (.int (stA F (s0 mm) ms ms.length).1) (.bl o) (.int at_)
section
variable {F:List Sp} {ms:List Mv}
theorem Good.snoc (h:Good mm F ms) {j:Nat} {o:Option Int} {t:Sp} (e1:F[j]?=some t) (e2:t.p=(stA F (s0 mm) ms ms.length).1) (e3:o.isSome=t.d.tk) (e4:∀ n,o=some n->n.natAbs<2 ^ 30):Good mm F (ms++[(j,o)]):=by
 refine ⟨h.ok,fun i m e=>?_⟩
 rw [List.getElem?_append] at e
 split at e
 ·rename_i hi
  rw [Wp (Q2 hi)]
  exact h.at_ i m e
 ·rename_i hi
  have hz:i=ms.length:=by
   rcases Nat.eq_or_lt_of_le (Nat.le_of_not_lt hi) with q | q
   ·exact q.symm
   ·rw [Pz (by simp;omega)] at e;cases e
  subst hz
  rw [Nat.sub_self] at e
  cases e
  rw [Wp (Qh _)]
  exact ⟨t,e1,e2,e3,e4⟩
theorem JN {j:Nat} {o:Option Int} {t:Sp} (e1:F[j]?=some t):stA F (s0 mm) (ms++[(j,o)]) (ms++[(j,o)]).length=(t.q,t.d.go o (stA F (s0 mm) ms ms.length).2):=by
 rw [Qd,QA,JM (m:=(j,o)) (by simp),nxt_at (m:=(j,o)) e1,Wp (Qh _)]
theorem sD_snoc {j:Nat} {o:Option Int} {t:Sp} (e1:F[j]?=some t) {ov:Bool} {at_:Int}:sD F mm (ms++[(j,o)]) ov at_=sx (ms.map mvD++[mvD (j,o)]) ((List.range (ms.length+1)).map (rwD F mm ms)++[rowD (t.q,t.d.go o (stA F (s0 mm) ms ms.length).2)]) ((t.d.go o (stA F (s0 mm) ms ms.length).2).map .int) (.int t.q) (.bl ov) (.int at_):=by
 unfold sD
 rw [JN e1,Q8]
 have hr:(List.range ((ms++[(j,o)]).length+1)).map (rwD F mm (ms++[(j,o)]))=(List.range (ms.length+1)).map (rwD F mm ms)++[rowD (t.q,t.d.go o (stA F (s0 mm) ms ms.length).2)]:=by
  rw [List.range_succ,Q8]
  congr 1
  ·rw [Qd,QA]
   refine List.map_congr_left fun k hk=>?_
   unfold rwD
   rw [Wp (by have:=List.mem_range.mp hk;omega)]
  ·show [rwD F mm (ms++[(j,o)]) _]=_
   unfold rwD
   rw [JN e1]
 rw [hr]
 rfl
theorem skip_ok {h:Kc} {j:Nat} {t:Sp} (e1:F[j]?=some t) (hd:t.d=.skip) (hl:ms.length<=9000) {ov:Bool} {at_:Int}:W5 [.adr h,.int (j:Nat),.non,.int t.q] (sD F mm ms ov at_)=some (.non,sD F mm (ms++[(j,none)]) ov at_):=by
 rw [sD_snoc e1,hd]
 exact Wu (o:=none) (by simp;omega) (by simp;omega)
theorem dot_ok {ns st:List Int} {n:Nat} (hl:ns.length=st.length) (h7:st.length<=7) (h1:∀ x∈ns,x.natAbs<=2000000) (h2:∀ x∈st,x.natAbs<2 ^ n) (hn:n<=1000000) {a b d1 d2 d3:D} {bx:D} {x:Kw} {y0 y3 y4 y5 y6:Option D} :
  fA YZ (zj true (ZX 2 (fZip (zj false (fIx (zj false (zb 2)) (fC (.int 2)))) (zj true (f2 ZE (zb 1) (fC (.str "stand"))))) (wd (yr (zP 7) (yr (zP 8) wf))) Yn (f2 Yg (zb 7) (zb 8)))) [y0,some (.dict sKs [a,b,.lst (st.map .int),d1,d2,d3]),some (.tup [.str x,bx,.tup (ns.map .int)]),y3,y4,y5,y6]=some (.int (dot ns st)):=by
 obtain ⟨vs,e,hv,hP⟩:=Jz (k:=2) (fl:=fZip (zj false (fIx (zj false (zb 2)) (fC (.int 2)))) (zj true (f2 ZE (zb 1) (fC (.str "stand"))))) (u:=wd (yr (zP 7) (yr (zP 8) wf))) (c:=Yn) (e:=f2 Yg (zb 7) (zb 8)) (ρ:=[y0,some (.dict sKs [a,b,.lst (st.map .int),d1,d2,d3]),some (.tup [.str x,bx,.tup (ns.map .int)]),y3,y4,y5,y6]) (ds:=zipD (ns.map .int) (st.map .int))
  (fun i v=>v=ns.getD i 0*st.getD i 0) (fun ρ=>∃ y z:Option D,ρ=[y0,some (.dict sKs [a,b,.lst (st.map .int),d1,d2,d3]),some (.tup [.str x,bx,.tup (ns.map .int)]),y3,y4,y5,y6,y,z]) (by
   unfold fZip
   rw [ZH (Zp (ZH (z6 rfl)) rfl (zB (j:=2) rfl)),oB,yB (f2v rfl rfl gs2)]
   rfl) (by simp [zipD];omega) ⟨none,none,rfl⟩ (by
   rintro i d ρ hd ⟨y,z,rfl⟩
   obtain ⟨a1,a2,rfl⟩:=zip_at hd
   refine ⟨_,rfl,rfl,⟨_,f2v rfl rfl (yz (mulB (b21 (h1 _ (jM a1))) (h2 _ (jM a2)) (by omega))),_,rfl,rfl⟩,_,_,rfl⟩)
 have hz:(zipD (ns.map D.int) (st.map D.int)).length=st.length:=by simp [zipD];omega
 have ev:vs=List.zipWith (·*·) ns st:=ints_ext (by rw [hv,hz];simp;omega) fun i hi=>by
  have hi':i<st.length:=by simp at hi;omega
  rw [hP i (by rw [hz];exact hi'),dot_at (by omega) hi']
 rw [fA_,yB e,oB,gSum_,ev]
 rfl
end
variable {mm:Nat}
section
variable {F:List Sp} {ms:List Mv}
theorem pick4 (cell:Int):∃ w:Int,w.natAbs<2 ^ 30/\∀ {ρ:Ev},ρ[6]?=some (some (.int cell))->fIx (zj true (ZL (ze (fC (.int 0)) (ze (fC (.int 1)) (ze (f2 JB (f2 yN (f2 Y7 (zb 6) (fC (.int 7))) (fC (.int 21))) (fC (.int 10))) (ze (f2 JB (f2 yN (f2 Y7 (zb 6) (fC (.int 7))) (fC (.int 1999999999))) (fC (.int 999999999))) zt)))))) (f2 yN (f2 Y7 (zb 6) (fC (.int 3))) (fC (.int 4))) ρ=some (.int w):=by
 have q0:=QB (cell / 3) (show (4:Int)≠0 by decide)
 have q1:=Qw (cell / 3) (show (0:Int)<4 by decide)
 have r0:=QB (cell / 7) (show (21:Int)≠0 by decide)
 have r1:=Qw (cell / 7) (show (0:Int)<21 by decide)
 have u0:=QB (cell / 7) (show (1999999999:Int)≠0 by decide)
 have u1:=Qw (cell / 7) (show (0:Int)<1999999999 by decide)
 refine ⟨([0,1,cell / 7 % 21 - 10,cell / 7 % 1999999999 - 999999999]:List Int).getD (cell / 3 % 4).toNat 0,?_,fun {ρ} h6=>?_⟩
 ·have hlt:(cell / 3 % 4).toNat<4:=by omega
  have hmem:(([0,1,cell / 7 % 21 - 10,cell / 7 % 1999999999 - 999999999]:List Int).getD (cell / 3 % 4).toNat 0)∈([0,1,cell / 7 % 21 - 10,cell / 7 % 1999999999 - 999999999]:List Int):=jM (by simpa using hlt)
  have p30:(2:Nat) ^ 30=1073741824:=by decide
  rw [p30]
  simp only [Qc,Qn,or_false] at hmem
  rcases hmem with z | z | z | z <;> rw [z] <;> omega
 ·have e7:f2 Y7 (zb 6) (fC (.int 7)) ρ=some (.int (cell / 7)):=f2v (z6 h6) rfl (Ys (by decide) (by decide))
  refine Zp (ds:=([0,1,cell / 7 % 21 - 10,cell / 7 % 1999999999 - 999999999]:List Int).map D.int) ?_ (f2v (f2v (z6 h6) rfl (Ys (by decide) (by decide))) rfl (Z4 (by decide))) (Wx q0 q1)
  refine yB (ds:=([0,1,cell / 7 % 21 - 10,cell / 7 % 1999999999 - 999999999]:List Int).map D.int) ?_
  rw [fLst_,ZR,show fC (D.int 0) _=some (D.int 0) from rfl,oB,ZR,show fC (D.int 1) _=some (D.int 1) from rfl,oB,ZR,f2v (f2v e7 rfl (Z4 (by decide))) rfl sub_,oB,ZR,f2v (f2v e7 rfl (Z4 (by decide))) rfl sub_,oB]
  exact Jg (yA (by simp))
theorem plain_ok (ns:List Int) (hg:Good mm F ms) (h6:mm<=6) (hl:ms.length<=9000) {at_:Int} (ha:0<=at_) {j:Nat} {t:Sp} (hF:F[j]?=some t) (hp:t.p=(stA F (s0 mm) ms ms.length).1) :
  ∃ o at',(∀ h:Kc,mq26 [.scr ns,.adr h,t.d.toD,.int t.q,.int (j:Nat)] (sD F mm ms false at_)=some (.non,sD F mm (ms++[(j,o)]) false at'))/\0<=at'/\Good mm F (ms++[(j,o)]):=by
 obtain ⟨s1,s2⟩:=WN hg h6 ms.length (Qh _)
 have hok:=hg.ok t (QS hF)
 have sn:=fun o ov at_=>sD_snoc (mm:=mm) (ms:=ms) (j:=j) (o:=o) hF (ov:=ov) (at_:=at_)
 have gs:=fun o=>hg.snoc (j:=j) (o:=o) hF hp
 unfold sD
 generalize hst:(stA F (s0 mm) ms ms.length).2=st at *
 generalize hpl:(stA F (s0 mm) ms ms.length).1=pl at *
 generalize hrw:(List.range (ms.length+1)).map (rwD F mm ms)=rws at *
 have hrl:rws.length<=100000:=by rw [<- hrw];simp;omega
 have hml:(ms.map mvD).length<=100000:=by simp;omega
 cases hd:t.d with
 | skip =>
  rw [hd] at sn gs
  refine ⟨none,at_,fun h=>?_,ha,gs none rfl fun n z=>by cases z⟩
  have:=sn none false at_
  unfold sD at this
  rw [this]
  refine YG (ρ1:=[some (.scr ns),some (.adr h),some skD,some (.int t.q),some (.int (j:Nat)),some .non,none]) rfl ?_
  unfold bq26
  refine Zb (yF (wl_ rfl)) ?_
  refine Zb (yc (wl_ (kno (x:="skip") (ps:=[]) rfl (by decide))) rfl) ?_
  refine Zb (yc (wl_ (kno (x:="skip") (ps:=[]) rfl (by decide))) rfl) ?_
  exact yh (ZP (zu (wl_ rfl) (zu (wl_ rfl) (zu (wl_ rfl) (zu (wl_ rfl) ZT)))) (Wu (o:=none) hml hrl))
 | take b =>
  rw [hd] at sn gs hok
  have hb:b<mm:=hok
  obtain ⟨v,ev⟩:=next_ok ns (a:=.lst (ms.map mvD)) (b:=.lst rws) (c:=.lst (st.map .int)) (d1:=.int pl) (d2:=.bl false) ha
  obtain ⟨w,hw,ew⟩:=pick4 v
  refine ⟨some w,at_+1,fun h=>?_,by omega,gs (some w) rfl fun n z=>by cases z;exact hw⟩
  have:=sn (some w) false (at_+1)
  unfold sD at this
  rw [this]
  have est:(Dd.take b).go (some w) st=st.set (b+1) w:=rfl
  rw [est]
  refine YG (ρ1:=[some (.scr ns),some (.adr h),some (.tup [.str "take",.int (b:Nat)]),some (.int t.q),some (.int (j:Nat)),some (.int w),some (.int v)]) rfl ?_
  unfold bq26
  refine Zb (yF (wl_ rfl)) ?_
  refine Zb (S1:=sx (ms.map mvD) rws ((st.set (b+1) w).map .int) (.int pl) (.bl false) (.int (at_+1))) (ρ1:=[some (.scr ns),some (.adr h),some (.tup [.str "take",.int (b:Nat)]),some (.int t.q),some (.int (j:Nat)),some (.int w),some (.int v)]) (yU (wl_ (kis (x:="take") (ps:=[.int (b:Nat)]) rfl)) ?_) ?_
  ·refine Zb (yF (ZP (zu (wl_ rfl) (zu (wl_ rfl) ZT)) (ev h))) ?_
   refine Zb (yF (wl_ (ew rfl))) ?_
   refine (stand_ (ds:=st.map .int) (d:=.int w) (k:=b+1) rfl ((f2v (Zp (ZH (z6 rfl)) rfl (zB (j:=1) rfl)) rfl yp).trans (by rw [QP];rfl)) rfl rfl (by rw [Ql];omega)).trans ?_
   rw [List.map_set]
   rfl
  refine Zb (yc (wl_ (kno (x:="take") (ps:=[.int (b:Nat)]) rfl (by decide))) rfl) ?_
  exact yh (ZP (zu (wl_ rfl) (zu (wl_ rfl) (zu (wl_ rfl) (zu (wl_ rfl) ZT)))) (Wu (o:=some w) hml hrl))
 | set b l =>
  rw [hd] at sn gs hok
  obtain ⟨hb,hll,hlb⟩:b<mm/\l.length=mm+1/\∀ n∈l,n.natAbs<=2000000:=hok
  refine ⟨none,at_,fun h=>?_,ha,gs none rfl fun n z=>by cases z⟩
  have:=sn none false at_
  unfold sD at this
  rw [this]
  have est:(Dd.set b l).go none st=st.set (b+1) (dot l st):=rfl
  rw [est]
  refine YG (ρ1:=[some (.scr ns),some (.adr h),some (.tup [.str "set",.int (b:Nat),.tup (l.map .int)]),some (.int t.q),some (.int (j:Nat)),some .non,none]) rfl ?_
  unfold bq26
  refine Zb (yF (wl_ rfl)) ?_
  refine Zb (yc (wl_ (kno (x:="set") (ps:=[.int (b:Nat),.tup (l.map .int)]) rfl (by decide))) rfl) ?_
  refine Zb (S1:=sx (ms.map mvD) rws ((st.set (b+1) (dot l st)).map .int) (.int pl) (.bl false) (.int at_)) (ρ1:=[some (.scr ns),some (.adr h),some (.tup [.str "set",.int (b:Nat),.tup (l.map .int)]),some (.int t.q),some (.int (j:Nat)),some .non,none]) (yU (wl_ (kis (x:="set") (ps:=[.int (b:Nat),.tup (l.map .int)]) rfl)) ?_) ?_
  ·refine (stand_ (ds:=st.map .int) (d:=.int (dot l st)) (k:=b+1) (dot_ok (by omega) (by omega) hlb s2 (by omega)) ((f2v (Zp (ZH (z6 rfl)) rfl (zB (j:=1) rfl)) rfl yp).trans (by rw [QP];rfl)) rfl rfl (by rw [Ql];omega)).trans ?_
   rw [List.map_set]
   rfl
  exact yh (ZP (zu (wl_ rfl) (zu (wl_ rfl) (zu (wl_ rfl) (zu (wl_ rfl) ZT)))) (Wu (o:=none) hml hrl))
end
variable {mm:Nat}
def Bd (n n' c z:Nat):Prop:=n<=n'/\(150<=n->n'<=n+c)/\(n<150->n'+c<=150+2*z)
def Rm (n c z:Nat):Prop:=(150<=n->n+c<=9000)/\(n<150->150+2*z<=9000)
theorem Bd.seq {n n1 n2 c c' z z':Nat} (h:Bd n n1 c z) (k:Bd n1 n2 c' z') (h1:c<=z) (h2:c'<=z'):Bd n n2 (c+c') (z+z'):=by
 unfold Bd at *
 by_cases a:150<=n <;> by_cases b:150<=n1 <;> omega
theorem Bd.stay {n n1 c c' z z':Nat} (h:Bd n n1 c z) (h2:c'<=z'):Bd n n1 (c+c') (z+z'):=by
 unfold Bd at *
 omega
theorem Rm.next {n n1 c c' C z z' Z:Nat} (h:Rm n C Z) (k:Bd n n1 c z) (h1:c+c'<=C) (h2:z+z'<=Z) (h3:c'<=z'):Rm n1 c' z':=by
 unfold Bd Rm at *
 by_cases a:150<=n <;> by_cases b:150<=n1 <;> omega
theorem Rm.small {n c z:Nat} (h:Rm n c z):n<=9000:=by
 unfold Rm at h
 by_cases a:150<=n <;> omega
theorem Bd.small {n n1 c z:Nat} (h:Rm n c z) (k:Bd n n1 c z):n1<=9000:=by
 unfold Rm at h
 unfold Bd at k
 by_cases a:150<=n <;> omega
theorem Bd.refl (n:Nat):Bd n n 0 0:=by unfold Bd;omega
structure Wk (F:List Sp) (mm:Nat) (p:Int) (ms:List Mv) (o:Bool) (at_:Int):Prop where
 good:Good mm F ms
 at0:0<=at_
 pl:o=false->(stA F (s0 mm) ms ms.length).1=p
def Pre (F:List Sp) (l:List D):Prop:=∃ Zc,F.map Sp.toD=l++Zc
theorem WX {F:List Sp} {l r:List D} {p q:Int} {d:D} (h:Pre F (l++stp p q d::r)):∃ t,F[l.length]?=some t/\t.p=p/\t.q=q/\t.d.toD=d:=by
 obtain ⟨Zc,e⟩:=h
 have:(F.map Sp.toD)[l.length]?=some (stp p q d):=by rw [e];simp
 rw [QE] at this
 obtain ⟨t,e1,e2⟩:=Ph.mp this
 refine ⟨t,e1,?_⟩
 unfold Sp.toD stp at e2
 simp only [D.tup.injEq,List.cons.injEq,D.int.injEq,and_true] at e2
 exact e2
theorem skip_of {d:Dd} (h:d.toD=skD):d=.skip:=by
 cases d with
 | skip=>rfl
 | take b=>simp [Dd.toD,skD] at h
 | set b l=>simp [Dd.toD,skD] at h
theorem Pre.less {F:List Sp} {l r:List D} (h:Pre F (l++r)):Pre F l:=by
 obtain ⟨Zc,e⟩:=h
 exact ⟨r++Zc,by rw [e,QY]⟩
section
variable {F:List Sp} {B:Nat->List Rq} {nb:Nat} {g G:Nat->Nat} {ns:List Int}
theorem fold_adds {m:Nat}:∀ (rs:List Rq) (q:Int×Sx),∃ new,(rs.foldl (Zg (lyS B m) B) q).2.2=q.2.2++new
 | [],q=>⟨[],by simp⟩
 | r::rs,q=>by
  rw [Pk]
  obtain ⟨_,n1,e1,_⟩:=WT (B:=B) (ji m) q r
  obtain ⟨n2,e2⟩:=fold_adds (m:=m) rs (Zg (lyS B m) B q r)
  exact ⟨n1++n2,by rw [e2,e1,QY]⟩
def bgD (s:Sx):D:=.tup [.int s.1,.int (s.2.length:Nat)]
def WkAt (R:List D->List D->Option (D×List D)) (F:List Sp) (mm:Nat) (B:Nat->List Rq) (nb:Nat) (G:Nat->Nat) (ns:List Int) (m:Nat) (rs:List Rq):Prop :=
 ∀ (p:Int) (s:Sx) (ms:List Mv) (at_:Int),Pre F (lyS B m rs p s).2.2->Wk F mm p ms false at_->Rm ms.length (cS B m rs) (szs G rs) ->
  ∃ ms' o' at',(∀ h:Kc,R [.scr ns,.adr h,.lst (qDs rs),zX B nb,bgD s] (sD F mm ms false at_)=some (.non,sD F mm ms' o' at'))/\Wk F mm (lyS B m rs p s).1 ms' o' at'/\Bd ms.length ms'.length (cS B m rs) (szs G rs)
theorem wm_ {m:Ev->Option Out} {ρ:Ev} {S:List D} {o:Out} (e:m ρ=some o):wM m ρ S=some (o,S):=by unfold wM;rw [e];rfl
theorem Y3 {ρ:Ev} {ms:List Mv} {o:Bool} {at_:Int} (hρ:1<ρ.length):ju 1 (Y0 (zI (f2 ZE (zb 1) (fC (.str "over"))))) ρ (sD F mm ms o at_)=some (!o,sD F mm ms o at_):=by
 refine rdB_ ?_
 have:zb 1 (ρ.set 1 (some (.dict sKs (sD F mm ms o at_))))=some (.dict sKs (sD F mm ms o at_)):=z6 (zH hρ)
 rw [fNot_,Zv (b:=o) (f2v this rfl gs4)]
 rfl
theorem jump_ok {ms:List Mv} {o:Bool} {at_:Int} {p q:Int} {j:Nat} {t:Sp} (w:Wk F mm p ms o at_) (e1:F[j]?=some t) (e2:t.p=p) (e3:t.q=q) (e4:t.d.toD=skD) (hl:ms.length<=9000) (ho:o=false) :
  (∀ h:Kc,W5 [.adr h,.int (j:Nat),.non,.int q] (sD F mm ms o at_)=some (.non,sD F mm (ms++[(j,none)]) o at_))/\Wk F mm q (ms++[(j,none)]) o at_:=by
 have hd:=skip_of e4
 refine ⟨fun h=>by rw [<- e3];exact skip_ok e1 hd hl,⟨w.good.snoc e1 (by rw [e2,w.pl ho]) (by rw [hd];rfl) (fun n z=>by cases z),w.at0,fun _=>?_⟩⟩
 rw [JN e1,e3]
theorem next_st (ns:List Int) {ms:List Mv} {o:Bool} {at_:Int} (ha:0<=at_):∃ v,∀ h:Kc,mq25 [.scr ns,.adr h] (sD F mm ms o at_)=some (.int v,sD F mm ms o (at_+1)):=next_ok ns ha
theorem Wk.tick {p:Int} {ms:List Mv} {o:Bool} {at_:Int} (w:Wk F mm p ms o at_):Wk F mm p ms o (at_+1):=⟨w.good,by have:=w.at0;omega,w.pl⟩
theorem E_either (n:Nat):(Zy (n+1)).1=yW 5 9 (bq27 (Zy n).1 (Zy n).2.1 (Zy n).2.2):=by rw [Zy]
theorem E_loop (n:Nat):(Zy (n+1)).2.1=yW 5 9 (bq28 (Zy n).1 (Zy n).2.1 (Zy n).2.2):=by rw [Zy]
theorem E_walk (n:Nat):(Zy (n+1)).2.2=yW 5 9 (bq29 (Zy n).1 (Zy n).2.1 (Zy n).2.2):=by rw [Zy]
theorem sizes_ok {z:List Rq->Zs} {bs:D} {a b:List Rq} (ha:mq23 [.lst (qDs a),bs]=some (zD (z a))) (hb:mq23 [.lst (qDs b),bs]=some (zD (z b))) {y0 y1 y4 y5 y6 y7 y8:Option D} :
  ZX 1 (zj false (YT (zj false (zb 2)) (YS (fC (.int 1))) fNo)) (zP 9) Yn (fA mq23 (ze (zb 9) (ze (zb 3) zt))) [y0,y1,some (.tup [.str "either",.lst (qDs a),.lst (qDs b)]),some bs,y4,y5,y6,y7,y8]=some (.lst [zD (z a),zD (z b)]):=by
 refine yx (k:=1) [(.lst (qDs a),zD (z a)),(.lst (qDs b),zD (z b))] (fun ρ=>∃ y,ρ=[y0,y1,some (.tup [.str "either",.lst (qDs a),.lst (qDs b)]),some bs,y4,y5,y6,y7,y8,y]) (ZH ((gy (k:=1) (fl:=zj false (zb 2)) (ds:=[.str "either",.lst (qDs a),.lst (qDs b)]) (ZH rfl) rfl (by omega) (by simp)).trans (by simp))) (by simp) ⟨none,rfl⟩ ?_
 rintro p ρ hp ⟨y,rfl⟩
 simp only [Qc,Qn,or_false] at hp
 rcases hp with rfl | rfl
 ·exact ⟨_,rfl,rfl,fA2 rfl rfl ha,_,rfl⟩
 ·exact ⟨_,rfl,rfl,fA2 rfl rfl hb,_,rfl⟩
theorem either_ok (hB:Bods mm B nb g G) {n m:Nat} (hm:m<=20) {a b:List Rq} (oa:oks mm nb a) (ob:oks mm nb b) (ra:rks g a<m) (rb:rks g b<m) (wa:WkAt (Zy n).2.2 F mm B nb G ns m a) (wb:WkAt (Zy n).2.2 F mm B nb G ns m b)
  (q:Int×Sx) (ms:List Mv) (at_:Int) (hp:Pre F (Zg (lyS B m) B q (.either a b)).2.2) (w:Wk F mm q.1 ms false at_) (hR:Rm ms.length (cR (cS B m) B (.either a b)) ((Rq.either a b).sz G)) :
  ∃ ms' o' at',(∀ h:Kc,(Zy (n+1)).1 [.scr ns,.adr h,(Rq.either a b).toD,zX B nb,bgD q.2] (sD F mm ms false at_)=some (.non,sD F mm ms' o' at'))/\Wk F mm (Zg (lyS B m) B q (.either a b)).1 ms' o' at'/\Bd ms.length ms'.length (cR (cS B m) B (.either a b)) ((Rq.either a b).sz G):=by
 simp only [Zg] at hp ⊢
 obtain ⟨a1,na,a2,a3⟩:=ji (B:=B) m a q.1 q.2
 generalize hx:lyS B m a q.1 q.2=x at *
 obtain ⟨b1,nb',b2,b3⟩:=ji (B:=B) m b q.1 x.2
 generalize hy:lyS B m b q.1 x.2=y at *
 have cb:=c_le hB m b ob
 have ca:=c_le hB m a oa
 simp only [cR,Rq.sz] at hR ⊢
 obtain ⟨t1,k1,k2,k3,k4⟩:=WX (l:=y.2.2) (r:=[stp y.1 y.2.1 skD]) hp
 obtain ⟨t2,g1,g2,g3,g4⟩:=WX (l:=y.2.2++[stp x.1 y.2.1 skD]) (r:=[]) (by rw [QY];exact hp)
 rw [Qd,QA] at g1
 have py:Pre F y.2.2:=hp.less
 have px:Pre F x.2.2:=by rw [b2] at py;exact py.less
 have ly:y.2.2.length=q.2.2.length+(zS B m a).2+(zS B m b).2:=by rw [b2,Qd,a2,Qd,a3,b3]
 have lx:x.2.2.length=q.2.2.length+(zS B m a).2:=by rw [a2,Qd,a3]
 obtain ⟨v,ev⟩:=next_st (F:=F) (mm:=mm) ns (ms:=ms) (o:=false) w.at0
 have w1:=w.tick
 have side:v % 2=0\/v % 2=1:=by omega
 have sa:=Y2 hB m 20 hm a oa ra
 have sb:=Y2 hB m 20 hm b ob rb
 obtain ⟨ms1,o1,at1,p1,ew,w2,bd⟩:∃ ms1 o1 at1 p1,(∀ h:Kc,wIf (wL (zI (f2 ZJ (zb 8) (fC (.int 0)))))
   (ZD (Zk 1 (Zy n).2.2 (zh (wL (zb 0)) (zh (wL (zb 1)) (zh (wL (fIx (zj false (zb 2)) (fC (.int 1)))) (zh (wL (zb 3)) (zh (wL (zb 4)) (wL zt))))))))
   (ZD (Zk 1 (Zy n).2.2 (zh (wL (zb 0)) (zh (wL (zb 1)) (zh (wL (fIx (zj false (zb 2)) (fC (.int 2)))) (zh (wL (zb 3)) (zh (wL (Zo (ze (f2 Ze (zb 5) (fIx (zj false (fIx (zj true (zb 7)) (fC (.int 0)))) (fC (.int 0)))) (ze (f2 Ze (zb 6) (fIx (zj false (fIx (zj true (zb 7)) (fC (.int 0)))) (fC (.int 1)))) zt)))) (wL zt))))))))
   [some (.scr ns),some (.adr h),some (.tup [.str "either",.lst (qDs a),.lst (qDs b)]),some (zX B nb),some (bgD q.2),some (.int q.2.1),some (.int (q.2.2.length:Nat)),some (.lst [zD (zS B m a),zD (zS B m b)]),some (.int (v % 2))] (sD F mm ms false (at_+1))=some (.nx [some (.scr ns),some (.adr h),some (.tup [.str "either",.lst (qDs a),.lst (qDs b)]),some (zX B nb),some (bgD q.2),some (.int q.2.1),some (.int (q.2.2.length:Nat)),some (.lst [zD (zS B m a),zD (zS B m b)]),some (.int (v % 2))],sD F mm ms1 o1 at1))/\Wk F mm p1 ms1 o1 at1 /\
   (Bd ms.length ms1.length (cS B m a+cS B m b) (szs G a+szs G b))/\(∃ (j:Nat) (t:Sp),(j:Int)=((y.2.2.length:Nat):Int)+v % 2/\F[j]?=some t/\t.p=p1/\t.q=y.2.1/\t.d.toD=skD):=by
  rcases side with hs | hs
  ·obtain ⟨ms1,o1,at1,e,w2,bd⟩:=wa q.1 q.2 ms (at_+1) (by rw [hx];exact px) w1 (by unfold Rm at *;omega)
   rw [hx] at w2
   refine ⟨ms1,o1,at1,x.1,fun h=>yU (wl_ (Zv (f2v rfl rfl (by rw [hs];exact dEqS_self)))) (yh (ZP (zu (wl_ rfl) (zu (wl_ rfl) (zu (wl_ (Zp (ZH (z6 rfl)) rfl (zB (j:=1) rfl))) (zu (wl_ rfl) (zu (wl_ rfl) ZT))))) (e h))),w2,bd.stay cb,y.2.2.length,t1,by omega,k1,k2,k3,k4⟩
  ·obtain ⟨ms1,o1,at1,e,w2,bd⟩:=wb q.1 x.2 ms (at_+1) (by rw [hy];exact py) w1 (by unfold Rm at *;omega)
   rw [hy] at w2
   have ebg:(D.tup [.int (q.2.1+(zS B m a).1),.int (((q.2.2.length:Nat):Int)+((zS B m a).2:Nat))])=bgD x.2:=by
    unfold bgD
    rw [a1,lx,QP]
   have hz0:∀ h:Kc,∀ j:Nat,∀ d,[D.int (zS B m a).1,D.int ((zS B m a).2:Nat)][j]?=some d->fIx (zj false (fIx (zj true (zb 7)) (fC (.int 0)))) (fC (.int (j:Nat))) [some (.scr ns),some (.adr h),some (.tup [.str "either",.lst (qDs a),.lst (qDs b)]),some (zX B nb),some (bgD q.2),some (.int q.2.1),some (.int (q.2.2.length:Nat)),some (.lst [zD (zS B m a),zD (zS B m b)]),some (.int (v % 2))]=some d:=fun h j d hj=>Zp (ZH (ds:=[D.int (zS B m a).1,D.int ((zS B m a).2:Nat)]) (Zp (yB (z6 rfl)) rfl (zB (j:=0) rfl))) rfl (zB hj)
   refine ⟨ms1,o1,at1,y.1,fun h=>yc (wl_ (Zv (f2v rfl rfl (by rw [hs];rfl)))) (yh (ZP (zu (wl_ rfl) (zu (wl_ rfl) (zu (wl_ (Zp (ZH (z6 rfl)) rfl (zB (j:=2) rfl))) (zu (wl_ rfl) (zu (wl_ ((yL (f2v rfl (hz0 h 0 _ rfl) yp) (f2v rfl (hz0 h 1 _ rfl) yp)).trans (by rw [ebg]))) ZT))))) (e h))),w2,?_,y.2.2.length+1,t2,by omega,g1,g2,g3,g4⟩
   have:=bd.stay ca
   rw [Nat.add_comm (cS B m a),Nat.add_comm (szs G a)]
   exact this
 obtain ⟨bd,j,t,ej,e1,e2,e3,e4⟩:=bd
 have hn1:ms1.length<=9000:=Bd.small (c:=cS B m a+cS B m b) (z:=szs G a+szs G b) (by unfold Rm at *;omega) bd
 have hz:∀ (h:Kc) (i k:Nat) (zz:Zs) d,[zD (zS B m a),zD (zS B m b)][i]?=some (zD zz)->[D.int zz.1,D.int (zz.2:Nat)][k]?=some d->fIx (zj false (fIx (zj true (zb 7)) (fC (.int (i:Nat))))) (fC (.int (k:Nat))) [some (.scr ns),some (.adr h),some (.tup [.str "either",.lst (qDs a),.lst (qDs b)]),some (zX B nb),some (bgD q.2),some (.int q.2.1),some (.int (q.2.2.length:Nat)),some (.lst [zD (zS B m a),zD (zS B m b)]),some (.int (v % 2))]=some d:=fun h i k zz d hi hk=>Zp (ZH (ds:=[D.int zz.1,D.int (zz.2:Nat)]) (Zp (yB (z6 rfl)) rfl (zB hi))) rfl (zB hk)
 have key:∃ ms' o' at',(∀ h:Kc,wIf (ju 1 (Y0 (zI (f2 ZE (zb 1) (fC (.str "over"))))))
   (ZD (Zk 0 W5 (zh (wL (zb 1)) (zh (wL (f2 Ze (f2 Ze (f2 Ze (zb 6) (fIx (zj false (fIx (zj true (zb 7)) (fC (.int 0)))) (fC (.int 1)))) (fIx (zj false (fIx (zj true (zb 7)) (fC (.int 1)))) (fC (.int 1)))) (zb 8))) (zh (wL (fC .non)) (zh (wL (f2 Ze (f2 Ze (zb 5) (fIx (zj false (fIx (zj true (zb 7)) (fC (.int 0)))) (fC (.int 0)))) (fIx (zj false (fIx (zj true (zb 7)) (fC (.int 1)))) (fC (.int 0))))) (wL zt)))))))
   yK [some (.scr ns),some (.adr h),some (.tup [.str "either",.lst (qDs a),.lst (qDs b)]),some (zX B nb),some (bgD q.2),some (.int q.2.1),some (.int (q.2.2.length:Nat)),some (.lst [zD (zS B m a),zD (zS B m b)]),some (.int (v % 2))] (sD F mm ms1 o1 at1)=some (.nx [some (.scr ns),some (.adr h),some (.tup [.str "either",.lst (qDs a),.lst (qDs b)]),some (zX B nb),some (bgD q.2),some (.int q.2.1),some (.int (q.2.2.length:Nat)),some (.lst [zD (zS B m a),zD (zS B m b)]),some (.int (v % 2))],sD F mm ms' o' at'))/\Wk F mm y.2.1 ms' o' at'/\Bd ms.length ms'.length (1+(cS B m a+cS B m b)) (2+(szs G a+szs G b)):=by
  cases o1 with
  | true =>
   refine ⟨ms1,true,at1,fun h=>yc (Y3 (by simp)) rfl,⟨w2.good,w2.at0,fun z=>by cases z⟩,?_⟩
   unfold Bd at *;omega
  | false =>
   obtain ⟨eg,w3⟩:=jump_ok w2 e1 e2 e3 e4 hn1 rfl
   refine ⟨_,false,at1,fun h=>yU (Y3 (by simp)) (yh (ZP (zu (wl_ rfl) (zu (wl_ (x:=.int (j:Nat)) ?_) (zu (wl_ rfl) (zu (wl_ (x:=.int y.2.1) ?_) ZT)))) (eg h))),w3,?_⟩
   ·refine (f2v (f2v (f2v rfl (hz h 0 1 _ _ rfl rfl) yp) (hz h 1 1 _ _ rfl rfl) yp) rfl yp).trans ?_
    rw [ej,ly,QP,QP]
   ·refine (f2v (f2v rfl (hz h 0 0 _ _ rfl rfl) yp) (hz h 1 0 _ _ rfl rfl) yp).trans ?_
    rw [b1,a1]
   ·rw [Qd,QA]
    unfold Bd at *;omega
 obtain ⟨ms',o',at',ek,w4,bd4⟩:=key
 refine ⟨ms',o',at',fun h=>?_,w4,bd4⟩
 rw [E_either,ZU]
 refine YG (ρ1:=[some (.scr ns),some (.adr h),some (.tup [.str "either",.lst (qDs a),.lst (qDs b)]),some (zX B nb),some (bgD q.2),some (.int q.2.1),some (.int (q.2.2.length:Nat)),some (.lst [zD (zS B m a),zD (zS B m b)]),some (.int (v % 2))]) rfl ?_
 unfold bq27
 refine Zb (ρ1:=[some (.scr ns),some (.adr h),some (.tup [.str "either",.lst (qDs a),.lst (qDs b)]),some (zX B nb),some (bgD q.2),some (.int q.2.1),some (.int (q.2.2.length:Nat)),none,none]) (wm_ rfl) ?_
 refine Zb (ρ1:=[some (.scr ns),some (.adr h),some (.tup [.str "either",.lst (qDs a),.lst (qDs b)]),some (zX B nb),some (bgD q.2),some (.int q.2.1),some (.int (q.2.2.length:Nat)),some (.lst [zD (zS B m a),zD (zS B m b)]),none]) (wm_ (by rw [mSet_,sizes_ok (z:=zS B m) sa sb];rfl)) ?_
 refine Zb (yF (w2_ (ZP (zu (wl_ rfl) (zu (wl_ rfl) ZT)) (ev h)) (wl_ rfl) (Z4 (by decide)))) ?_
 exact Zb (ew h) (ek h)
end
variable {mm:Nat}
theorem forR_ {F:WF} {u:D->Ev->Option Ev} {M1:WM} {ρ:Ev} {S S1:List D} {k:Nat} {r:Option (Out×List D)} (h:F ρ S=some (.int (k:Nat),S1)) (hk:k<=1000) (h2:Jw u M1 (yR 0 k) ρ S1=r):wForR F u M1 ρ S=r:=by
 unfold wForR
 rw [h,oB]
 exact wfor_ (rng1v (f:=fC (.int (k:Nat))) rfl hk) h2
theorem j6 {u:D->Ev->Option Ev} {M1:WM} {ρ ρ1 ρ2:Ev} {S S2:List D} {d:D} {ds:List D} {r:Option (Out×List D)} (h1:u d ρ=some ρ1) (h2:M1 ρ1 S=some (.nx ρ2,S2)) (h3:Jw u M1 ds ρ2 S2=r):Jw u M1 (d::ds) ρ S=r:=by
 rw [Jw,h1,oB,h2]
 exact h3
section
variable {F:List Sp} {B:Nat->List Rq} {nb:Nat} {g G:Nat->Nat} {ns:List Int}
abbrev E8 (ns:List Int) (h:Kc) (row bs:D) (s:Sx) (z:Zs) (y8:Option D):Ev:=[some (.scr ns),some (.adr h),some row,some bs,some (bgD s),some (.int s.1),some (.int (s.2.length:Nat)),some (zD z),y8]
theorem round_ok {n m:Nat} {a:List Rq} {s:Sx} {p:Int} {x:Int×Sx} {bs row:D} (hbs:bs=zX B nb) (hrow:row=.tup [.str "loop",.lst (qDs a)]) (wa:WkAt (Zy n).2.2 F mm B nb G ns m a) (hx:lyS B m a s.1 (s.1+1,s.2++[stp p s.1 skD])=x) (px:Pre F (x.2.2++[stp x.1 s.1 skD])) (lx:x.2.2.length=s.2.length+1+(zS B m a).2)
  (y8:Option D) (ms:List Mv) (o:Bool) (at_:Int) (w:Wk F mm s.1 ms o at_) (hR:Rm ms.length (cS B m a) (szs G a)) (hc:cS B m a<=szs G a) :
  ∃ ms' o' at',(∀ h:Kc,ZV (wIf (ju 1 (Y0 (zI (f2 ZE (zb 1) (fC (.str "over"))))))
  (ZD (Zk 1 (Zy n).2.2 (zh (wL (zb 0)) (zh (wL (zb 1)) (zh (wL (fIx (zj false (zb 2)) (fC (.int 1)))) (zh (wL (zb 3)) (zh (wL (Zo (ze (f2 Ze (zb 5) (fC (.int 1))) (ze (f2 Ze (zb 6) (fC (.int 1))) zt)))) (wL zt))))))))
  yK)
  (wIf (ju 1 (Y0 (zI (f2 ZE (zb 1) (fC (.str "over"))))))
  (ZD (Zk 0 W5 (zh (wL (zb 1)) (zh (wL (f2 Ze (f2 Ze (zb 6) (fC (.int 1))) (fIx (zj false (zb 7)) (fC (.int 1))))) (zh (wL (fC .non)) (zh (wL (zb 5)) (wL zt)))))))
  yK) (E8 ns h row bs s (zS B m a) y8) (sD F mm ms o at_)=some (.nx (E8 ns h row bs s (zS B m a) y8),sD F mm ms' o' at'))/\Wk F mm s.1 ms' o' at'/\ms.length<=ms'.length/\(150<=ms.length->ms'.length<=ms.length+cS B m a+1)/\(ms.length<150->ms'.length+cS B m a<=151+2*szs G a)/\(o=true->ms'=ms):=by
 cases o with
 | true =>
  refine ⟨ms,true,at_,fun h=>Zb (yc (Y3 (by simp)) rfl) (yc (Y3 (by simp)) rfl),⟨w.good,w.at0,fun z=>by cases z⟩,Qh _,?_,?_,fun _=>rfl⟩
  ·omega
  ·omega
 | false =>
  obtain ⟨ms1,o1,at1,e,w1,bd⟩:=wa s.1 (s.1+1,s.2++[stp p s.1 skD]) ms at_ (by rw [hx];exact px.less) w hR
  rw [hx] at w1
  have hn1:=Bd.small hR bd
  have ebg:(D.tup [.int (s.1+1),.int (((s.2.length:Nat):Int)+1)])=bgD (s.1+1,s.2++[stp p s.1 skD]):=by
   unfold bgD
   rw [Qd,QA,QP]
   rfl
  have e1:∀ h:Kc,wIf (ju 1 (Y0 (zI (f2 ZE (zb 1) (fC (.str "over"))))))
    (ZD (Zk 1 (Zy n).2.2 (zh (wL (zb 0)) (zh (wL (zb 1)) (zh (wL (fIx (zj false (zb 2)) (fC (.int 1)))) (zh (wL (zb 3)) (zh (wL (Zo (ze (f2 Ze (zb 5) (fC (.int 1))) (ze (f2 Ze (zb 6) (fC (.int 1))) zt)))) (wL zt))))))))
    yK (E8 ns h row bs s (zS B m a) y8) (sD F mm ms false at_)=some (.nx (E8 ns h row bs s (zS B m a) y8),sD F mm ms1 o1 at1):=fun h=>by
   subst hbs hrow
   exact yU (Y3 (by simp)) (yh (ZP (zu (wl_ rfl) (zu (wl_ rfl) (zu (wl_ (Zp (ZH (z6 rfl)) rfl (zB (j:=1) rfl))) (zu (wl_ rfl) (zu (wl_ ((yL (f2v rfl rfl yp) (f2v rfl rfl yp)).trans (by rw [ebg]))) ZT))))) (e h)))
  obtain ⟨t,k1,k2,k3,k4⟩:=WX (l:=x.2.2) (r:=[]) px
  cases o1 with
  | true =>
   refine ⟨ms1,true,at1,fun h=>Zb (e1 h) (yc (Y3 (by simp)) rfl),⟨w1.good,w1.at0,fun z=>by cases z⟩,?_,?_,?_,fun z=>by cases z⟩ <;> (unfold Bd at bd;omega)
  | false =>
   obtain ⟨eg,w3⟩:=jump_ok w1 k1 k2 k3 k4 hn1 rfl
   refine ⟨_,false,at1,fun h=>Zb (e1 h) (yU (Y3 (by simp)) (yh (ZP (zu (wl_ rfl) (zu (wl_ (x:=.int (x.2.2.length:Nat)) ?_) (zu (wl_ rfl) (zu (wl_ (x:=.int s.1) rfl) ZT)))) (eg h)))),w3,?_,?_,?_,fun z=>by cases z⟩
   ·refine (f2v (f2v rfl rfl yp) (Zp (ZH (ds:=[D.int (zS B m a).1,D.int ((zS B m a).2:Nat)]) rfl) rfl (zB (j:=1) rfl)) yp).trans ?_
    rw [lx,QP,QP]
    rfl
   all_goals (rw [Qd,QA];unfold Bd at bd;omega)
theorem loop_ok (hB:Bods mm B nb g G) {n m:Nat} (hm:m<=20) {a:List Rq} (oa:oks mm nb a) (ra:rks g a<m) (wa:WkAt (Zy n).2.2 F mm B nb G ns m a)
  (q:Int×Sx) (ms:List Mv) (at_:Int) (hp:Pre F (Zg (lyS B m) B q (.loop a)).2.2) (w:Wk F mm q.1 ms false at_) (hR:Rm ms.length (cR (cS B m) B (.loop a)) ((Rq.loop a).sz G)) :
  ∃ ms' o' at',(∀ h:Kc,(Zy (n+1)).2.1 [.scr ns,.adr h,(Rq.loop a).toD,zX B nb,bgD q.2] (sD F mm ms false at_)=some (.non,sD F mm ms' o' at'))/\Wk F mm (Zg (lyS B m) B q (.loop a)).1 ms' o' at'/\Bd ms.length ms'.length (cR (cS B m) B (.loop a)) ((Rq.loop a).sz G):=by
 simp only [Zg] at hp ⊢
 obtain ⟨p,s⟩:=q
 simp only at hp w ⊢
 obtain ⟨a1,na,a2,a3⟩:=ji (B:=B) m a s.1 (s.1+1,s.2++[stp p s.1 skD])
 generalize hx:lyS B m a s.1 (s.1+1,s.2++[stp p s.1 skD])=x at *
 have ca:=c_le hB m a oa
 simp only [cR,Rq.sz] at hR ⊢
 have lx:x.2.2.length=s.2.length+1+(zS B m a).2:=by rw [a2,Qd,a3,Qd,QA]
 obtain ⟨t,k1,k2,k3,k4⟩:∃ t,F[s.2.length]?=some t/\t.p=p/\t.q=s.1/\t.d.toD=skD:=by
  refine WX (l:=s.2) (r:=na++[stp x.1 s.1 skD]) ?_
  have:=hp
  rw [a2] at this
  simpa [QY] using this
 have hl0:=hR.small
 obtain ⟨eg,w1⟩:=jump_ok w k1 k2 k3 k4 hl0 rfl
 generalize hms1:ms++[(s.2.length,(none:Option Int))]=ms1 at *
 have l1:ms1.length=ms.length+1:=by rw [<- hms1,Qd,QA]
 obtain ⟨v,ev⟩:=next_st (F:=F) (mm:=mm) ns (ms:=ms1) (o:=false) w1.at0
 have wt:=w1.tick
 have sa:=Y2 hB m 20 hm a oa ra
 have q0:=QB v (show (3:Int)≠0 by decide)
 have q1:=Qw v (show (0:Int)<3 by decide)
 obtain ⟨k,hk,hk2,hk0⟩:∃ k:Nat,v % 3*(if decide (((ms1.length:Nat):Int)<150)=true then 1 else 0)=(k:Nat)/\k<=2/\(k≠0->ms1.length<150):=by
  by_cases hl:((ms1.length:Nat):Int)<150
  ·refine ⟨(v % 3).toNat,?_,by omega,fun _=>by omega⟩
   rw [KS hl,KQ rfl];omega
  ·refine ⟨0,?_,by omega,fun z=>absurd rfl z⟩
   rw [KU hl,KR (by decide),Int.mul_zero];rfl
 have hcnt:∀ (h:Kc) y8,w2 Yg (w2 yN (Zk 1 mq25 (zh (wL (zb 0)) (zh (wL (zb 1)) (wL zt)))) (wL (fC (.int 3)))) (wRd 1 (fA gk (ze (Yo (f2 dLt (fA j9 (zj true (f2 ZE (zb 1) (fC (.str "moves"))))) (fC (.int 150)))) zt))) (E8 ns h (.tup [.str "loop",.lst (qDs a)]) (zX B nb) s (zS B m a) y8) (sD F mm ms1 false at_)=some (.int (k:Nat),sD F mm ms1 false (at_+1)):=fun h y8=>by
  refine w2_ (w2_ (ZP (zu (wl_ rfl) (zu (wl_ rfl) ZT)) (ev h)) (wl_ rfl) (Z4 (by decide))) (d2:=.int (if decide (((ms1.length:Nat):Int)<150)=true then 1 else 0)) (rd_ ?_ rfl) ?_
  ·exact fA1 (Jf (f2v ((lenv (ds:=ms1.map mvD) (f2v (x:=.dict sKs (sD F mm ms1 false (at_+1))) rfl rfl gs0)).trans (by rw [Ql])) rfl lt_) rfl) gIntB
  ·rw [<- hk]
   refine yz (JX ?_ ?_)
   ·omega
   ·exact Int.lt_trans q1 (by decide)
 have rnd:=fun y8 ms o at_ w hR=>round_ok (ns:=ns) (F:=F) (mm:=mm) (nb:=nb) (G:=G) (bs:=zX B nb) (row:=.tup [.str "loop",.lst (qDs a)]) (s:=s) (p:=p) (x:=x) rfl rfl wa hx hp lx y8 ms o at_ w hR ca
 have rm1:ms1.length<150->Rm ms1.length (cS B m a) (szs G a):=fun z=>by unfold Rm at *;omega
 have body:∃ ms' o' at' y8,(∀ h:Kc,Jw (zP 8) (ZV (wIf (ju 1 (Y0 (zI (f2 ZE (zb 1) (fC (.str "over"))))))
  (ZD (Zk 1 (Zy n).2.2 (zh (wL (zb 0)) (zh (wL (zb 1)) (zh (wL (fIx (zj false (zb 2)) (fC (.int 1)))) (zh (wL (zb 3)) (zh (wL (Zo (ze (f2 Ze (zb 5) (fC (.int 1))) (ze (f2 Ze (zb 6) (fC (.int 1))) zt)))) (wL zt))))))))
  yK)
  (wIf (ju 1 (Y0 (zI (f2 ZE (zb 1) (fC (.str "over"))))))
  (ZD (Zk 0 W5 (zh (wL (zb 1)) (zh (wL (f2 Ze (f2 Ze (zb 6) (fC (.int 1))) (fIx (zj false (zb 7)) (fC (.int 1))))) (zh (wL (fC .non)) (zh (wL (zb 5)) (wL zt)))))))
  yK)) (yR 0 k) (E8 ns h (.tup [.str "loop",.lst (qDs a)]) (zX B nb) s (zS B m a) none) (sD F mm ms1 false (at_+1))=some (.nx (E8 ns h (.tup [.str "loop",.lst (qDs a)]) (zX B nb) s (zS B m a) y8),sD F mm ms' o' at'))/\Wk F mm s.1 ms' o' at'/\Bd ms.length ms'.length 1 (2+szs G a):=by
  match k,hk2,hk0 with
  | 0,_,_ =>
   refine ⟨ms1,false,at_+1,none,fun h=>rfl,wt,?_⟩
   unfold Bd;omega
  | 1,_,h0 =>
   have hl:=h0 (by decide)
   obtain ⟨ms2,o2,at2,e2,w3,c1,c2,c3,c4⟩:=rnd (some (.int (0+(0:Nat)))) ms1 false (at_+1) wt (rm1 hl)
   refine ⟨ms2,o2,at2,_,fun h=>j6 (d:=.int (0+(0:Nat))) (ds:=[]) rfl (e2 h) rfl,w3,?_⟩
   unfold Bd;omega
  | 2,_,h0 =>
   have hl:=h0 (by decide)
   obtain ⟨ms2,o2,at2,e2,w3,c1,c2,c3,c4⟩:=rnd (some (.int (0+(0:Nat)))) ms1 false (at_+1) wt (rm1 hl)
   have c3':=c3 hl
   obtain ⟨ms3,o3,at3,e3,w4,f1',f2',f3',f4'⟩:=rnd (some (.int (0+(1:Nat)))) ms2 o2 at2 w3 (by unfold Rm at *;omega)
   refine ⟨ms3,o3,at3,_,fun h=>j6 (d:=.int (0+(0:Nat))) (ds:=[.int (0+(1:Nat))]) rfl (e2 h) (j6 (ds:=[]) rfl (e3 h) rfl),w4,?_⟩
   unfold Bd
   by_cases z:150<=ms2.length <;> omega
 obtain ⟨ms',o',at',y8,eb,w5,bd⟩:=body
 refine ⟨ms',o',at',fun h=>?_,w5,bd⟩
 rw [E_loop,ym]
 refine YG (ρ1:=E8 ns h (.tup [.str "loop",.lst (qDs a)]) (zX B nb) s (zS B m a) y8) rfl ?_
 unfold bq28
 refine Zb (ρ1:=[some (.scr ns),some (.adr h),some (.tup [.str "loop",.lst (qDs a)]),some (zX B nb),some (bgD s),some (.int s.1),some (.int (s.2.length:Nat)),none,none]) (wm_ rfl) ?_
 refine Zb (yh (ZP (zu (wl_ rfl) (zu (wl_ rfl) (zu (wl_ rfl) (zu (wl_ rfl) ZT)))) (eg h))) ?_
 refine Zb (yF (wl_ (fA2 (Zp (ZH (z6 rfl)) rfl (zB (j:=1) rfl)) rfl sa))) ?_
 exact forR_ (hcnt h none) (by omega) (eb h)
end
variable {mm:Nat}
section
variable {F:List Sp} {B:Nat->List Rq} {nb:Nat} {g G:Nat->Nat} {ns:List Int}
abbrev E9 (ns:List Int) (h:Kc) (rows bs bg:D) (b:Sx) (y7 y8:Option D):Ev:=[some (.scr ns),some (.adr h),some rows,some bs,some bg,some (.int b.1),some (.int (b.2.length:Nat)),y7,y8]
theorem cr_le (hB:Bods mm B nb g G) (m:Nat) {r:Rq} (ho:r.ok mm nb):cR (cS B m) B r<=r.sz G:=by
 have:=c_le hB (m+1) [r] (by simp only [oks];exact ⟨ho,trivial⟩)
 simpa [cS,cL,szs] using this
theorem row_act (hB:Bods mm B nb g G) (h6:mm<=6) {n m:Nat} (hm:m<=20) (ih1:∀ x,oks mm nb x->rks g x<m->WkAt (Zy n).2.2 F mm B nb G ns m x) (ih2:∀ x,oks mm nb x->rks g x<m->WkAt (Zy (n+1)).2.2 F mm B nb G ns m x)
  {r:Rq} (ho:r.ok mm nb) (hr:r.rk g<m+1) {rows bg:D} (q:Int×Sx) (y8:Option D) (ms:List Mv) (o:Bool) (at_:Int) (hp:Pre F (Zg (lyS B m) B q r).2.2) (w:Wk F mm q.1 ms o at_) (hR:Rm ms.length (cR (cS B m) B r) (r.sz G)) :
  ∃ ms' o' at',(∀ h:Kc,wIf (ju 1 (Y0 (zI (f2 ZE (zb 1) (fC (.str "over"))))))
  (wIf (wL (zI (f2 ZJ (fIx (zj false (zb 7)) (fC (.int 0))) (fC (.str "halt")))))
  (JG 1 4 (fC (.bl true)))
  (wIf (wL (zI (f2 ZJ (fIx (zj false (zb 7)) (fC (.int 0))) (fC (.str "call")))))
  (ZD (Zk 1 (Zy (n+1)).2.2 (zh (wL (zb 0)) (zh (wL (zb 1)) (zh (wL (fIx (zj true (zb 3)) (fIx (zj false (zb 7)) (fC (.int 1))))) (zh (wL (zb 3)) (zh (wL (Zo (ze (zb 5) (ze (zb 6) zt)))) (wL zt))))))))
  (wIf (wL (zI (f2 ZJ (fIx (zj false (zb 7)) (fC (.int 0))) (fC (.str "either")))))
  (ZD (Zk 1 (Zy (n+1)).1 (zh (wL (zb 0)) (zh (wL (zb 1)) (zh (wL (zb 7)) (zh (wL (zb 3)) (zh (wL (Zo (ze (zb 5) (ze (zb 6) zt)))) (wL zt))))))))
  (wIf (wL (zI (f2 ZJ (fIx (zj false (zb 7)) (fC (.int 0))) (fC (.str "loop")))))
  (ZD (Zk 1 (Zy (n+1)).2.1 (zh (wL (zb 0)) (zh (wL (zb 1)) (zh (wL (zb 7)) (zh (wL (zb 3)) (zh (wL (Zo (ze (zb 5) (ze (zb 6) zt)))) (wL zt))))))))
  (ZD (Zk 1 mq26 (zh (wL (zb 0)) (zh (wL (zb 1)) (zh (wL (zb 7)) (zh (wL (zb 5)) (zh (wL (zb 6)) (wL zt))))))))))))
  yK (E9 ns h rows (zX B nb) bg q.2 (some r.toD) y8) (sD F mm ms o at_)=some (.nx (E9 ns h rows (zX B nb) bg q.2 (some r.toD) y8),sD F mm ms' o' at'))/\Wk F mm (Zg (lyS B m) B q r).1 ms' o' at'/\Bd ms.length ms'.length (cR (cS B m) B r) (r.sz G):=by
 have hc:=cr_le hB m ho
 have stay:Bd ms.length ms.length (cR (cS B m) B r) (r.sz G):=by unfold Bd;omega
 cases o with
 | true=>exact ⟨ms,true,at_,fun h=>yc (Y3 (by simp)) rfl,⟨w.good,w.at0,fun z=>by cases z⟩,stay⟩
 | false =>
  cases r with
  | one x ps =>
   rw [Rq.ok] at ho
   by_cases hx:x="halt"
   ·subst hx
    refine ⟨ms,true,at_,fun h=>yU (Y3 (by simp)) (yU (wl_ ?_) (putK_ rfl rfl)),⟨w.good,w.at0,fun z=>by cases z⟩,stay⟩
    exact kis (x:="halt") (ps:=ps) (by rw [yO];rfl)
   ·simp only [Zg,KR hx] at hp ⊢
    obtain ⟨t,k1,k2,k3,k4⟩:=WX (l:=q.2.2) (r:=[]) hp
    obtain ⟨o,at',e,ha,hg⟩:=plain_ok ns w.good h6 hR.small w.at0 k1 (by rw [k2,w.pl rfl])
    rw [k4,k3] at e
    have kn:∀ (h:Kc) y,x≠y->zI (f2 ZJ (fIx (zj false (zb 7)) (fC (.int 0))) (fC (.str y))) (E9 ns h rows (zX B nb) bg q.2 (some (Rq.one x ps).toD) y8)=some false:=fun h y hy=>kno (x:=x) (ps:=ps) (by rw [yO];rfl) hy
    refine ⟨_,false,at',fun h=>yU (Y3 (by simp)) (yc (wl_ (kn h _ hx)) (yc (wl_ (kn h _ ho.1.1)) (yc (wl_ (kn h _ ho.1.2.2)) (yc (wl_ (kn h _ ho.1.2.1)) (yh (ZP (zu (wl_ rfl) (zu (wl_ rfl) (zu (wl_ (by rw [yO];rfl)) (zu (wl_ rfl) (zu (wl_ rfl) ZT))))) (e h))))))),⟨hg,ha,fun _=>?_⟩,?_⟩
    ·rw [JN k1,k3]
    ·rw [Qd,QA]
     simp only [cR,Rq.sz] at hR ⊢
     unfold Bd;omega
  | call k =>
   rw [Rq.ok] at ho
   rw [Rq.rk] at hr
   have h1:=hB.rk k ho
   have h2:=hB.sz k ho
   have h3:=c_le hB m (B k) (hB.ok k ho)
   simp only [Zg] at hp ⊢
   simp only [cR,Rq.sz] at hR hc ⊢
   obtain ⟨ms',o',at',e,w',bd⟩:=ih2 (B k) (hB.ok k ho) (by omega) q.1 q.2 ms at_ hp w (by unfold Rm at *;omega)
   rw [Ym]
   refine ⟨ms',o',at',fun h=>yU (Y3 (by simp)) (yc (wl_ (kno (x:="call") (ps:=[.int (k:Nat)]) rfl (by decide))) (yU (wl_ (kis (x:="call") (ps:=[.int (k:Nat)]) rfl)) (yh (ZP (zu (wl_ rfl) (zu (wl_ rfl) (zu (wl_ (Zp (yB rfl) (Zp (ZH (z6 rfl)) rfl (zB (j:=1) rfl)) (j7 ho))) (zu (wl_ rfl) (zu (wl_ (yL rfl rfl)) ZT))))) (e h))))),w',?_⟩
   unfold Bd at *;omega
  | either a b =>
   have o:=ho
   rw [Rq.ok] at o
   rw [Rq.rk] at hr
   obtain ⟨ms',o',at',e,w',bd⟩:=either_ok hB hm o.1.1 o.2.1 (by omega) (by omega) (ih1 a o.1.1 (by omega)) (ih1 b o.2.1 (by omega)) q ms at_ hp w hR
   rw [ZU] at e ⊢
   exact ⟨ms',o',at',fun h=>yU (Y3 (by simp)) (yc (wl_ (kno (x:="either") (ps:=[.lst (qDs a),.lst (qDs b)]) rfl (by decide))) (yc (wl_ (kno (x:="either") (ps:=[.lst (qDs a),.lst (qDs b)]) rfl (by decide))) (yU (wl_ (kis (x:="either") (ps:=[.lst (qDs a),.lst (qDs b)]) rfl)) (yh (ZP (zu (wl_ rfl) (zu (wl_ rfl) (zu (wl_ rfl) (zu (wl_ rfl) (zu (wl_ (yL rfl rfl)) ZT))))) (e h)))))),w',bd⟩
  | loop a =>
   have o:=ho
   rw [Rq.ok] at o
   rw [Rq.rk] at hr
   obtain ⟨ms',o',at',e,w',bd⟩:=loop_ok hB hm o.1 (by omega) (ih1 a o.1 (by omega)) q ms at_ hp w hR
   rw [ym] at e ⊢
   exact ⟨ms',o',at',fun h=>yU (Y3 (by simp)) (yc (wl_ (kno (x:="loop") (ps:=[.lst (qDs a)]) rfl (by decide))) (yc (wl_ (kno (x:="loop") (ps:=[.lst (qDs a)]) rfl (by decide))) (yc (wl_ (kno (x:="loop") (ps:=[.lst (qDs a)]) rfl (by decide))) (yU (wl_ (kis (x:="loop") (ps:=[.lst (qDs a)]) rfl)) (yh (ZP (zu (wl_ rfl) (zu (wl_ rfl) (zu (wl_ rfl) (zu (wl_ rfl) (zu (wl_ (yL rfl rfl)) ZT))))) (e h))))))),w',bd⟩
end
variable {mm:Nat}
section
variable {F:List Sp} {B:Nat->List Rq} {nb:Nat} {g G:Nat->Nat} {ns:List Int}
theorem forU {α β:Type} {M1:WM} (f:α->D) (step:β->α->β) (I:List α->β->(Kc->Ev)->List D->Prop) {u:D->Ev->Option Ev} :
  ∀ (rs:List α),(∀ r Zc b ρ S,r::Zc <:+ rs->I (r::Zc) b ρ S->∃ (ρ1 ρ2:Kc->Ev) (S2:List D),(∀ h,u (f r) (ρ h)=some (ρ1 h))/\(∀ h,M1 (ρ1 h) S=some (.nx (ρ2 h),S2))/\I Zc (step b r) ρ2 S2)->∀ b ρ S,I rs b ρ S->∃ (ρ':Kc->Ev) (S':List D),(∀ h,Jw u M1 (rs.map f) (ρ h) S=some (.nx (ρ' h),S'))/\I [] (rs.foldl step b) ρ' S'
 | [],h,b,ρ,S,hI=>⟨ρ,S,fun _=>rfl,hI⟩
 | r::rs,h,b,ρ,S,hI=>by
  obtain ⟨ρ1,ρ2,S2,h1,h2,h3⟩:=h r rs b ρ S (List.suffix_refl _) hI
  obtain ⟨ρ',S',h4,h5⟩:=forU f step I rs (fun x Zc b ρ S hs hI=>h x Zc b ρ S (hs.trans (List.suffix_cons _ _)) hI) _ _ _ h3
  exact ⟨ρ',S',fun a=>by rw [Qq];exact j6 (h1 a) (h2 a) (h4 a),h5⟩
theorem oks_suf:∀ {l rs:List Rq},l <:+ rs->oks mm nb rs->oks mm nb l
 | l,rs,⟨t,e⟩,ho=>by
  subst e
  induction t with
  | nil=>exact ho
  | cons x t ih=>rw [Pe,oks] at ho;exact ih ho.2
theorem walk_step (hB:Bods mm B nb g G) (h6:mm<=6) {n m:Nat} (hm:m+1<=20) (ih1:∀ x,oks mm nb x->rks g x<m->WkAt (Zy n).2.2 F mm B nb G ns m x) (ih2:∀ x,oks mm nb x->rks g x<m->WkAt (Zy (n+1)).2.2 F mm B nb G ns m x)
  (rs:List Rq) (ho:oks mm nb rs) (hr:rks g rs<m+1):WkAt (Zy (n+2)).2.2 F mm B nb G ns (m+1) rs:=by
 intro p s ms at_ hp w hR
 rw [lyS] at hp ⊢
 rw [cS] at hR ⊢
 have key:=forU (M1:=ZV (wIf (ju 1 (Y0 (zI (f2 ZE (zb 1) (fC (.str "over"))))))
  (wIf (wL (zI (f2 ZJ (fIx (zj false (zb 7)) (fC (.int 0))) (fC (.str "halt")))))
  (JG 1 4 (fC (.bl true)))
  (wIf (wL (zI (f2 ZJ (fIx (zj false (zb 7)) (fC (.int 0))) (fC (.str "call")))))
  (ZD (Zk 1 (Zy (n+1)).2.2 (zh (wL (zb 0)) (zh (wL (zb 1)) (zh (wL (fIx (zj true (zb 3)) (fIx (zj false (zb 7)) (fC (.int 1))))) (zh (wL (zb 3)) (zh (wL (Zo (ze (zb 5) (ze (zb 6) zt)))) (wL zt))))))))
  (wIf (wL (zI (f2 ZJ (fIx (zj false (zb 7)) (fC (.int 0))) (fC (.str "either")))))
  (ZD (Zk 1 (Zy (n+1)).1 (zh (wL (zb 0)) (zh (wL (zb 1)) (zh (wL (zb 7)) (zh (wL (zb 3)) (zh (wL (Zo (ze (zb 5) (ze (zb 6) zt)))) (wL zt))))))))
  (wIf (wL (zI (f2 ZJ (fIx (zj false (zb 7)) (fC (.int 0))) (fC (.str "loop")))))
  (ZD (Zk 1 (Zy (n+1)).2.1 (zh (wL (zb 0)) (zh (wL (zb 1)) (zh (wL (zb 7)) (zh (wL (zb 3)) (zh (wL (Zo (ze (zb 5) (ze (zb 6) zt)))) (wL zt))))))))
  (ZD (Zk 1 mq26 (zh (wL (zb 0)) (zh (wL (zb 1)) (zh (wL (zb 7)) (zh (wL (zb 5)) (zh (wL (zb 6)) (wL zt))))))))))))
  yK)
  (ZV (Yr 8 (wL (fA mq23 (ze (ZL (ze (zb 7) zt)) (ze (zb 3) zt)))))
  (ZV (Yr 5 (wL (f2 Ze (zb 5) (fIx (zj false (zb 8)) (fC (.int 0))))))
  (Yr 6 (wL (f2 Ze (zb 6) (fIx (zj false (zb 8)) (fC (.int 1)))))))))
  Rq.toD (Zg (lyS B m) B) (fun Zc b ρ S=>∃ ms1 o at1 c z y7 y8,S=sD F mm ms1 o at1/\Wk F mm b.1 ms1 o at1/\Pre F (Zc.foldl (Zg (lyS B m) B) b).2.2/\ρ=(fun h=>E9 ns h (.lst (qDs rs)) (zX B nb) (bgD s) b.2 y7 y8)/\c+cL (cR (cS B m) B) Zc=cL (cR (cS B m) B) rs/\z+szs G Zc=szs G rs/\c<=z/\Bd ms.length ms1.length c z) (u:=zP 7) rs (by
  rintro r Zc b ρ S hs ⟨ms1,o,at1,c,z,y7,y8,rfl,w1,hp1,rfl,hc,hz,hcz,bd⟩
  have hor:=oks_suf hs ho
  rw [oks] at hor
  have hmem:r∈rs:=hs.subset Qt
  have hrk:=JS (g:=g) hmem
  rw [Pk] at hp1
  rw [cL] at hc
  rw [szs] at hz
  have hcr:=cr_le hB m hor.1
  have hcl:cL (cR (cS B m) B) Zc<=szs G Zc:=c_le hB (m+1) Zc hor.2
  obtain ⟨new,en⟩:=fold_adds (B:=B) (m:=m) Zc (Zg (lyS B m) B b r)
  have hp2:Pre F (Zg (lyS B m) B b r).2.2:=by rw [en] at hp1;exact hp1.less
  obtain ⟨ms2,o2,at2,e,w2',bd2⟩:=row_act hB h6 (by omega) ih1 ih2 hor.1 (by omega) (rows:=.lst (qDs rs)) (bg:=bgD s) b y8 ms1 o at1 hp2 w1 (hR.next bd (by omega) (by omega) hcr)
  obtain ⟨a1,na,a2,a3⟩:=WT (B:=B) (ji m) b r
  have es:=Y2 hB (m+1) 20 hm [r] (by simp only [oks];exact ⟨hor.1,trivial⟩) (by simp only [rks];omega)
  have ez:zS B (m+1) [r]=zR (zS B m) B r:=zL_one _ _
  rw [ez] at es
  generalize hzz:zR (zS B m) B r=zz at *
  refine ⟨fun h=>E9 ns h (.lst (qDs rs)) (zX B nb) (bgD s) b.2 (some r.toD) y8,fun h=>E9 ns h (.lst (qDs rs)) (zX B nb) (bgD s) (Zg (lyS B m) B b r).2 (some r.toD) (some (zD zz)),sD F mm ms2 o2 at2,fun h=>rfl,fun h=>?_,ms2,o2,at2,c+cR (cS B m) B r,z+r.sz G,_,_,rfl,w2',hp1,rfl,by omega,by omega,by omega,bd.seq bd2 hcz hcr⟩
  refine Zb (e h) ?_
  refine Zb (yF (wl_ (fA2 (jI rfl) rfl (by
   have:qDs [r]=[r.toD]:=by simp [qDs]
   rw [this] at es
   exact es)))) ?_
  refine Zb (yF (wl_ (f2v rfl (Zp (ZH (ds:=[D.int zz.1,D.int (zz.2:Nat)]) rfl) rfl (zB (j:=0) rfl)) yp))) ?_
  refine (yF (wl_ (f2v rfl (Zp (ZH (ds:=[D.int zz.1,D.int (zz.2:Nat)]) rfl) rfl (zB (j:=1) rfl)) yp))).trans ?_
  unfold E9
  rw [a1,a2,Qd,a3,QP]
  rfl) (p,s) (fun h=>E9 ns h (.lst (qDs rs)) (zX B nb) (bgD s) s none none) (sD F mm ms false at_) ⟨ms,false,at_,0,0,none,none,rfl,w,hp,rfl,by omega,by omega,Qh _,Bd.refl _⟩
 obtain ⟨ρ',S',e,ms',o',at',c,z,y7,y8,rfl,w',_,rfl,hc,hz,_,bd⟩:=key
 refine ⟨ms',o',at',fun h=>?_,w',?_⟩
 ·rw [E_walk]
  refine YG (ρ1:=E9 ns h (.lst (qDs rs)) (zX B nb) (bgD s) (List.foldl (Zg (lyS B m) B) (p,s) rs).2 y7 y8) rfl ?_
  unfold bq29
  refine Zb (ρ1:=E9 ns h (.lst (qDs rs)) (zX B nb) (bgD s) s none none) (wm_ rfl) ?_
  refine wfor_ (yB rfl) ?_
  have e':=e h
  rw [jY] at e' ⊢
  exact e'
 ·rw [cL,Nat.add_zero] at hc
  rw [szs,Nat.add_zero] at hz
  rw [<- hc,<- hz]
  exact bd
theorem WD (hB:Bods mm B nb g G) (h6:mm<=6):∀ (m n:Nat),2*m<=n->m<=20->∀ rs,oks mm nb rs->rks g rs<m->WkAt (Zy n).2.2 F mm B nb G ns m rs
 | 0,n,_,_,rs,_,hr=>by omega
 | m+1,n,hn,hm,rs,ho,hr=>by
  obtain ⟨n,rfl⟩:∃ k,n=k+2:=⟨n - 2,by omega⟩
  exact walk_step hB h6 hm (fun x hx hx'=>WD hB h6 m n (by omega) (by omega) x hx hx') (fun x hx hx'=>WD hB h6 m (n+1) (by omega) (by omega) x hx hx') rs ho hr
end
open RW (Py Fi)
theorem py_ne {n:Nat} {d:D} (h:Py n d) (hn:n<=64):dNeD d d=some (.bl false):=by
 have hp:j8 d=true:=by
  unfold j8 SeqAt.shaped
  rw [h.1,KS (Qv h.2 hn)];rfl
 unfold dNeD
 rw [KQ ⟨hp,hp⟩,eqD_self hp]
 rfl
theorem rows_py {rs:List (Int×List Int)}:Py 3 (.lst (rs.map rowD)):=.lst fun d hd=>by
 obtain ⟨s,_,rfl⟩:=Q3.mp hd
 refine Py.tup (n:=1) fun e he=>?_
 simp only [Qc,Qn,or_false] at he
 rcases he with rfl | rfl
 ·exact .int _ _
 ·refine Py.tup (n:=0) fun e he=>?_
  obtain ⟨x,_,rfl⟩:=Q3.mp he
  exact .int _ _
theorem pair_py (a b:Int):Py 1 (.tup [.int a,.int b]):=Py.tup (n:=0) fun e he=>by
 simp only [Qc,Qn,or_false] at he
 rcases he with rfl | rfl <;> exact .int _ _
theorem gs1 {a b c d1 d2 d3:D}:ZE (.dict sKs [a,b,c,d1,d2,d3]) (.str "rows")=some b:=rfl
theorem gs3 {a b c d1 d2 d3:D}:ZE (.dict sKs [a,b,c,d1,d2,d3]) (.str "place")=some d1:=rfl
theorem rows_eq (sps:List Sp) (mm:Nat) (ms:List Mv) (n:Nat):(List.range n).map (rwD sps mm ms)=((List.range n).map (stA sps (s0 mm) ms)).map rowD:=by
 rw [QV]
 rfl
theorem first_list {mm:Nat} (h6:mm<=6) {f:Ev->Option D} {ρ:Ev} (e:f ρ=some (.int (mm:Nat))):Wg (fL (ZL (ze (fC (.int 1)) zt))) (fL (fRep (fL (ZL (ze (fC (.int 0)) zt))) f)) ρ=some (.lst ((s0 mm).2.map .int)):=by
 rw [fCat_,fL_,jI (d:=.int 1) rfl,oB]
 show Option.bind (some [D.int 1]) _=_
 rw [oB,fL_,fRep_,fL_,jI (d:=.int 0) rfl,oB]
 show Option.bind (Option.bind (Option.bind (some [D.int 0]) _) asL) _=_
 rw [oB,e,oB]
 unfold dRep
 simp only
 rw [KQ ⟨by omega,by omega,size9 (by simp;omega)⟩,oB,Q9]
 show Option.bind (some _) _=_
 rw [oB,Jg (size9 (by simp;omega)),YV]
 unfold s0
 simp
theorem law_holds (ns:List Int) (hl:ns.length<=63):mq30 [.scr ns]=some (.bl true):=by
 refine Wo.eq ?_
 unfold mq30 bq30
 rw [yZ]
 refine ⟨rfl,?_⟩
 simp only [Zh,zMap,zLen,List.replicate,zApp,QK,Nat.reduceAdd,Nat.reduceSub]
 obtain ⟨v0,e0⟩:=Ww ns 0 (by omega) (by omega)
 have q0:=QB v0 (show (7:Int)≠0 by decide)
 have q1:=Qw v0 (show (0:Int)<7 by decide)
 obtain ⟨KM,hmany⟩:∃ n:Nat,v0 % 7=n:=⟨(v0 % 7).toNat,by omega⟩
 have hm:KM<=6:=by omega
 rw [zF]
 refine yf (d:=.int (KM:Nat)) (f2v (fA2 rfl rfl e0) rfl ((Z4 (by decide)).trans (by rw [hmany]))) ?_
 simp only [zSet,zy]
 obtain ⟨L,eL,l1,l4,hG⟩:=prog_ok ns (at_:=1) (KM:=KM) (by omega) hm 36
 obtain ⟨B,hB,eB,hr,hz,h0⟩:=trees l1 l4 hG
 rw [eB] at eL
 have hp:=laid_ok hB hr (by omega) (KM:Nat)
 have hst:=ly_st hB.toBods 20 (B 0) 0 (1,[]) (hB.ok 0 hB.pos) (fun d hd=>by cases hd)
 obtain ⟨a1,na,a2,a3⟩:=ji (B:=B) 20 (B 0) 0 (1,[])
 have hsz:=Y2 hB.toBods 20 20 (by omega) (B 0) (hB.ok 0 hB.pos) hr
 have hwk:=fun F=>WD (F:=F) (ns:=ns) hB.toBods hm 20 40 (by omega) (by omega) (B 0) (hB.ok 0 hB.pos) hr 0 (1,[])
 have hc:=c_le hB.toBods 20 (B 0) (hB.ok 0 hB.pos)
 generalize hnb:L.length=nb at *
 generalize hzz:zS B 20 (B 0)=zz at *
 generalize hrr:lyS B 20 (B 0) 0 (1,[])=r at *
 obtain ⟨F,eF,hok⟩:=steps_of r.2.2 hst
 have hlen:r.2.2.length=zz.2:=by rw [a2,Qd,a3];simp
 have hp':mq4 [.tup [.int (KM:Nat),zX B nb]]=some (.tup [.int r.2.1,JK F,.int r.1]):=by
  rw [hp]
  unfold ansD JK
  rw [eF]
 rw [zF]
 refine yf (fA4 rfl rfl rfl rfl eL) ?_
 simp only [zSet,zy]
 rw [zF]
 refine yf (fA1 rfl hp') ?_
 simp only [zSet,zy]
 have e10:∀ {ρ:Ev},ρ[2]?=some (some (.tup [.int (KM:Nat),zX B nb]))->fIx (zj false (zb 2)) (fC (.int 1)) ρ=some (zX B nb):=fun h2=>Zp (ZH (z6 h2)) rfl (zB (j:=1) rfl)
 have e11:∀ {ρ:Ev},ρ[2]?=some (some (.tup [.int (KM:Nat),zX B nb]))->fIx (zj true (fIx (zj false (zb 2)) (fC (.int 1)))) (fC (.int 0)) ρ=some (.lst (qDs (B 0))):=fun h2=>Zp (yB (e10 h2)) rfl (j7 (k:=0) (hB.pos))
 rw [zF]
 refine yf (d:=zD zz) (fA2 (e11 rfl) (e10 rfl) hsz) ?_
 simp only [zSet,zy]
 rw [zF]
 refine Jt (Zv (f2v (x:=.tup [.int (1+zz.1),.int (zz.2:Nat)]) ?_ (y:=.tup [.int (1+zz.1),.int (zz.2:Nat)]) ?_ (py_ne (pair_py _ _) (by omega)))) ?_
 ·refine (yL (Zp (ZH (z6 rfl)) rfl (zB (j:=0) rfl)) (lenv (ds:=F.map Sp.toD) (Zp (ZH (z6 rfl)) rfl (zB (j:=1) rfl)))).trans ?_
  rw [<- eF,hlen,a1]
 ·exact yL (f2v rfl (Zp (ZH (ds:=[D.int zz.1,D.int (zz.2:Nat)]) rfl) rfl (zB (j:=0) rfl)) yp) (Zp (ZH (ds:=[D.int zz.1,D.int (zz.2:Nat)]) rfl) rfl (zB (j:=1) rfl))
 rw [Z2,zV,zy,zF,W8,rng1v (n:=2) rfl (by omega),oB]
 refine Jh (fun _ ρ=>∃ a b c:Option D,ρ=[some (.scr ns),some (.int (KM:Nat)),some (.tup [.int (KM:Nat),zX B nb]),some (.tup [.int r.2.1,JK F,.int r.1]),some (zD zz),a,b,c]) ⟨none,none,none,rfl⟩ ?_ ?_
 ·rintro i d ρ hd ⟨y5,y6,y7,rfl⟩
  obtain ⟨hi,rfl⟩:=Jo hd
  rw [Int.zero_add,jw,zV]
  simp only [zSet]
  have w0:Wk F KM 0 [] false (11*((i:Nat):Int)):=⟨⟨hok,fun i m e=>by simp at e⟩,by omega,fun _=>by rw [Qy,JL];rfl⟩
  obtain ⟨ms,o,at_,ew,w,bd⟩:=hwk F [] (11*((i:Nat):Int)) ⟨[],by rw [<- eF];simp⟩ w0 (by unfold Rm;simp only [Qy];omega)
  have hml:ms.length<=9000:=by unfold Bd at bd;simp only [Qy] at bd;omega
  have est:=mState_eq (j1:=6) (j2:=7) (ρ:=[some (.scr ns),some (.int (KM:Nat)),some (.tup [.int (KM:Nat),zX B nb]),some (.tup [.int r.2.1,JK F,.int r.1]),some (zD zz),some (.int (i:Nat)),y6,y7]) (f1:=Wg (fL (ZL (ze (fC (.int 1)) zt))) (fL (fRep (fL (ZL (ze (fC (.int 0)) zt))) (zb 1)))) (f3:=ZL (ze (Zo (ze (fC (.int 0)) (ze (fA jk (zj true (zb 6))) zt))) zt)) (f6:=f2 Yg (fC (.int 11)) (zb 5))
   (M:=ZD (Zk 1 mq29 (zh (wL (zb 0)) (zh (wL (zb 7)) (zh (wL (fIx (zj true (fIx (zj false (zb 2)) (fC (.int 1)))) (fC (.int 0)))) (zh (wL (fIx (zj false (zb 2)) (fC (.int 1)))) (zh (wL (Zo (ze (fC (.int 1)) (ze (fC (.int 0)) zt)))) (wL zt))))))))
   (c:=(s0 KM).2.map .int) (b:=[rowD (0,(s0 KM).2)]) (d6:=.int (11*((i:Nat):Int))) (S':=sD F KM ms o at_) (first_list hm rfl) (jI (yL rfl (tupL (ds:=(s0 KM).2.map .int) rfl))) (f2v rfl rfl (yz (JX (by decide) (by decide)))) ⟨by simp,by simp,by decide,rfl,by simp [Z5,flat_row],Jx _⟩
   (fun s p=>yh (ZP (zu (wl_ rfl) (zu (wl_ rfl) (zu (wl_ (e11 rfl)) (zu (wl_ (e10 rfl)) (zu (wl_ (yL rfl rfl)) ZT))))) (ew p)))
  rw [zF,est,zV,zy]
  simp only [zSet]
  have hrun:=is_run_ok w.good (by omega) hp'
  have hran:=ran_ok w.good hm (by omega) hp'
  have emv:∀ {ρ:Ev},ρ[7]?=some (some (.dict sKs (sD F KM ms o at_)))->fA (fun ds=>some (.lst ds)) (zj true (f2 ZE (zb 7) (fC (.str "moves")))) ρ=some (mvsD ms):=fun h7=>by rw [fA_,yB (ds:=ms.map mvD) (f2v (z6 h7) rfl gs0)];rfl
  rw [zF]
  refine Jt (Zv (f2v (fA2 rfl (emv rfl) hrun) rfl rfl)) ?_
  rw [Z2,zV,zy,zF]
  refine Jt (Zv (f2v (fA2 rfl (emv rfl) hran) (f2v rfl rfl gs1) (py_ne (by rw [rows_eq];exact rows_py) (by omega)))) ?_
  rw [Z2,zV,zy]
  refine Jt ?_ ⟨_,rfl,_,_,_,rfl⟩
  cases o with
  | true =>
   rw [fAnd_,show Y0 (zI (f2 ZE (zb 7) (fC (.str "over")))) _=some false from not_t (Zv (f2v rfl rfl gs4))]
   rfl
  | false =>
   have hpl:=w.pl rfl
   rw [fAnd_,show Y0 (zI (f2 ZE (zb 7) (fC (.str "over")))) _=some true from by rw [fNot_,Zv (b:=false) (f2v rfl rfl gs4)];rfl,oB,KQ rfl]
   refine Zv (f2v (f2v rfl rfl gs3) (Zp (ZH (z6 rfl)) rfl (zB (j:=2) rfl)) ?_)
   rw [hpl]
   exact dNeS_self
 ·rintro ρ ⟨a,b,c,rfl⟩
  rw [zy]
  exact Jn rfl rfl
open PySem L2 M
open PySem.W (Frag)
theorem walk {l:PySem.W.OpenLaw} {q:Ki} {loose:List Kw} {XP:(Kw->Option Ka)->Kl->Prop} {YP:Kk->Kl->Prop} {d:DefRec} {K:Params->KC} (hn:l.most=some 63) (hdf:d.params.defaults=[]) (himp:PyProof.Rows.importsNone q=true) (htree:l.prog.given.tree=none)
  (hY:∀ (w:Kk) (h:Kl),YP w h->(K w.params).In h) (hd:d.name="law")
  (F:∀ (w:Kk) (mg:Kw->Option Ka) (h:Kl),(K w.params).In h->h.Ns Kf mg->∃ C Z,Txt (K w.params) mg C Z) :
  PySem.W.WalkO q loose XP YP l.row.toRowW d [] (fun f vs=>PySem.call f vs) :=
 walk_kn (k:=168) (x:="_law_script") (m:=mq30) (st:=top 40) hn hdf himp htree hY hd ⟨rfl,by decide,by decide,rfl⟩ (fun _ _ _ _ _ _ _=>rfl) (fun w mg h X G=>(F w mg h X G).elim fun _ T=>T.elim fun _ T=>⟨T.F30,fun base f fd q=>all_ok T q⟩) law_holds
end EV
theorem PySem.W.Fast.tw3059973851636842032:True:=trivial
theorem PySem.W.Fast.tw8253341399390599232:True:=trivial
theorem PySem.W.Fast.tw10704670555823957205:True:=trivial
theorem PySem.W.Fast.tw14777020470504107187:True:=trivial
theorem PySem.W.Fast.tw8433764957015593520:True:=trivial
theorem PySem.W.Fast.tw2439747805447043802:True:=trivial
theorem PySem.W.Fast.tw5009358799022613903:True:=trivial
theorem PySem.W.Fast.tw15681766239834341410:True:=trivial
theorem PySem.W.Fast.tw7404029397565775030:True:=trivial
theorem PySem.W.Fast.tw1384740080266605668:True:=trivial
theorem PySem.W.Fast.tw5692539874615293543:True:=trivial
theorem PySem.W.Fast.tw118016598223946790:True:=trivial
theorem PySem.W.Fast.tw2603127121709357637:True:=trivial
theorem PySem.W.Fast.tw17584712320097012846:True:=trivial
theorem PySem.W.Fast.tw10658419362778063728:True:=trivial
theorem PySem.W.Fast.tw774420846898023793:True:=trivial
theorem PySem.W.Fast.tw17562275340129461233:True:=trivial
theorem PySem.W.Fast.tw8128367632719060421:True:=trivial
theorem PySem.W.Fast.tw7150524332593024045:True:=trivial
theorem PySem.W.Fast.tw5548391855251046170:True:=trivial
theorem PySem.W.Fast.tw8772446360879953787:True:=trivial
theorem PySem.W.Fast.tw16409737733051301342:True:=trivial
theorem PySem.W.Fast.tw632690209065836132:True:=trivial
theorem PySem.W.Fast.tw10658428644753279193:True:=trivial
open PySem PySem.W PyProof.Rows EV L2 M
set_option maxRecDepth 100000 in
set_option maxHeartbeats 0 in
theorem PySem.Challenge.cw_evennotes_k19_whole_walked_by_rows_holds : PySem.Challenge.rw_evennotes_k19_whole_walked_by_rows.Holds := by
 w_on;o_law;k_head;(case hw=>w_witness2)
 k_fill
 refine EV.walk (l:=PySem.Challenge.rw_evennotes_k19_whole_walked_by_rows) rfl rfl (by rfl) rfl (fun w h Y=>PySem.W.kIn_of Y) rfl ?F
 case F =>
  intro w mg h KX G
  refine' tx_mk ⟨Z3 KX G ?a0 ?l0 ?c0 ?k0,Z3 KX G ?a1 ?l1 ?c1 ?k1,Z3 KX G ?a2 ?l2 ?c2 ?k2,Z3 KX G ?a3 ?l3 ?c3 ?k3,Z3 KX G ?a4 ?l4 ?c4 ?k4,Z3 KX G ?a5 ?l5 ?c5 ?k5,Z3 KX G ?a6 ?l6 ?c6 ?k6,Z3 KX G ?a7 ?l7 ?c7 ?k7,Z3 KX G ?a8 ?l8 ?c8 ?k8,Z3 KX G ?a9 ?l9 ?c9 ?k9,Z3 KX G ?a10 ?l10 ?c10 ?k10,Z3 KX G ?a11 ?l11 ?c11 ?k11,Z3 KX G ?a12 ?l12 ?c12 ?k12,Z3 KX G ?a13 ?l13 ?c13 ?k13,Z3 KX G ?a14 ?l14 ?c14 ?k14,Z3 KX G ?a15 ?l15 ?c15 ?k15,Z3 KX G ?a16 ?l16 ?c16 ?k16,Z3 KX G ?a17 ?l17 ?c17 ?k17,Z3 KX G ?a18 ?l18 ?c18 ?k18,Z3 KX G ?a19 ?l19 ?c19 ?k19,Z3 KX G ?a20 ?l20 ?c20 ?k20,Z3 KX G ?a21 ?l21 ?c21 ?k21,Z3 KX G ?a22 ?l22 ?c22 ?k22,Z3 KX G ?a23 ?l23 ?c23 ?k23,Z3 KX G ?a24 ?l24 ?c24 ?k24,Z3 KX G ?a25 ?l25 ?c25 ?k25,Z3 KX G ?a26 ?l26 ?c26 ?k26,Z3 KX G ?a27 ?l27 ?c27 ?k27,Z3 KX G ?a28 ?l28 ?c28 ?k28,Z3 KX G ?a29 ?l29 ?c29 ?k29,Z3 KX G ?a30 ?l30 ?c30 ?k30,df_mkI ?a31 ?l31 ?c31 ?k31 ?mk ?i31 ?kc,df_mkM ?a32 ?l32 ?c32 ?k32 ?i32,df_mkM ?a33 ?l33 ?c33 ?k33 ?i33,mg_none_of KX G ?z_int,mg_none_of KX G ?z_isinstance,mg_none_of KX G ?z_len,mg_none_of KX G ?z_list,mg_none_of KX G ?z_range,mg_none_of KX G ?z_sum,mg_none_of KX G ?z_tuple,mg_none_of KX G ?z_zip,mg_of KX G ?c_SKIP,ts_mk ?d_SKIP,⟨⟨?pg,?hd,?po,?sa⟩,?nb,?nl,?nc,?ns⟩,mg_of KX G ?aC⟩
  (case aC|a0|l0|c0|k0|a1|l1|c1|k1|a2|l2|c2|k2|a3|l3|c3|k3|a4|l4|c4|k4|a5|l5|c5|k5|a6|l6|c6|k6|a7|l7|c7|k7|a8|l8|c8|k8|a9|l9|c9|k9|a10|l10|c10|k10|a11|l11|c11|k11|a12|l12|c12|k12|a13|l13|c13|k13|a14|l14|c14|k14|a15|l15|c15|k15|a16|l16|c16|k16|a17|l17|c17|k17|a18|l18|c18|k18|a19|l19|c19|k19|a20|l20|c20|k20|a21|l21|c21|k21|a22|l22|c22|k22|a23|l23|c23|k23|a24|l24|c24|k24|a25|l25|c25|k25|a26|l26|c26|k26|a27|l27|c27|k27|a28|l28|c28|k28|a29|l29|c29|k29|a30|l30|c30|k30|a31|l31|c31|k31|a32|l32|c32|k32|a33|l33|c33|k33|z_int|z_isinstance|z_len|z_list|z_range|z_sum|z_tuple|z_zip|c_SKIP|d_SKIP|pg|hd|po|sa|mk|kc|nb|nl|nc|ns|i31|i32|i33=>(try dsimp only [Yt]);first | k_is | kernel_rfl)

