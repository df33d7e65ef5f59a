import PyProof.Rows.All
import Wide.All
import OpenK.AllK
import Wide.FinOn
import Lean
import PyProof.EqAt
import PyProof.EqKinds
import PyProof.TupleCall
import PyProof.ZipIter
import PyProof.Draws
import PyProof.EnumMake
import KE.KStateDown
import PyProof.Rows.EqDataRows
import PyProof.Rows.SeqMore2
import KE.KTryMore
import KE.KIsAll
import OpenK.KOwn
import PySem.Challenge.RW_evennotes_k18_no_runs
open PySem renaming wpAny_bind → Qa, wpAny_pure → Qf, wpAny_field → QC, wpAny_mono → QR, wpAny_newObj_type → QS, wpAny_callSpecial?_slot → QU, wpAny_seqItems → QX, wpAny_call_entry → Q0, wpAny_setField_rec → Q8, wpAny_Call_Name_kw → Q9, wpAny_truthy_bool → Pc, wpAny_holding → Pf, wpAny_passesOwn → Pz, wpAny_execs_nil → PB, wpAny_setField → PK, wpAny_attempt → PN, wpAny_rule → PQ, wpAny_updateSeq → PV, wpAny_updateSeq_pair → P0, wpAny_onRaise → P7, wpAny_pyIter_tuple → P9
open PySem.Heap renaming get?_push_of_some → Qb, lt_size → Qm, get?_push_size → Qq, get?_update_self → QH, size_push → QJ, get?_update_other → QM
open List renaming mem_cons → Qc, length_cons → Qd, mem_cons_of_mem → Qe, length_map → Qg, getElem?_eq_some_iff → Qh, length_append → Qj, size_toArray → Qk, not_mem_nil → Qn, mem_singleton → Qo, length_set → Qp, map_cons → Qr, mem_cons_self → Qt, getElem?_eq_getElem → Qv, nodup_cons → Qz, mem_append → QA, length_nil → QB, mem_append_right → QF, getElem?_set_self → QG, getElem?_append_left → QL, replicate_succ → QN, getElem?_map → QO, getElem?_append_right → QP, lookup_cons → QQ, mem_map → QT, mem_of_getElem? → QV, length_take → QW, flatten_cons → QY, append_nil → QZ, map_append → Q5, drop_eq_getElem_cons → Pb, drop_length → Pg, map_map → Pi, any_cons → Pm, nil_append → Pn, find?_cons → Po, getElem?_replicate → Pp, getLast_cons → Pq, length_singleton → Pr, getElem?_zipWith → Ps, getElem?_eq_none → Pu, getElem_mem → Pv, cons_append → Pw, getElem?_set_ne → Px, forIn_cons → PD, map_nil → PJ, forIn_nil → PL, take_of_length_le → PU, foldl_cons → PY, mem_append_left → P1, length_zipWith → P4, filterMap_cons → P5, map_take → P8, pairwise_cons → Ua
open Bool renaming false_ne_true → Qi, and_eq_true → QK, false_eq_true → Pk, not_eq_true' → PM, eq_iff_iff → PZ, or_eq_false_iff → P3
open Nat renaming le_refl → Ql, lt_of_lt_of_le → Qs, ne_of_lt → Qu, le_trans → Qw, zero_add → QD, ne_of_gt → QE, lt_trans → QI, lt_succ_self → Q1, lt_irrefl → Q3, lt_succ_of_lt → Q4, le_of_lt → Q6, le_add_right → Q7, lt_of_le_of_lt → Pa, zero_le → Pd, mul_add → Ph, min_eq_left → Pl, mul_le_mul_left → PH, min_eq_right → PP
open Int renaming emod_nonneg → Qx, emod_lt_of_pos → Qy, toNat_natCast → Pe, zero_add → Pj, toNat_of_nonneg → P6
open Option renaming isSome_iff_exists → Q2, map_eq_some_iff → PR, map_some → PX
open PySem renaming Value → Ka, Shared → Kb, Addr → Kc, starEach → Ke, mainGlobals → Kf, sizeLine → Kg, FuncData → Kh, Program → Ki, Around → Kj, World → Kk, Heap → Kl, compareOp → Km, wpAny → Ko, attributeBase → Kp, backTo → Kq, backToKw → Kr, keywordEach → Ks, swapsWith → Kt, NameKind → Ku, Expr → Kv, Str → Kw, Stmt → Kx, model → Ky, eval → Kz, Obj → KA, Pos → KB
open PySem.W renaming Frag → KC, findIn → KD, emptyDict → KG, instObj → KH
open PyProof.Rows renaming callWith_type1 → KI
open PySem.F renaming plainAttrs_list → KJ
noncomputable section
theorem KR {c:Prop} {h:Decidable c} (q:c) {α:Sort _} {t e:α}:ite c t e=t:=if_pos q
theorem KS {c:Prop} {h:Decidable c} (q:¬c) {α:Sort _} {t e:α}:ite c t e=e:=if_neg q
theorem KU {p:Prop} [Decidable p] (h:p):decide p=true:=decide_eq_true h
theorem KW {p:Prop} [Decidable p] (h:¬p):decide p=false:=decide_eq_false h
theorem zSet {α:Type}:(∀ (a:α) (l:List α) (n:Nat) (b:α),(a::l).set (n+1) b=a::l.set n b)/\∀ (a:α) (l:List α) (b:α),(a::l).set 0 b=b::l:=⟨fun _ _ _ _=>rfl,fun _ _ _=>rfl⟩
theorem zMap {α β:Type}:(∀ (f:α->β) (a:α) (l:List α),(a::l).map f=f a::l.map f)/\∀ f:α->β,[].map f=[]:=⟨fun _ _ _=>rfl,fun _=>rfl⟩
theorem zLen {α:Type}:(∀ (a:α) (l:List α),(a::l).length=l.length+1)/\([]:List α).length=0:=⟨fun _ _=>rfl,rfl⟩
theorem zApp {α:Type}:(∀ (a:α) (l m:List α),(a::l)++m=a::(l++m))/\∀ l:List α,[]++l=l:=⟨fun _ _ _=>rfl,fun _=>rfl⟩
theorem oB {α β:Type} {f:α->Option β} {a:α}:(some a).bind f=f a:=rfl
open PySem.W (nsIn fnOf keepIn codeIn)
set_option Elab.async false
set_option linter.all false
set_option maxRecDepth 100000
namespace L2
open PySem PySem.Spec PyProof.Rows
abbrev Key:=Sum Int Kw
def keyIs:Key->Ka->Bool
 | .inl k,v=>Value.isInt k v
 | .inr x,v=>Value.isStrOf x v
def keyH (w:Kk):Key->Int
 | .inl k=>hashInt k
 | .inr x=>hashStr w x
theorem ZY:∀ {k:Key} {v:Ka},keyIs k v=true->(∃ i t,k=Sum.inl i/\v=Value.int i t)\/(∃ x t,k=Sum.inr x/\v=Value.str x t)
 | .inl i,v,h=>by
  obtain ⟨t,e⟩:=Value.isInt_shape (k:=i) (v:=v) h
  exact .inl ⟨i,t,rfl,e⟩
 | .inr x,v,h=>by
  obtain ⟨t,e⟩:=Value.isStrOf_shape (x:=x) (v:=v) h
  exact .inr ⟨x,t,rfl,e⟩
theorem keyIs_int (i:Int) (t:Tok):keyIs (.inl i) (.int i t)=true:=by simp [keyIs,Value.isInt]
theorem keyIs_str (x:Kw) (t:Tok):keyIs (.inr x) (.str x t)=true:=by simp [keyIs,Value.isStrOf]
theorem key_ll (a b:Int):decide ((Sum.inl a:Key)=Sum.inl b)=(a == b):=by
 by_cases e:a=b
 ·subst e;simp
 ·have h:¬ (Sum.inl a:Key)=Sum.inl b:=fun q=>e (Sum.inl.inj q)
  rw [KW h]
  exact (beq_eq_false_iff_ne.mpr e).symm
theorem key_rr (a b:Kw):decide ((Sum.inr a:Key)=Sum.inr b)=decide (a=b):=by
 by_cases e:a=b
 ·subst e;simp
 ·have h:¬ (Sum.inr a:Key)=Sum.inr b:=fun q=>e (Sum.inr.inj q)
  rw [KW h,KW e]
theorem key_lr (a:Int) (b:Kw):decide ((Sum.inl a:Key)=Sum.inr b)=false:=KW (fun q=>nomatch q)
theorem key_rl (a:Kw) (b:Int):decide ((Sum.inr a:Key)=Sum.inl b)=false:=KW (fun q=>nomatch q)
def ym (prog:Ki) (w:Kk):PySem.KeyKind prog w Key where
 is:=keyIs
 hash:=keyH w
 inj:=fun v a b ha hb=>by
  rcases ZY ha with ⟨i,t,rfl,rfl⟩ | ⟨x,t,rfl,rfl⟩
  ·rcases ZY hb with ⟨j,u,rfl,e⟩ | ⟨y,u,rfl,e⟩
   ·injection e with e1 _;rw [e1]
   ·exact nomatch e
  ·rcases ZY hb with ⟨j,u,rfl,e⟩ | ⟨y,u,rfl,e⟩
   ·exact nomatch e
   ·injection e with e1 _;rw [e1]
 byValue:=fun k v h=>by
  rcases ZY h with ⟨i,t,rfl,rfl⟩ | ⟨x,t,rfl,rfl⟩ <;> rfl
 pyHash:=fun hv h=>by
  rcases ZY hv with ⟨i,t,rfl,rfl⟩ | ⟨x,t,rfl,rfl⟩
  ·exact wpAny_pyHash_int h
  ·exact wpAny_pyHash_str h
 eqBool:=fun hu hv h=>by
  rcases ZY hu with ⟨i,t,rfl,rfl⟩ | ⟨x,t,rfl,rfl⟩
  ·rcases ZY hv with ⟨j,u,rfl,rfl⟩ | ⟨y,u,rfl,rfl⟩
   ·rw [key_ll] at h;exact wpAny_eqBool_int h
   ·rw [key_lr] at h;exact SeqAt.EqAt.int_str i t y u _ _ _ _ h
  ·rcases ZY hv with ⟨j,u,rfl,rfl⟩ | ⟨y,u,rfl,rfl⟩
   ·rw [key_rl] at h;exact SeqAt.EqAt.str_int x t j u _ _ _ _ h
   ·rw [key_rr] at h;exact wpAny_eqBool_str h
 «strs»:=fun k x t v h=>by
  rcases ZY h with ⟨i,u,rfl,e⟩ | ⟨y,u,rfl,e⟩
  ·exact nomatch e
  ·injection e with e1 _
   subst e1
   cases v <;> rfl
theorem mixKind_int (prog:Ki) (w:Kk) (i:Int) (t:Tok):(ym prog w).is (.inl i) (.int i t)=true:=keyIs_int i t
theorem mixKind_str (prog:Ki) (w:Kk) (x:Kw) (t:Tok):(ym prog w).is (.inr x) (.str x t)=true:=keyIs_str x t
end L2
namespace L2
open PySem PySem.Spec PyProof.Rows
inductive V where
 | non | bl (b:Bool) | int (i:Int) | str (x:Kw) | byt (b:Array UInt8) | flt (b:UInt64) | ref (a:Kc) | ty (n:String)
 deriving DecidableEq
def Zl:V->Ka->Prop
 | .non,u=>u=Value.none
 | .bl b,u=>u=Value.bool b
 | .int i,u=>∃ t,u=Value.int i t
 | .str x,u=>∃ t,u=Value.str x t
 | .byt b,u=>∃ t,u=Value.bytes b t
 | .flt b,u=>∃ t,u=Value.float b t
 | .ref a,u=>u=Value.ref a
 | .ty n,u=>u=Value.type n
abbrev zP:List V->List Ka->Prop:=Paired Zl
theorem zP.length {xs:List V} {us:List Ka} (r:zP xs us):xs.length=us.length:=Paired.length r
theorem zP.get:∀ {xs:List V} {us:List Ka} {i:Nat} {x:V},zP xs us->xs[i]?=some x->∃ u,us[i]?=some u/\Zl x u
 | _,_,_,_,.nil,e=>by simp at e
 | _,_,0,_,.cons r _,e=>by simp at e;subst e;exact ⟨_,rfl,r⟩
 | _,_,i+1,x,.cons _ t,e=>by
  obtain ⟨u,h1,h2⟩:=zP.get (i:=i) (x:=x) t (by simpa using e)
  exact ⟨u,by simpa using h1,h2⟩
theorem zP.set {x:V} {u:Ka} (r:Zl x u):∀ {xs:List V} {us:List Ka} (i:Nat),zP xs us->zP (xs.set i x) (us.set i u)
 | _,_,_,.nil=>.nil
 | _,_,0,.cons _ t=>.cons r t
 | _,_,i+1,.cons q t=>.cons q (zP.set r i t)
theorem zP.append:∀ {xs ys:List V} {us ws:List Ka},zP xs us->zP ys ws->zP (xs++ys) (us++ws)
 | _,_,_,_,.nil,s=>s
 | _,_,_,_,.cons r t,s=>.cons r (zP.append t s)
theorem zP.take:∀ {xs:List V} {us:List Ka} (n:Nat),zP xs us->zP (xs.take n) (us.take n)
 | _,_,0,_=>.nil
 | _,_,_+1,.nil=>.nil
 | _,_,n+1,.cons r t=>.cons r (zP.take n t)
theorem zP.drop:∀ {xs:List V} {us:List Ka} (n:Nat),zP xs us->zP (xs.drop n) (us.drop n)
 | _,_,0,r=>r
 | _,_,_+1,.nil=>.nil
 | _,_,n+1,.cons _ t=>zP.drop n t
def Ji:Option V->Option Ka->Prop
 | some v,some u=>Zl v u
 | none,none=>True
 | _,_=>False
def KV {κ:Type}:List (κ×V)->List (κ×Ka)->Prop:=Paired fun (p:κ×V) (q:κ×Ka)=>p.1=q.1/\Zl p.2 q.2
def kV:Key->V
 | .inl i=>.int i
 | .inr x=>.str x
inductive HO where
  | lst (xs:List V)
  | tup (xs:List V)
  | dK (KP:List (Key×V)) | dT (KP:List (List Key×V))
  | set (S:Int->Bool) (n:Nat)
  | ins (C dx:Kc) (fs:List (Kw×V))
  | own (x:Kc)
  | xd (fs:List (Kw×V))
  | met (f x:Kc)
  | rng (lo hi:Int)
  | frz (o:KA) (u:HO)
  | tbl (ps:Array Ka)
  | ext (φ:Kl->Prop)
abbrev Hp:=Kc->Option HO
def upd (H:Hp) (a:Kc) (o:HO):Hp:=fun b=>if b=a then some o else H b
theorem zu {H:Hp} {a:Kc} {o:HO}:upd H a o a=some o:=by unfold upd;rw [KR rfl]
theorem zv {H:Hp} {a b:Kc} {o:HO} (h:b≠a):upd H a o b=H b:=by unfold upd;rw [KS h]
theorem ne_of {H:Hp} {a b:Kc} {o u:HO} (h:H a=some o) (h':H b=some u) (d:o≠u):a≠b:=by
 intro e;subst e;rw [h] at h';exact d (Option.some.inj h')
theorem Z0 {H:Hp} {a b:Kc} {o:HO} (h:H a=some o) (h':H b=none):a≠b:=by
 intro e;subst e;rw [h] at h';cases h'
section
variable (P:Ki) (w:Kk)
def Z9 (H:Hp) (h:Kl) (a:Kc):HO->Prop
 | .lst xs=>xs.length<=Kg/\∃ (KQ:List Ka) (n:Nat),zP xs KQ/\h.get? a=some { cls:=.type "list",data:=.seq KQ.toArray n }
 | .tup xs=>xs.length<=Kg/\∃ KQ:List Ka,zP xs KQ/\IsTup h a KQ.toArray
 | .dK KP=>KP.length<=Kg/\(a == sysModules)=false/\∃ vs,KV KP vs/\h.DictOf (ym P w) a vs
 | .dT KP=>KP.length<=Kg/\(a == sysModules)=false/\∃ xs:List (List Key×Kc×Ka),
   Paired (fun (p:List Key×V) (q:List Key×Kc×Ka)=>p.1=q.1/\H q.2.1=some (.tup (p.1.map kV))/\Zl p.2 q.2.2) KP xs /\
   ∃ o es ep,h.get? a=some o/\o.ExactDict/\o.data=.dict es ep/\es.toList=xs.map (entryOfKey (tupleKind (ym P w)))/\(xs.map (·.1)).Nodup
 | .set S n=>h.SetOf (intKind P w) a S n
 | .ins C dx fs=>H dx=some (.own a)/\fs.length<=1000/\dx≠a/\h.get? a=some (KH C dx) /\
   ∃ mA,h.Ns1 dx mA/\(∀ f,Ji (fs.lookup f) (mA f))/\PySem.Within mA (fs.map (·.1))
 | .own _=>∃ o,h.get? a=some o
 | .xd fs=>∃ mA,h.Ns1 a mA/\∀ f,Ji (fs.lookup f) (mA f)
 | .rng lo hi=>∃ t u v,h.get? a=some { cls:=.type "range",data:=.fields #[.int lo t,.int hi u,.int 1 v] }
 | .frz o u=>h.get? a=some o/\Z9 H h a u
 | .tbl ps=>h.get? a=some { cls:=.none,data:=.fields ps }
 | .met f x=>h.get? a=some (PySem.W.methodObj (.ref f) (.ref x))
 | .ext φ=>φ h/\(∃ o,h.get? a=some o)/\∀ h1 h2:Kl,φ h1->(∀ o,h1.get? a=some o->h2.get? a=some o)->φ h2
def HOk (H:Hp) (h:Kl):Prop:=∀ a o,H a=some o->Z9 P w H h a o
end
section
variable {P:Ki} {w:Kk} {H H':Hp} {h h':Kl} {a:Kc} {o:HO}
theorem Z9.lt (x:Z9 P w H h a o):a<h.objs.size:=by
 cases o with
 | lst xs=>obtain ⟨_,_,_,_,e⟩:=x;exact Qm e
 | tup xs=>obtain ⟨_,_,_,p⟩:=x;exact p.lt
 | dK KP=>obtain ⟨_,_,_,_,o,_,_,e,_⟩:=x;exact Qm e
 | dT KP=>obtain ⟨_,_,_,_,o,_,_,e,_⟩:=x;exact Qm e
 | set S n=>obtain ⟨o,_,_,_,e,_⟩:=x;exact Qm e
 | ins C dx fs=>obtain ⟨_,_,_,e,_⟩:=x;exact Qm e
 | own y=>obtain ⟨_,e⟩:=x;exact Qm e
 | xd fs=>obtain ⟨_,⟨_,_,_,e,_⟩,_⟩:=x;exact Qm e
 | rng lo hi=>obtain ⟨_,_,_,e⟩:=x;exact Qm e
 | frz ob u=>obtain ⟨e,_⟩:=x;exact Qm e
 | tbl ps=>exact Qm (show h.get? a=some _ from x)
 | met f y=>exact Qm (show h.get? a=some _ from x)
 | ext φ=>obtain ⟨_,⟨_,e⟩,_⟩:=x;exact Qm e
theorem Paired.mapP {α β:Type} {F G:α->β->Prop}:∀ {l₁:List α} {l₂:List β},Paired F l₁ l₂->(∀ a b,F a b->G a b)->Paired G l₁ l₂
 | _,_,.nil,_=>.nil
 | _,_,.cons r t,f=>.cons (f _ _ r) (Paired.mapP t f)
theorem Z9.stay (x:Z9 P w H h a o) (k:∀ b u,(b=a\/H b=some (.own a))->h.get? b=some u->h'.get? b=some u)
  (ho:∀ b,H b=some (.own a)->H' b=some (.own a)) (ht:∀ b xs,H b=some (.tup xs)->H' b=some (.tup xs)):Z9 P w H' h' a o:=by
 induction o with
 | lst xs=>obtain ⟨z,KQ,n,r,e⟩:=x;exact ⟨z,KQ,n,r,k _ _ (.inl rfl) e⟩
 | tup xs=>obtain ⟨z,KQ,r,ob,e,c⟩:=x;exact ⟨z,KQ,r,ob,k _ _ (.inl rfl) e,c⟩
 | dK KP=>obtain ⟨z,y,vs,r,ob,es,ep,e,c⟩:=x;exact ⟨z,y,vs,r,ob,es,ep,k _ _ (.inl rfl) e,c⟩
 | dT KP =>
  obtain ⟨z,y,xs,r,ob,es,ep,e,c⟩:=x
  exact ⟨z,y,xs,Paired.mapP r fun p q z=>⟨z.1,ht _ _ z.2.1,z.2.2⟩,ob,es,ep,k _ _ (.inl rfl) e,c⟩
 | set S n=>obtain ⟨ob,es,ep,t,e,c⟩:=x;exact ⟨ob,es,ep,t,k _ _ (.inl rfl) e,c⟩
 | ins C dx fs =>
  obtain ⟨d,z,ne,e,mA,⟨od,es,ep,e2,c⟩,r⟩:=x
  exact ⟨ho _ d,z,ne,k _ _ (.inl rfl) e,mA,⟨od,es,ep,k _ _ (.inr d) e2,c⟩,r⟩
 | own y=>obtain ⟨ob,e⟩:=x;exact ⟨ob,k _ _ (.inl rfl) e⟩
 | xd fs=>obtain ⟨mA,⟨od,es,ep,e,c⟩,r⟩:=x;exact ⟨mA,⟨od,es,ep,k _ _ (.inl rfl) e,c⟩,r⟩
 | rng lo hi=>obtain ⟨t,u,v,e⟩:=x;exact ⟨t,u,v,k _ _ (.inl rfl) e⟩
 | frz ob u ih=>obtain ⟨e,q⟩:=x;exact ⟨k _ _ (.inl rfl) e,ih q⟩
 | tbl ps =>
  have e:h.get? a=some { cls:=.none,data:=.fields ps }:=x
  show h'.get? a=some { cls:=.none,data:=.fields ps }
  exact k a _ (.inl rfl) e
 | met f y =>
  have e:h.get? a=some (PySem.W.methodObj (.ref f) (.ref y)):=x
  show h'.get? a=some (PySem.W.methodObj (.ref f) (.ref y))
  exact k a _ (.inl rfl) e
 | ext φ=>obtain ⟨p,⟨o,e⟩,st⟩:=x;exact ⟨st _ _ p fun o q=>k _ _ (.inl rfl) q,⟨o,k _ _ (.inl rfl) e⟩,st⟩
theorem HOk.lt (x:HOk P w H h) (e:H a=some o):a<h.objs.size:=(x a o e).lt
theorem HOk.fresh (x:HOk P w H h) (e:h.objs.size<=a):H a=none:=by
 cases q:H a with
 | none=>rfl
 | some u=>exact absurd (Qs (x.lt q) e) (Q3 _)
theorem HOk.kept (x:HOk P w H h) (k:∀ b u,h.get? b=some u->h'.get? b=some u):HOk P w H h':=fun a o e =>
 (x a o e).stay (fun b u _ q=>k b u q) (fun _ q=>q) fun _ _ q=>q
theorem HOk.laid (x:HOk P w H h) (k:∀ b u,h.get? b=some u->h'.get? b=some u) (hp:h.objs.size<=a) (new:Z9 P w (upd H a o) h' a o):HOk P w (upd H a o) h':=fun b u e=>by
 have hn:=x.fresh hp
 by_cases hb:b=a
 ·subst hb;rw [zu] at e;cases e;exact new
 ·rw [zv hb] at e
  exact (x b u e).stay (fun c v _ q=>k c v q) (fun c q=>by rw [zv (Z0 q hn)];exact q) fun c xs q=>by rw [zv (Z0 q hn)];exact q
end
def Rd (H:Hp) (a:Kc) (u:HO):Prop:=H a=some u\/∃ o,H a=some (.frz o u)
theorem Rd.ok {P:Ki} {w:Kk} {H:Hp} {h:Kl} {a:Kc} {u:HO} (r:Rd H a u) (x:HOk P w H h):Z9 P w H h a u:=by
 rcases r with r | ⟨o,r⟩
 ·exact x a u r
 ·obtain ⟨_,q⟩:=x a _ r
  exact q
def Mut:Option HO->Prop
 | some (.lst _)=>True
 | some (.dK _)=>True
 | some (.dT _)=>True
 | some (.set _ _)=>True
 | some (.ins _ _ _)=>True
 | some (.ext _)=>True
 | _=>False
section
variable {P:Ki} {w:Kk} {H:Hp} {h h':Kl} {x e:Kc} {o':HO}
theorem HOk.write (ok:HOk P w H h) (mu:Mut (H x)) (he:e=x\/H e=some (.own x)) (k:∀ b u,b≠e->h.get? b=some u->h'.get? b=some u) (heo:∃ u,h'.get? e=some u)
  (new:Z9 P w (upd H x o') h' x o'):HOk P w (upd H x o') h':=fun b u q=>by
 have nown:∀ c y,H c=some (.own y)->c≠x:=fun c y r z=>by subst z;rw [r] at mu;exact mu
 have ntup:∀ c xs,H c=some (.tup xs)->c≠x:=fun c xs r z=>by subst z;rw [r] at mu;exact mu
 by_cases hb:b=x
 ·subst hb;rw [zu] at q;cases q;exact new
 ·rw [zv hb] at q
  by_cases hbe:b=e
  ·have q':H b=some (.own x):=by
    rcases he with z | z
    ·exact absurd (hbe.trans z) hb
    ·rw [hbe];exact z
   rw [q] at q';cases q'
   obtain ⟨v,hv⟩:=heo
   exact ⟨v,by rw [hbe];exact hv⟩
  ·refine (ok b u q).stay (fun c v hc r=>k c v ?_ r) (fun c r=>by rw [zv (nown c b r)];exact r) fun c xs r=>by rw [zv (ntup c xs r)];exact r
   rcases hc with rfl | hc
   ·exact hbe
   ·rintro rfl
    rcases he with z | z
    ·exact nown c b hc z
    ·rw [hc] at z;cases z;exact hb rfl
end
structure Un (fs ex:List Kc) (H H':Hp) (h h':Kl):Prop where
 keep:∀ b o,h.get? b=some o->H b=none->b∉fs->b∉ex->h'.get? b=some o
 slot:∀ b o,h.get? b=some o->H b=none->b∈fs->b∉ex->∃ sl,h'.get? b=some { o with slots:=sl }
 free:∀ b o,h.get? b=some o->H b=none->b∉ex->H' b=none
 there:∀ b o,h.get? b=some o->b∉ex->∃ o',h'.get? b=some o'
 tups:∀ b xs,H b=some (.tup xs)->H' b=some (.tup xs)
 frzs:∀ b o u,H b=some (.frz o u)->H' b=some (.frz o u)
 tbls:∀ b ps,H b=some (.tbl ps)->∃ more,H' b=some (.tbl (ps++more))
section
variable {fs fs' ex ex':List Kc} {H H1 H2:Hp} {h h1 h2 h':Kl} {a x e:Kc} {o:HO}
theorem Un.any (u:Un fs ex H H1 h h1) {b:Kc} {ob:KA} (q:h.get? b=some ob) (n:H b=none) (hx:b∉ex):∃ sl,h1.get? b=some { ob with slots:=sl }:=by
 by_cases hb:b∈fs
 ·exact u.slot b ob q n hb hx
 ·exact ⟨ob.slots,u.keep b ob q n hb hx⟩
theorem Un.trans (a:Un fs ex H H1 h h1) (b:Un fs ex H1 H2 h1 h2):Un fs ex H H2 h h2 where
 keep:=fun c ob q n hc hx=>b.keep c ob (a.keep c ob q n hc hx) (a.free c ob q n hx) hc hx
 slot:=fun c ob q n hc hx=>by
  obtain ⟨sl,e1⟩:=a.slot c ob q n hc hx
  obtain ⟨sl',e2⟩:=b.slot c _ e1 (a.free c ob q n hx) hc hx
  exact ⟨sl',e2⟩
 free:=fun c ob q n hx=>by
  obtain ⟨o',e1⟩:=a.there c ob q hx
  exact b.free c o' e1 (a.free c ob q n hx) hx
 there:=fun c ob q hx=>by
  obtain ⟨o',e1⟩:=a.there c ob q hx
  exact b.there c o' e1 hx
 tups:=fun c xs q=>b.tups c xs (a.tups c xs q)
 frzs:=fun c ob xs q=>b.frzs c ob xs (a.frzs c ob xs q)
 tbls:=fun c ps q=>by
  obtain ⟨m1,e1⟩:=a.tbls c ps q
  obtain ⟨m2,e2⟩:=b.tbls c _ e1
  exact ⟨m1++m2,by rw [e2,Array.append_assoc]⟩
theorem Un.kept (k:∀ b u,h.get? b=some u->h'.get? b=some u):Un fs ex H H h h' :=
 ⟨fun b ob q _ _ _=>k b ob q,fun b ob q _ _ _=>⟨ob.slots,k b ob q⟩,fun _ _ _ n _=>n,fun b ob q _=>⟨ob,k b ob q⟩,fun _ _ q=>q,fun _ _ _ q=>q,fun _ ps q=>⟨#[],by rw [q];simp⟩⟩
theorem Un.refl:Un fs ex H H h h:=Un.kept fun _ _ q=>q
theorem Un.laid (k:∀ b u,h.get? b=some u->h'.get? b=some u) (hp:h.objs.size<=a) (hn:H a=none):Un fs ex H (upd H a o) h h' where
 keep:=fun b u q _ _ _=>k b u q
 slot:=fun b u q _ _ _=>⟨u.slots,k b u q⟩
 free:=fun b u q n _=>by rw [zv (Qu (Qs (Qm q) hp))];exact n
 there:=fun b u q _=>⟨u,k b u q⟩
 tups:=fun b xs q=>by rw [zv (Z0 q hn)];exact q
 frzs:=fun b u xs q=>by rw [zv (Z0 q hn)];exact q
 tbls:=fun b ps q=>⟨#[],by rw [zv (Z0 q hn),q];simp⟩
theorem Un.write (mu:Mut (H x)) (he:e=x\/H e=some (.own x)) (k:∀ b u,b≠e->h.get? b=some u->h'.get? b=some u) (heo:∃ u,h'.get? e=some u):Un fs ex H (upd H x o) h h':=by
 have hx:∀ b,H b=none->b≠x:=fun b n z=>by subst z;rw [n] at mu;exact mu
 have hb:∀ b,H b=none->b≠e:=fun b n z=>by
  subst z
  rcases he with r | r
  ·exact hx b n r
  ·rw [n] at r;cases r
 have hm:∀ b u,H b=some u->¬ Mut (some u)->b≠x:=fun b u q nm z=>by subst z;rw [q] at mu;exact nm mu
 refine ⟨fun b u q n _ _=>k b u (hb b n) q,fun b u q n _ _=>⟨u.slots,k b u (hb b n) q⟩,fun b u q n _=>by rw [zv (hx b n)];exact n,fun b u q _=>?_,
  fun b xs q=>by rw [zv (hm b _ q fun z=>z)];exact q,fun b u xs q=>by rw [zv (hm b _ q fun z=>z)];exact q,fun b ps q=>⟨#[],by rw [zv (hm b _ q fun z=>z),q];simp⟩⟩
 by_cases hbe:b=e
 ·subst hbe;exact heo
 ·exact ⟨u,k b u hbe q⟩
theorem Un.mono (u:Un fs ex H H1 h h1) (hs:∀ b∈fs,b∈fs') (hx:∀ b∈ex,b∈ex'):Un fs' ex' H H1 h h1 :=
 ⟨fun b ob q n hb he=>u.keep b ob q n (fun z=>hb (hs b z)) fun z=>he (hx b z),fun _ _ q n _ he=>u.any q n fun z=>he (hx _ z),fun b ob q n he=>u.free b ob q n fun z=>he (hx b z),fun b ob q he=>u.there b ob q fun z=>he (hx b z),u.tups,u.frzs,u.tbls⟩
end
def trk (h:Kl) (H:Hp):List Kc:=(List.range h.objs.size).filter fun a=>(H a).isSome
def hidT (h:Kl) (H:Hp):Kl:=PySem.W.hideAll h (trk h H)
theorem hidT_size (h:Kl) (H:Hp):(hidT h H).objs.size=h.objs.size:=PySem.W.hideAll_size _ _
theorem hidT_get {h:Kl} {H:Hp} {b:Kc} {o:KA} (e:h.get? b=some o) (n:H b=none):(hidT h H).get? b=some o :=
 PySem.W.hideAll_get _ e fun hm=>by
  have q:(H b).isSome=true:=(List.mem_filter.mp hm).2
  rw [n] at q;simp at q
theorem of_hidT {h:Kl} {H:Hp} {b:Kc} {o:KA} (e:(hidT h H).get? b=some o):h.get? b=some o/\H b=none:=by
 have e':h.get? b=some o:=PySem.W.of_hideAll (trk h H) e
 refine ⟨e',?_⟩
 cases q:H b with
 | none=>rfl
 | some x =>
  have hm:b∈trk h H:=List.mem_filter.mpr ⟨List.mem_range.mpr (Qm e'),by simp [q]⟩
  have z:(hidT h H).get? b=none:=PySem.W.hideAll_none (trk h H) hm
  rw [z] at e;cases e
def allNews (g h:Kl) (L:Kc):List (Kc×KA):=(List.range h.objs.size).filterMap fun a=>if a=L\/(g.get? a).isSome=true then none else (h.get? a).map fun o=>(a,o)
def zX (g h:Kl) (L d:Kc):List (Kc×KA):=(allNews g h L).filter fun p=>decide (p.1≠d)
end L2
namespace L2
open PySem PySem.Spec PyProof.Rows
structure Mod (K:KC) (mg:Kw->Option Ka) (base:Kl):Prop where
 kin:K.In base
 glob:base.Ns Kf mg
 blt:∃ mb,base.Ns builtinsNs mb/\∀ x:Kw,x≠"__name__"->mb x=bootBuiltins x
 nolimit:base.NoLimit
 seer:base.NoSeer
structure Cx where
 prog:Ki
 w:Kk
 K:KC
 mg:Kw->Option Ka
 base:Kl
 A:Kj
 N:List Kw
 s₀:Kb
 Ub:Hp
 env:Env
 outer:List Env
 stack:List Env
 ex:List Kc
 fn:Kw->Bool
 calm:Bool
 pn:List (Kc×KA)
 xe:Ka->Kb->Prop
def frs (l:List Env):List Kc:=l.filterMap (·.frame)
abbrev Cx.fs (X:Cx):List Kc:=frs X.outer
def Vis (sc:Scope) (x:Kw):Prop:=sc.names.lookup x=some .local\/sc.names.lookup x=some .cell\/sc.names.lookup x=some .free
def Loc (sc:Scope) (x:Kw):Prop:=sc.names.lookup x=some .local\/sc.names.lookup x=some .cell
def Look (env:Env) (h:Kl) (m:Kw->Option Ka) (x:Kw) (u:Ka):Prop :=
 (env.kindOf x=some .local/\m x=some u)\/((env.kindOf x=some .cell\/env.kindOf x=some .free)/\∃ c,env.cells.lookup x=some c/\h.IsCell c (some u))
structure Cx.Ok (X:Cx):Prop where
 mod:Mod X.K X.mg X.base
 kind:X.env.scope.kind=.function
 glob:X.env.globals=Kf
 blt:X.env.builtins=builtinsNs
 above:X.s₀.heap.objs.size<=X.env.locals
 inj:∀ x y c,X.env.cells.lookup x=some c->X.env.cells.lookup y=some c->x=y
 has:∀ x,(X.env.kindOf x=some .cell\/X.env.kindOf x=some .free)->∃ c,X.env.cells.lookup x=some c
 cab:∀ x c,X.fn x=true->X.env.cells.lookup x=some c->X.s₀.heap.objs.size<=c
 hd:X.calm=true->X.A.handled=none
 frames:X.A.frames=some X.stack
 stk:X.stack=X.outer\/(X.stack=X.env::X.outer/\X.env.frame=some X.env.locals)
 exf:∀ b∈X.ex,b≠X.env.locals/\∀ x c,X.env.cells.lookup x=some c->c≠b
 bs:∀ b o,X.base.get? b=some o->X.s₀.heap.get? b=some o/\X.Ub b=none
 bsz:X.base.objs.size<=X.s₀.heap.objs.size
 noex:∀ b o,X.base.get? b=some o->b∉X.ex
 exfs:∀ b∈X.ex,b∉X.fs
 funs:X.s₀.heap.FunFrames X.base X.outer
 frf:∀ b∈X.fs,X.Ub b=none
 top:∃ e l,X.stack=e::l/\e.scope.isGenerator=false/\e.scope.isCoroutine=false/\e.builtins=builtinsNs/\e.globals=Kf
 tree:X.prog.given.tree=none
structure Inv (X:Cx) (KK:List (Kc×KA)) (σ:List (Option V)) (H:Hp) (s:Kb):Prop where
 ok:X.Ok
 os:s.os=X.s₀.os
 bare:AllBare s.gens
 base:Un X.fs X.ex X.Ub H X.s₀.heap s.heap
 loc:∃ m,s.heap.Ns X.env.locals m/\∀ (i:Nat) (x:Kw) (v:V),X.N[i]?=some x->σ[i]?=some (some v)->Vis X.env.scope x->∃ u,Zl v u/\Look X.env s.heap m x u
 cell:∀ x c,X.env.cells.lookup x=some c->∃ v,s.heap.IsCell c v
 free:H X.env.locals=none
 freeC:∀ x c,X.env.cells.lookup x=some c->H c=none
 pin:∀ p∈X.pn++KK,s.heap.get? p.1=some p.2/\H p.1=none/\p.1≠X.env.locals/\p.1∉X.fs/\∀ v,p.2.data≠.cell v
 hok:HOk X.prog X.w H s.heap
 len:σ.length=X.N.length
section
variable {X:Cx} {KK:List (Kc×KA)} {σ:List (Option V)} {H H':Hp} {s:Kb} {h':Kl}
theorem Cx.Ok.nofr (ok:X.Ok) {b:Kc} {o:KA} (e:X.base.get? b=some o):b∉X.fs:=fun hb=>by
 have:=(ok.funs.mem hb).1
 rw [e] at this;cases this
theorem Inv.bs (I:Inv X KK σ H s):∀ b o,X.base.get? b=some o->s.heap.get? b=some o/\H b=none:=fun b o e =>
 ⟨I.base.keep b o (I.ok.bs b o e).1 (I.ok.bs b o e).2 (I.ok.nofr e) (I.ok.noex b o e),I.base.free b o (I.ok.bs b o e).1 (I.ok.bs b o e).2 (I.ok.noex b o e)⟩
theorem Inv.bk (I:Inv X KK σ H s):∀ b o,X.base.get? b=some o->s.heap.get? b=some o:=fun b o e=>(I.bs b o e).1
theorem Inv.mod (I:Inv X KK σ H s):Mod X.K X.mg X.base:=I.ok.mod
theorem Inv.kIn (I:Inv X KK σ H s):X.K.In s.heap:=I.ok.mod.kin.keeps I.bk
theorem Inv.nolimit (I:Inv X KK σ H s):s.heap.NoLimit:=I.ok.mod.nolimit.keeps I.bk
theorem Inv.lt (I:Inv X KK σ H s):X.env.locals<s.heap.objs.size:=let ⟨_,hn,_⟩:=I.loc;hn.lt
theorem Inv.sz (I:Inv X KK σ H s):X.s₀.heap.objs.size<=s.heap.objs.size:=Qw I.ok.above (Q6 I.lt)
theorem Inv.nofs (I:Inv X KK σ H s) {a:Kc} (h:s.heap.objs.size<=a):a∉X.fs:=fun hb=>by
 obtain ⟨_,o,ho,_⟩:=I.ok.funs.mem hb
 exact absurd (Qs (Qm ho) (Qw I.sz h)) (Q3 _)
theorem Inv.cne (I:Inv X KK σ H s):∀ x c,X.env.cells.lookup x=some c->c≠X.env.locals:=fun x c e z=>by
 obtain ⟨v,o,ho,hd⟩:=I.cell x c e
 obtain ⟨m,⟨o',es,ep,ho',hd',_⟩,_⟩:=I.loc
 rw [z,ho'] at ho;cases ho;rw [hd'] at hd;cases hd
theorem Inv.funs (I:Inv X KK σ H s):s.heap.FunFrames X.base X.outer:=by
 have all:∀ (l:List Env),(∀ b∈frs l,b∈X.fs)->X.s₀.heap.FunFrames X.base l->s.heap.FunFrames X.base l:=by
  intro l
  induction l with
  | nil=>intro _ _;trivial
  | cons env r ih =>
   intro hs hl
   obtain ⟨hk,⟨L,o,hf,hn,ho,hd⟩,hr⟩:=hl
   have hL:L∈X.fs:=hs L (by unfold frs;rw [P5,hf];exact Qt)
   obtain ⟨sl,e⟩:=I.base.slot L o ho (I.ok.frf L hL) hL fun z=>I.ok.exfs L z hL
   exact ⟨hk,⟨L,_,hf,hn,e,hd⟩,ih (fun b hb=>hs b (by unfold frs;rw [P5,hf];exact Qe _ hb)) hr⟩
 exact all X.outer (fun _ hb=>hb) I.ok.funs
theorem Inv.stack (I:Inv X KK σ H s):s.heap.FunFrames X.base X.stack:=by
 rcases I.ok.stk with e | ⟨e,hf⟩
 ·rw [e];exact I.funs
 ·rw [e]
  obtain ⟨m,hn,_⟩:=I.loc
  refine .cons (by rw [I.ok.kind];decide) hf hn ?_ I.funs
  exact Heap.get?_none_of_le (Qw I.ok.bsz I.ok.above)
theorem Inv.stkSub (I:Inv X KK σ H s):∀ b∈frs X.stack,b∈X.env.locals::X.fs:=fun b hb=>by
 rcases I.ok.stk with e | ⟨e,hf⟩
 ·rw [e] at hb;exact Qe _ hb
 ·rw [e] at hb
  unfold frs at hb
  rw [P5,hf] at hb
  exact hb
theorem Inv.stkFree (I:Inv X KK σ H s):∀ b∈frs X.stack,H b=none:=fun b hb=>by
 rcases Qc.mp (I.stkSub b hb) with e | hb
 ·rw [e];exact I.free
 ·obtain ⟨_,o,ho,_⟩:=I.ok.funs.mem hb
  exact I.base.free b o ho (I.ok.frf b hb) fun z=>I.ok.exfs b z hb
theorem Inv.step {g':Array GenState} {t':Nat} {d':Drawn} {ch:List Kc} (I:Inv X KK σ H s)
  (hch:∀ b∈ch,(b∈X.ex\/X.s₀.heap.objs.size<=b)/\b≠X.env.locals/\(∀ x c,X.env.cells.lookup x=some c->c≠b)/\∀ p∈X.pn++KK,p.1≠b)
  (keep:∀ b o,b≠X.env.locals->b∉X.fs->b∉ch->s.heap.get? b=some o->H b=none->h'.get? b=some o)
  (slot:∀ b o,b≠X.env.locals->b∈X.fs->b∉ch->s.heap.get? b=some o->H b=none->∃ sl,h'.get? b=some { o with slots:=sl }) (free:∀ b o,b∉ch->s.heap.get? b=some o->H b=none->H' b=none)
  (there:∀ b o,b∉ch->s.heap.get? b=some o->∃ o',h'.get? b=some o')
  (tups:∀ b xs,H b=some (.tup xs)->H' b=some (.tup xs)) (frzs:∀ b o u,H b=some (.frz o u)->H' b=some (.frz o u)) (tbls:∀ b ps,H b=some (.tbl ps)->∃ more,H' b=some (.tbl (ps++more)))
  (ns:∀ m,s.heap.Ns X.env.locals m->h'.Ns X.env.locals m) (hok:HOk X.prog X.w H' h') (hg:AllBare g') :
  Inv X KK σ H' { s with heap:=h',gens:=g',drawn:=d',toks:=t' }:=by
 have neL:∀ b o,X.s₀.heap.get? b=some o->b≠X.env.locals:=fun b o e=>Qu (Qs (Qm e) I.ok.above)
 have neC:∀ b o,X.s₀.heap.get? b=some o->b∉X.ex->b∉ch:=fun b o e hx hb=>by
  rcases (hch b hb).1 with z | z
  ·exact hx z
  ·exact absurd (Qs (Qm e) z) (Q3 _)
 have cellK:∀ x c,X.env.cells.lookup x=some c->∀ v,s.heap.IsCell c v->h'.IsCell c v:=fun x c e v ⟨o,ho,hd⟩=>by
  have nch:c∉ch:=fun z=>(hch c z).2.2.1 x c e rfl
  by_cases hc:c∈X.fs
  ·obtain ⟨sl,q⟩:=slot c o (I.cne x c e) hc nch ho (I.freeC x c e)
   exact ⟨_,q,hd⟩
  ·exact ⟨o,keep c o (I.cne x c e) hc nch ho (I.freeC x c e),hd⟩
 refine ⟨I.ok,I.os,hg,⟨fun b o e n hb hx=>?_,fun b o e n hb hx=>?_,fun b o e n hx=>?_,fun b o e hx=>?_,fun b xs e=>tups b xs (I.base.tups b xs e),fun b o xs e=>frzs b o xs (I.base.frzs b o xs e),fun b ps e=>?_⟩,?_,fun x c e=>?_,?_,fun x c e=>?_,fun p hp=>?_,hok,I.len⟩
 ·exact keep b o (neL b o e) hb (neC b o e hx) (I.base.keep b o e n hb hx) (I.base.free b o e n hx)
 ·obtain ⟨sl,e1⟩:=I.base.slot b o e n hb hx
  obtain ⟨sl',e2⟩:=slot b _ (neL b o e) hb (neC b o e hx) e1 (I.base.free b o e n hx)
  exact ⟨sl',e2⟩
 ·obtain ⟨o',e1⟩:=I.base.there b o e hx
  exact free b o' (neC b o e hx) e1 (I.base.free b o e n hx)
 ·obtain ⟨o',e1⟩:=I.base.there b o e hx
  exact there b o' (neC b o e hx) e1
 ·obtain ⟨m1,e1⟩:=I.base.tbls b ps e
  obtain ⟨m2,e2⟩:=tbls b _ e1
  exact ⟨m1++m2,by rw [e2,Array.append_assoc]⟩
 ·obtain ⟨m,hn,hl⟩:=I.loc
  refine ⟨m,ns m hn,fun i x v e1 e2 e3=>?_⟩
  obtain ⟨u,r,l⟩:=hl i x v e1 e2 e3
  refine ⟨u,r,?_⟩
  rcases l with l | ⟨k,c,e,z⟩
  ·exact .inl l
  ·exact .inr ⟨k,c,e,cellK x c e _ z⟩
 ·obtain ⟨v,z⟩:=I.cell x c e
  exact ⟨v,cellK x c e v z⟩
 ·obtain ⟨m,⟨o,_,_,ho,_⟩,_⟩:=I.loc
  exact free _ o (fun z=>(hch _ z).2.1 rfl) ho I.free
 ·obtain ⟨v,o,ho,hd⟩:=I.cell x c e
  exact free c o (fun z=>(hch c z).2.2.1 x c e rfl) ho (I.freeC x c e)
 ·obtain ⟨e,n,ne,nf,d⟩:=I.pin p hp
  have nch:p.1∉ch:=fun z=>(hch p.1 z).2.2.2 p hp rfl
  exact ⟨keep p.1 p.2 ne nf nch e n,free p.1 p.2 nch e n,ne,nf,d⟩
theorem Inv.un {t':Nat} (I:Inv X KK σ H s) (u:Un X.fs [] H H' s.heap h') (hok:HOk X.prog X.w H' h'):Inv X KK σ H' { s with heap:=h',toks:=t' }:=by
 obtain ⟨m,⟨o,es,ep,ho,r⟩,_⟩:=id I.loc
 obtain ⟨sl,hL⟩:=u.any ho I.free (by simp)
 exact I.step (g':=s.gens) (d':=s.drawn) (ch:=[]) (fun _ z=>nomatch z) (fun b o _ hb _ e n=>u.keep b o e n hb (by simp)) (fun b o _ hb _ e n=>u.slot b o e n hb (by simp)) (fun b o _ e n=>u.free b o e n (by simp)) (fun b o _ e=>u.there b o e (by simp)) u.tups u.frzs u.tbls (fun m' hm=>by
  obtain ⟨o',es',ep',ho',r'⟩:=hm
  rw [ho] at ho';cases ho'
  exact ⟨_,es',ep',hL,r'⟩) hok I.bare
theorem Inv.call {g':Array GenState} {t':Nat} {d':Drawn} {ch:List Kc} (I:Inv X KK σ H s) (u:Un (frs X.stack) ch H H' s.heap h') (hok:HOk X.prog X.w H' h') (hg:AllBare g')
  (hch:∀ b∈ch,(b∈X.ex\/X.s₀.heap.objs.size<=b)/\b≠X.env.locals/\(∀ x c,X.env.cells.lookup x=some c->c≠b)/\∀ p∈X.pn++KK,p.1≠b) :
  Inv X KK σ H' { s with heap:=h',gens:=g',drawn:=d',toks:=t' }:=by
 obtain ⟨m,⟨o,es,ep,ho,r⟩,_⟩:=id I.loc
 obtain ⟨sl,hL⟩:=u.any ho I.free fun z=>(hch _ z).2.1 rfl
 exact I.step (ch:=ch) hch (fun b o hL hb hc e n=>u.keep b o e n (fun z=>(Qc.mp (I.stkSub b z)).elim hL hb) hc) (fun b o _ _ hc e n=>u.any e n hc) (fun b o hc e n=>u.free b o e n hc) (fun b o hc e=>u.there b o e hc) u.tups u.frzs u.tbls (fun m' hm=>by
  obtain ⟨o',es',ep',ho',r'⟩:=hm
  rw [ho] at ho';cases ho'
  exact ⟨_,es',ep',hL,r'⟩) hok hg
theorem Inv.turned {t':Nat} {it:Kc} (I:Inv X KK σ H s) (k:∀ b o,b≠it->s.heap.get? b=some o->h'.get? b=some o) (hn:H it=none) (hL:it≠X.env.locals)
  (h1:it∈X.ex\/X.s₀.heap.objs.size<=it) (h2:∀ x c,X.env.cells.lookup x=some c->c≠it) (h3:∀ p∈X.pn++KK,p.1≠it):Inv X KK σ H { s with heap:=h',toks:=t' }:=by
 have nit:∀ b u,H b=some u->b≠it:=fun b u e z=>by rw [z,hn] at e;cases e
 refine I.step (g':=s.gens) (d':=s.drawn) (ch:=[it]) (fun b hb=>?_) (fun b o _ _ hc e _=>k b o (fun z=>hc (by simp [z])) e) (fun b o _ _ hc e _=>⟨o.slots,k b o (fun z=>hc (by simp [z])) e⟩) (fun _ _ _ _ n=>n)
  (fun b o hc e=>⟨o,k b o (fun z=>hc (by simp [z])) e⟩) (fun _ _ e=>e) (fun _ _ _ e=>e) (fun b ps e=>⟨#[],by rw [e];simp⟩) (fun m hm=>?_) (fun b u e=>?_) I.bare
 ·have e:b=it:=by simpa using hb
  subst e
  exact ⟨h1,hL,h2,h3⟩
 ·obtain ⟨o,es,ep,ho,r⟩:=hm
  exact ⟨o,es,ep,k _ o (Ne.symm hL) ho,r⟩
 ·refine (I.hok b u e).stay (fun c v hc q=>k c v ?_ q) (fun _ q=>q) fun _ _ q=>q
  rcases hc with z | z
  ·rw [z];exact nit b u e
  ·exact nit c _ z
theorem Inv.tok (I:Inv X KK σ H s) (t:Nat):Inv X KK σ H { s with toks:=t }:=I.un (h':=s.heap) (t':=t) Un.refl I.hok
theorem Inv.kept {t':Nat} (I:Inv X KK σ H s) (k:∀ b u,s.heap.get? b=some u->h'.get? b=some u):Inv X KK σ H { s with heap:=h',toks:=t' }:=I.un (Un.kept k) (I.hok.kept k)
theorem Inv.laid {a:Kc} {o:HO} {t':Nat} (I:Inv X KK σ H s) (k:∀ b u,s.heap.get? b=some u->h'.get? b=some u) (hp:s.heap.objs.size<=a) (new:Z9 X.prog X.w (upd H a o) h' a o) :
  Inv X KK σ (upd H a o) { s with heap:=h',toks:=t' }:=I.un (Un.laid k hp (I.hok.fresh hp)) (I.hok.laid k hp new)
theorem Inv.write {x e:Kc} {o:HO} {t':Nat} (I:Inv X KK σ H s) (mu:Mut (H x)) (he:e=x\/H e=some (.own x)) (k:∀ b u,b≠e->s.heap.get? b=some u->h'.get? b=some u) (heo:∃ u,h'.get? e=some u)
  (new:Z9 X.prog X.w (upd H x o) h' x o):Inv X KK σ (upd H x o) { s with heap:=h',toks:=t' }:=I.un (Un.write mu he k heo) (I.hok.write mu he k heo new)
theorem Inv.pins_of {pins':List (Kc×KA)} (I:Inv X KK σ H s) (h:∀ p∈pins',s.heap.get? p.1=some p.2/\H p.1=none/\p.1≠X.env.locals/\p.1∉X.fs/\∀ v,p.2.data≠.cell v):Inv X pins' σ H s :=
 ⟨I.ok,I.os,I.bare,I.base,I.loc,I.cell,I.free,I.freeC,fun p hp=>(QA.mp hp).elim (fun z=>I.pin p (P1 _ z)) (h p),I.hok,I.len⟩
theorem W2 {N:List Kw} (hN:N.Nodup) {i j:Nat} {x:Kw} (a:N[i]?=some x) (b:N[j]?=some x):i=j:=by
 obtain ⟨h1,e1⟩:=Qh.mp a
 obtain ⟨h2,e2⟩:=Qh.mp b
 exact (List.getElem_inj hN).mp (e1.trans e2.symm)
theorem store_ok2 {M:Model} {A:Kj} {E:Ka->Kb->Prop} {i:Nat} {x:Kw} {v:V} {u:Ka} {Q:Unit->Kb->Prop} (I:Inv X KK σ H s) (hN:X.N.Nodup) (hi:X.N[i]?=some x) (hx:Loc X.env.scope x) (r:Zl v u)
  (h:∀ s',Inv X KK (σ.set i (some v)) H s'->(∃ a,Heap.SameBut a s.heap s'.heap/\(a=X.env.locals\/X.env.cells.lookup x=some a))->Q () s') (hf:X.fn x=true\/X.env.scope.names.lookup x=some .local:=by first | exact .inl rfl | exact .inr rfl | assumption):Ko M A (storeName X.env x u) Q E s:=by
 obtain ⟨m,hn,hl⟩:=id I.loc
 have hcls:(X.env.scope.kind == .class||(X.env.scope.kind == .module&&X.env.locals != X.env.globals))=false:=by rw [I.ok.kind];rfl
 have hiσ:i<σ.length:=by rw [I.len];exact (Qh.mp hi).1
 have cne:=I.cne
 have tracked:∀ {a:Kc} {h':Kl},(∃ o,s.heap.get? a=some o/\H a=none)->Heap.SameBut a s.heap h'->HOk X.prog X.w H h':=fun {a h'} ha hs b ob e=>by
  obtain ⟨_,_,hfree⟩:=ha
  refine (I.hok b ob e).stay (fun c w' hc q=>(hs.2 c ?_).trans q) (fun _ q=>q) fun _ _ q=>q
  rintro rfl
  rcases hc with rfl | hc
  ·rw [hfree] at e;cases e
  ·rw [hfree] at hc;cases hc
 rcases hx with hk | hk
 ·refine wpAny_storeName_local hk hn (fun h' hn' hs=>?_) hcls
  obtain ⟨oL,_,_,hoL,_⟩:=id hn
  refine h _ ⟨I.ok,I.os,I.bare,⟨fun b o e n hb hx=>?_,fun b o e n hb hx=>?_,I.base.free,fun b o e hx=>?_,I.base.tups,I.base.frzs,I.base.tbls⟩,⟨_,hn',fun j y v' e1 e2 e3=>?_⟩,fun y c e=>?_,I.free,I.freeC,fun p hp=>?_,tracked ⟨oL,hoL,I.free⟩ hs,by simpa using I.len⟩ ⟨_,hs,.inl rfl⟩
  ·exact (hs.2 b (Qu (Qs (Qm e) I.ok.above))).trans (I.base.keep b o e n hb hx)
  ·obtain ⟨sl,e1⟩:=I.base.slot b o e n hb hx
   exact ⟨sl,(hs.2 b (Qu (Qs (Qm e) I.ok.above))).trans e1⟩
  ·obtain ⟨o',e1⟩:=I.base.there b o e hx
   exact ⟨o',(hs.2 b (Qu (Qs (Qm e) I.ok.above))).trans e1⟩
  ·by_cases hj:j=i
   ·subst hj
    rw [hi] at e1;cases e1
    rw [QG hiσ] at e2
    cases e2
    exact ⟨u,r,.inl ⟨hk,by simp⟩⟩
   ·rw [Px (Ne.symm hj)] at e2
    obtain ⟨u',r',q⟩:=hl j y v' e1 e2 e3
    refine ⟨u',r',?_⟩
    rcases q with ⟨k,e⟩ | ⟨k,c,e,z⟩
    ·refine .inl ⟨k,?_⟩
     have:y≠x:=fun e=>hj (W2 hN e1 (e▸hi))
     simp [this,e]
    ·exact .inr ⟨k,c,e,z.sameBut hs (cne y c e)⟩
  ·obtain ⟨w',z⟩:=I.cell y c e
   exact ⟨w',z.sameBut hs (cne y c e)⟩
  ·obtain ⟨e,n,ne,nf,d⟩:=I.pin p hp
   exact ⟨(hs.2 p.1 ne).trans e,n,ne,nf,d⟩
 ·have hfn:X.fn x=true:=by
   rcases hf with z | z
   ·exact z
   ·rw [z] at hk;cases hk
  obtain ⟨c,hc⟩:=I.ok.has x (.inl hk)
  obtain ⟨w',z⟩:=I.cell x c hc
  refine wpAny_storeName_cell I.ok.kind hk hc z (fun h' hc' hs=>?_)
  obtain ⟨oc,hoc,hocd⟩:=id z
  refine h { s with heap:=h' } ⟨I.ok,I.os,I.bare,⟨fun b o e n hb hx=>?_,fun b o e n hb hx=>?_,I.base.free,fun b o e hx=>?_,I.base.tups,I.base.frzs,I.base.tbls⟩,⟨m,hn.sameBut hs (Ne.symm (cne x c hc)),fun j y v' e1 e2 e3=>?_⟩,fun y c' e=>?_,I.free,I.freeC,fun p hp=>?_,tracked ⟨oc,hoc,I.freeC x c hc⟩ hs,by simpa using I.len⟩ ⟨c,hs,.inr hc⟩
  ·exact (hs.2 b (Qu (Qs (Qm e) (I.ok.cab x c hfn hc)))).trans (I.base.keep b o e n hb hx)
  ·obtain ⟨sl,e1⟩:=I.base.slot b o e n hb hx
   exact ⟨sl,(hs.2 b (Qu (Qs (Qm e) (I.ok.cab x c hfn hc)))).trans e1⟩
  ·obtain ⟨o',e1⟩:=I.base.there b o e hx
   exact ⟨o',(hs.2 b (Qu (Qs (Qm e) (I.ok.cab x c hfn hc)))).trans e1⟩
  ·by_cases hj:j=i
   ·subst hj
    rw [hi] at e1;cases e1
    rw [QG hiσ] at e2
    cases e2
    exact ⟨u,r,.inr ⟨.inl hk,c,hc,hc'⟩⟩
   ·rw [Px (Ne.symm hj)] at e2
    obtain ⟨u',r',q⟩:=hl j y v' e1 e2 e3
    refine ⟨u',r',?_⟩
    rcases q with q | ⟨k,c',e,z'⟩
    ·exact .inl q
    ·refine .inr ⟨k,c',e,z'.sameBut hs ?_⟩
     rintro rfl
     exact hj (W2 hN e1 (I.ok.inj _ _ _ e hc▸hi))
  ·by_cases hcc:c'=c
   ·subst hcc;exact ⟨_,hc'⟩
   ·obtain ⟨w2,z2⟩:=I.cell y c' e
    exact ⟨w2,z2.sameBut hs hcc⟩
  ·obtain ⟨e,n,ne,nf,d⟩:=I.pin p hp
   refine ⟨(hs.2 p.1 ?_).trans e,n,ne,nf,d⟩
   intro q
   rw [q,hoc] at e
   have q':oc=p.2:=Option.some.inj e
   exact d w' (by rw [<- q'];exact hocd)
theorem WC {M:Model} {A:Kj} {E:Ka->Kb->Prop} {i:Nat} {x:Kw} {v:V} {u:Ka} {Q:Unit->Kb->Prop} (I:Inv X KK σ H s) (hN:X.N.Nodup) (hi:X.N[i]?=some x) (hx:Loc X.env.scope x) (r:Zl v u)
  (h:∀ s',Inv X KK (σ.set i (some v)) H s'->Q () s') (hf:X.fn x=true\/X.env.scope.names.lookup x=some .local:=by first | exact .inl rfl | exact .inr rfl | assumption):Ko M A (storeName X.env x u) Q E s :=
 store_ok2 I hN hi hx r (fun s' I' _=>h s' I') hf
theorem Inv.call' {s':Kb} {ch:List Kc} (I:Inv X KK σ H s) (ho:s'.os=s.os) (u:Un (frs X.stack) ch H H' s.heap s'.heap) (hok:HOk X.prog X.w H' s'.heap) (hg:AllBare s'.gens)
  (hch:∀ b∈ch,(b∈X.ex\/X.s₀.heap.objs.size<=b)/\b≠X.env.locals/\(∀ x c,X.env.cells.lookup x=some c->c≠b)/\∀ p∈X.pn++KK,p.1≠b):Inv X KK σ H' s':=by
 obtain ⟨h',g',d',t',o'⟩:=s'
 have e:o'=s.os:=ho
 subst e
 exact I.call (g':=g') (t':=t') (d':=d') u hok hg hch
end
abbrev XK:=Ka->Option Kc->Hp->Prop
abbrev St:=List (Option V)
abbrev VK:=V->Hp->Prop
abbrev TE:=St->Hp->VK->Prop
abbrev TT:=St->Hp->(Bool->Hp->Prop)->Prop
abbrev TA:=St->Hp->(List V->Hp->Prop)->Prop
structure Ends where
 nx:St->Hp->Prop
 rt:VK
 bk:St->Hp->Prop:=fun _ _=>False
 ct:St->Hp->Prop:=fun _ _=>False
abbrev TS:=Ends->St->Hp->Prop
def EP (X:Cx) (KK:List (Kc×KA)) (σ:St) (Q:VK) (u:Ka) (s':Kb):Prop:=∃ v H',Inv X KK σ H' s'/\Zl v u/\Q v H'
def TP (X:Cx) (KK:List (Kc×KA)) (σ:St) (Q:Bool->Hp->Prop) (b:Bool) (s':Kb):Prop:=∃ H',Inv X KK σ H' s'/\Q b H'
def AP (X:Cx) (KK:List (Kc×KA)) (σ:St) (Q:List V->Hp->Prop) (us:List Ka) (s':Kb):Prop:=∃ vs H',Inv X KK σ H' s'/\zP vs us/\Q vs H'
def SP (X:Cx) (KK:List (Kc×KA)) (D:Ends) (f:Flow) (s':Kb):Prop :=
 match f with
 | .next=>∃ σ' H',Inv X KK σ' H' s'/\D.nx σ' H'
 | .brk=>∃ σ' H',Inv X KK σ' H' s'/\D.bk σ' H'
 | .cont=>∃ σ' H',Inv X KK σ' H' s'/\D.ct σ' H'
 | .ret u=>∃ v σ' H',Inv X KK σ' H' s'/\Zl v u/\D.rt v H'
def PE (X:Cx) (e:Kv) (t:TE):Prop :=
 ∀ (KK:List (Kc×KA)) (s:Kb) (σ:St) (H:Hp) (Q:VK),Inv X KK σ H s->t σ H Q->Ko (Ky X.prog X.w) X.A (Kz e X.env) (EP X KK σ Q) X.xe s
def PT (X:Cx) (e:Kv) (t:TT):Prop :=
 ∀ (KK:List (Kc×KA)) (s:Kb) (σ:St) (H:Hp) (Q:Bool->Hp->Prop),Inv X KK σ H s->t σ H Q->Ko (Ky X.prog X.w) X.A (isTrue e X.env (Kz e X.env)) (TP X KK σ Q) X.xe s
def PW (X:Cx) (e:Kv) (t:TT):Prop :=
 ∀ (whole:Sem Ka) (KK:List (Kc×KA)) (s:Kb) (σ:St) (H:Hp) (Q:Bool->Hp->Prop),Inv X KK σ H s->t σ H Q->Ko (Ky X.prog X.w) X.A (isTrue e X.env whole) (TP X KK σ Q) X.xe s
theorem PW.pt {X:Cx} {e:Kv} {t:TT} (h:PW X e t):PT X e t:=h _
def PA (X:Cx) (es:List Kv) (t:TA):Prop :=
 ∀ (pos:KB) (KK:List (Kc×KA)) (s:Kb) (σ:St) (H:Hp) (Q:List V->Hp->Prop),Inv X KK σ H s->t σ H Q->Ko (Ky X.prog X.w) X.A (spliced (Kq pos (Ke es X.env))) (AP X KK σ Q) X.xe s
def PS (X:Cx) (st:Kx) (t:TS):Prop :=
 ∀ (KK:List (Kc×KA)) (s:Kb) (σ:St) (H:Hp) (D:Ends),Inv X KK σ H s->t D σ H->Ko (Ky X.prog X.w) X.A (exec st X.env) (SP X KK D) X.xe s
def PSs (X:Cx) (st:List Kx) (t:TS):Prop :=
 ∀ (KK:List (Kc×KA)) (s:Kb) (σ:St) (H:Hp) (D:Ends),Inv X KK σ H s->t D σ H->Ko (Ky X.prog X.w) X.A (execs st X.env) (SP X KK D) X.xe s
theorem thn {α:Type} {t:Sem α} {Q Q':α->Kb->Prop} {M:Model} {A:Kj} {E:Ka->Kb->Prop} {s:Kb} (h:Ko M A t Q E s) (hQ:∀ a s,Q a s->Q' a s):Ko M A t Q' E s:=QR h hQ fun _ _ x=>x
end L2
namespace L2
open PySem PySem.Spec PyProof.Rows
section
variable {X:Cx}
theorem bin {a b:Kv} {ta tb:TE} (ha:PE X a ta) (hb:PE X b tb) {KK:List (Kc×KA)} {s:Kb} {σ:St} {H:Hp} {R:V->V->Hp->Prop} (I:Inv X KK σ H s) (h:ta σ H fun x H1=>tb σ H1 fun y H2=>R x y H2)
  {α:Type} {Q:α->Kb->Prop} {f:Ka->Ka->Sem α}
  (hf:∀ v u s2 x y H2,Inv X KK σ H2 s2->Zl x v->Zl y u->R x y H2->Ko (Ky X.prog X.w) X.A (f v u) Q X.xe s2) :
  Ko (Ky X.prog X.w) X.A (Kz a X.env) (fun v s₁=>Ko (Ky X.prog X.w) X.A (Kz b X.env) (fun u s₂=>Ko (Ky X.prog X.w) X.A (f v u) Q X.xe s₂) X.xe s₁) X.xe s:=by
 refine thn (ha KK s σ H _ I h) fun v s1 ⟨x,H1,I1,r1,q1⟩=>?_
 refine thn (hb KK s1 σ H1 _ I1 q1) fun u s2 ⟨y,H2,I2,r2,q2⟩=>?_
 exact hf v u s2 x y H2 I2 r1 r2 q2
def Zj (i:Nat):TE:=fun σ H Q=>∃ v,σ[i]?=some (some v)/\Q v H
def tC (v:V):TE:=fun _ H Q=>Q v H
theorem pe_var {i:Nat} {x:Kw} {pos:KB} (hN:X.N[i]?=some x) (hv:Vis X.env.scope x) (hd:(x == ("__debug__":Kw))=false:=by decide) (hcd:(x == ("__classdict__":Kw))=false:=by decide):PE X (.Name x pos) (Zj i):=by
 intro KK s σ H Q I h
 obtain ⟨v,e,h⟩:=h
 obtain ⟨m,hn,hl⟩:=I.loc
 obtain ⟨u,r,l⟩:=hl i x v hN e hv
 have fin:EP X KK σ Q u s:=⟨v,H,I,r,h⟩
 rcases l with ⟨hk,hm⟩ | ⟨hk,c,hc,hcell⟩
 ·exact wpAny_Name (wpAny_loadName_local I.ok.kind hk hn hm fin) hd
 ·rcases hk with hk | hk
  ·exact wpAny_Name (wpAny_loadName_cell I.ok.kind hk hc hcell fin) hd
  ·exact wpAny_Name (wpAny_loadName_free I.ok.kind hk hc hcell fin hcd) hd
theorem yK {i j pos}:PE X (.Constant (.int i) j pos) (tC (.int i)):=fun _ _ _ H _ I h=>wpAny_Constant_int ⟨.int i,H,I.tok _,⟨_,rfl⟩,h⟩
theorem pe_bl {b j pos}:PE X (.Constant (.bool b) j pos) (tC (.bl b)):=fun _ _ _ H _ I h=>Constant_bool ⟨.bl b,H,I,rfl,h⟩
theorem pe_non {j pos}:PE X (.Constant .none j pos) (tC .non):=fun _ _ _ H _ I h=>Constant_none ⟨.non,H,I,rfl,h⟩
theorem J7 {x j pos}:PE X (.Constant (.str x) j pos) (tC (.str x)):=fun _ _ _ H _ I h=>Calls.Constant_str ⟨.str x,H,I.tok _,⟨_,rfl⟩,h⟩
def Gl (X:Cx) (x:Kw):Prop:=X.env.kindOf x=some .globalImplicit
theorem Ja {E:Ka->Kb->Prop} {KK:List (Kc×KA)} {s:Kb} {σ:St} {H:Hp} {x:Kw} {u:Ka} {pos:KB} {Q:Ka->Kb->Prop} (I:Inv X KK σ H s) (hg:Gl X x) (hm:X.mg x=some u) (h:Q u s)
  (hd:(x == ("__debug__":Kw))=false:=by decide):Ko (Ky X.prog X.w) X.A (Kz (.Name x pos) X.env) Q E s :=
 Calls.Name_function_global I.ok.kind hg (Calls.loadGlobal_global (by rw [I.ok.glob];exact I.mod.glob.keeps I.bk) hm h) hd
theorem jT {E:Ka->Kb->Prop} {KK:List (Kc×KA)} {s:Kb} {σ:St} {H:Hp} {x:Kw} {u:Ka} {pos:KB} {Q:Ka->Kb->Prop} (I:Inv X KK σ H s) (hg:Gl X x) (hm:X.mg x=none) (hv:bootBuiltins x=some u) (h:Q u s)
  (hn:x≠"__name__":=by decide) (hd:(x == ("__debug__":Kw))=false:=by decide):Ko (Ky X.prog X.w) X.A (Kz (.Name x pos) X.env) Q E s:=by
 obtain ⟨mb,h1,h2⟩:=I.mod.blt
 exact Calls.Name_function_global I.ok.kind hg (Calls.loadGlobal_builtin (by rw [I.ok.glob];exact I.mod.glob.keeps I.bk) hm (by rw [I.ok.blt];exact h1.keeps I.bk) ((h2 x hn).trans hv) h) hd
theorem Yb {x:Kw} {v:V} {u:Ka} {pos:KB} (hg:Gl X x) (hm:X.mg x=some u) (r:Zl v u) (hd:(x == ("__debug__":Kw))=false:=by decide):PE X (.Name x pos) (tC v) :=
 fun _ _ _ H _ I h=>Ja I hg hm ⟨v,H,I,r,h⟩ hd
theorem pe_bltn {x:Kw} {v:V} {u:Ka} {pos:KB} (hg:Gl X x) (hm:X.mg x=none) (hv:bootBuiltins x=some u) (r:Zl v u) (hn:x≠"__name__":=by decide) (hd:(x == ("__debug__":Kw))=false:=by decide):PE X (.Name x pos) (tC v) :=
 fun _ _ _ H _ I h=>jT I hg hm hv ⟨v,H,I,r,h⟩ hn hd
variable {a b:Kv} {ta tb:TE} {pos:KB}
def PC (X:Cx) (op:CmpOp) (a b:Kv) (t:TE):Prop :=
 ∀ (KK:List (Kc×KA)) (s:Kb) (σ:St) (H:Hp) (Q:VK),Inv X KK σ H s->t σ H Q ->
  Ko (Ky X.prog X.w) X.A (Kz a X.env) (fun v s₁=>Ko (Ky X.prog X.w) X.A (Kz b X.env) (fun u s₂=>Ko (Ky X.prog X.w) X.A (Km op v u) (EP X KK σ Q) X.xe s₂) X.xe s₁) X.xe s
theorem nobehind (b:Kv) {op:CmpOp} (h:op≠.In) (h2:op≠.NotIn):behindInMarks op b=false:=by
 have e1:(op == CmpOp.In)=false:=by cases op <;> first | rfl | exact absurd rfl h
 have e2:(op == CmpOp.NotIn)=false:=by cases op <;> first | rfl | exact absurd rfl h2
 cases b <;> simp [behindInMarks,e1,e2]
def tB (t:TE):TT:=fun σ H Q=>t σ H fun x H1=>∃ c,x=.bl c/\Q c H1
theorem pt_cmp {op:CmpOp} {t:TE} (h:PC X op a b t) (h1:behindInMarks op b=false:=by first | exact nobehind _ (by decide) (by decide) | rfl):PT X (.Compare a [op] [b] pos) (tB t):=by
 intro KK s σ H Q I hw
 refine wpAny_isTrue_Compare1 (thn (h KK s σ H _ I hw) fun v s1 h1=>thn h1 fun u s2 h2=>thn h2 fun c s3 ⟨x,H1,I1,r1,q1⟩=>?_) h1
 obtain ⟨d,rfl,q⟩:=q1
 cases r1
 exact Pc ⟨H1,I1,q⟩
theorem pt_val {e:Kv} {t:TE} (h:PE X e t) (he:∀ whole,isTrue e X.env whole=(do let v <- whole;standAt e.pos;holding [v] (truthy v)):=by intro _;rfl):PT X e (tB t):=by
 intro KK s σ H Q I hw
 refine isTrue_plain (thn (h KK s σ H _ I hw) fun v s1 ⟨x,H1,I1,r1,q1⟩=>?_) (he _)
 obtain ⟨d,rfl,q⟩:=q1
 cases r1
 exact Pc ⟨H1,I1,q⟩
variable {tA tB':TT} {zX:List Kv}
def tAnd (t u:TT):TT:=fun σ H Q=>t σ H fun c H1=>if c=true then u σ H1 Q else Q false H1
def tOr (t u:TT):TT:=fun σ H Q=>t σ H fun c H1=>if c=true then Q true H1 else u σ H1 Q
def tNot (t:TT):TT:=fun σ H Q=>t σ H fun c H1=>Q (!c) H1
theorem pw_and1 (ha:PT X a tA):PW X (.BoolOp .And [a] pos) tA:=by
 intro wh KK s σ H Q I h
 refine isTrue_and (thn (ha KK s σ H Q I h) fun c s1 e=>?_)
 cases c with
 | true=>exact isTrue_and_nil e
 | false=>exact e
theorem pw_or1 (ha:PT X a tA):PW X (.BoolOp .Or [a] pos) tA:=by
 intro wh KK s σ H Q I h
 refine isTrue_or (thn (ha KK s σ H Q I h) fun c s1 e=>?_)
 cases c with
 | false=>exact isTrue_or_nil e
 | true=>exact e
theorem pw_and (ha:PT X a tA) (hb:PW X (.BoolOp .And (b::zX) pos) tB'):PW X (.BoolOp .And (a::b::zX) pos) (tAnd tA tB'):=by
 intro wh KK s σ H Q I h
 refine isTrue_and (thn (ha KK s σ H _ I h) fun c s1 ⟨H1,I1,q1⟩=>?_)
 cases c with
 | true=>exact hb wh KK s1 σ H1 Q I1 q1
 | false=>exact ⟨H1,I1,q1⟩
theorem pw_or (ha:PT X a tA) (hb:PW X (.BoolOp .Or (b::zX) pos) tB'):PW X (.BoolOp .Or (a::b::zX) pos) (tOr tA tB'):=by
 intro wh KK s σ H Q I h
 refine isTrue_or (thn (ha KK s σ H _ I h) fun c s1 ⟨H1,I1,q1⟩=>?_)
 cases c with
 | true=>exact ⟨H1,I1,q1⟩
 | false=>exact hb wh KK s1 σ H1 Q I1 q1
theorem pt_not (ha:PT X a tA):PT X (.UnaryOp .Not a pos) (tNot tA):=by
 intro KK s σ H Q I h
 exact isTrue_not (ha KK s σ H (fun c H1=>Q (!c) H1) I h)
def tAndV (ta tb:TE):TE:=fun σ H Q=>ta σ H fun x H1=>∃ c,x=.bl c/\if c=true then tb σ H1 Q else Q (.bl false) H1
def tNotV (ta:TE):TE:=fun σ H Q=>ta σ H fun x H1=>∃ c,x=.bl c/\Q (.bl (!c)) H1
theorem pe_one {op} {t:TE} (h:PE X a t):PE X (.BoolOp op [a] pos) t:=fun KK s σ H Q I hw=>BoolOp_one (h KK s σ H Q I hw)
theorem pe_and (ha:PE X a ta) (hb:PE X (.BoolOp .And (b::zX) pos) tb):PE X (.BoolOp .And (a::b::zX) pos) (tAndV ta tb):=by
 intro KK s σ H Q I h
 refine BoolOp_and (thn (ha KK s σ H _ I h) fun v s1 ⟨x,H1,I1,r1,q1⟩=>?_)
 obtain ⟨c,rfl,q1⟩:=q1
 cases r1
 refine Pc ?_
 cases c with
 | true=>exact hb KK s1 σ H1 Q I1 q1
 | false=>exact ⟨.bl false,H1,I1,rfl,q1⟩
theorem pe_not (ha:PE X a ta):PE X (.UnaryOp .Not a pos) (tNotV ta):=by
 intro KK s σ H Q I h
 refine UnaryOp_ (thn (ha KK s σ H _ I h) fun v s1 ⟨x,H1,I1,r1,q1⟩=>?_)
 obtain ⟨c,rfl,q1⟩:=q1
 cases r1
 exact not_of (Pc ⟨.bl (!c),H1,I1,rfl,q1⟩)
def tIf (t:TT) (ta tb:TE):TE:=fun σ H Q=>t σ H fun c H1=>if c=true then ta σ H1 Q else tb σ H1 Q
theorem pe_ifExp {c:Kv} (hc:PT X c tA) (ha:PE X a ta) (hb:PE X b tb):PE X (.IfExp c a b pos) (tIf tA ta tb):=by
 intro KK s σ H Q I h
 refine wpAny_IfExp (thn (hc KK s σ H _ I h) fun d s1 ⟨H1,I1,q1⟩=>?_)
 cases d with
 | true=>exact ha KK s1 σ H1 Q I1 q1
 | false=>exact hb KK s1 σ H1 Q I1 q1
end
end L2
namespace L2
open PySem PySem.Spec PyProof.Rows
def SqL (K:KC) (H:Hp) (a:Kc) (xs:List V):Prop :=
 Rd H a (.lst xs) \/
  ∃ (o:KA) (KQ:Array Ka) (n:Nat),K.lookup a=some o/\o.cls=.type "list"/\o.dict=none/\o.data=.seq KQ n/\KQ.size<=Kg/\zP xs KQ.toList
def SqT (K:KC) (H:Hp) (a:Kc) (xs:List V):Prop :=
 Rd H a (.tup xs) \/
  ∃ (o:KA) (KQ:Array Ka) (n:Nat),K.lookup a=some o/\o.cls=.type "tuple"/\o.data=.seq KQ n/\KQ.size<=Kg/\zP xs KQ.toList
def absV:Ka->Option V
 | .none=>some .non
 | .bool b=>some (.bl b)
 | .int i _=>some (.int i)
 | .str x _=>some (.str x)
 | .bytes b _=>some (.byt b)
 | .float b _=>some (.flt b)
 | .ref a=>some (.ref a)
 | .type n=>some (.ty n)
 | _=>none
theorem Zl.abs {x:V} {u:Ka} (r:Zl x u):absV u=some x:=by
 cases x with
 | non=>cases r;rfl
 | bl _=>cases r;rfl
 | int _=>obtain ⟨t,rfl⟩:=r;rfl
 | str _=>obtain ⟨t,rfl⟩:=r;rfl
 | byt _=>obtain ⟨t,rfl⟩:=r;rfl
 | flt _=>obtain ⟨t,rfl⟩:=r;rfl
 | ref _=>cases r;rfl
 | ty _=>cases r;rfl
theorem Zl.inj {x y:V} {u:Ka} (r:Zl x u) (q:Zl y u):x=y:=Option.some.inj (r.abs.symm.trans q.abs)
theorem zP.inj:∀ {xs ys:List V} {us:List Ka},zP xs us->zP ys us->xs=ys
 | _,_,_,.nil,.nil=>rfl
 | _,_,_,.cons r t,.cons r' t'=>by rw [r.inj r',zP.inj t t']
section
variable {X:Cx} {KK:List (Kc×KA)} {σ:St} {H:Hp} {s:Kb} {a:Kc} {xs ys:List V}
theorem SqT.of {K:KC} (h:H a=some (.tup xs)):SqT K H a xs:=.inl (.inl h)
theorem Inv.list (I:Inv X KK σ H s) (h:SqL X.K H a xs):∃ KQ:List Ka,zP xs KQ/\PlainL s.heap a KQ.toArray/\xs.length<=Kg:=by
 rcases h with h | ⟨o,KQ,n,hk,hc,hd,hs,hz,r⟩
 ·obtain ⟨z,KQ,n,r,e⟩:=h.ok I.hok
  exact ⟨KQ,r,⟨_,n,e,rfl,rfl,rfl⟩,z⟩
 ·refine ⟨KQ.toList,r,⟨o,n,I.kIn a o hk,hc,hd,by simpa using hs⟩,?_⟩
  have e:=r.length
  simp only [Array.length_toList] at e
  omega
theorem Inv.tuple (I:Inv X KK σ H s) (h:SqT X.K H a xs):∃ KQ:List Ka,zP xs KQ/\IsTup s.heap a KQ.toArray/\xs.length<=Kg:=by
 rcases h with h | ⟨o,KQ,n,hk,hc,hs,hz,r⟩
 ·obtain ⟨z,KQ,r,p⟩:=h.ok I.hok
  exact ⟨KQ,r,p,z⟩
 ·refine ⟨KQ.toList,r,⟨o,I.kIn a o hk,hc,n,by simpa using hs⟩,?_⟩
  have e:=r.length
  simp only [Array.length_toList] at e
  omega
theorem Inv.list_inj (I:Inv X KK σ H s) (h:SqL X.K H a xs) (h':SqL X.K H a ys):xs=ys:=by
 obtain ⟨KQ,r,⟨o,n,e,_,_,d⟩,_⟩:=I.list h
 obtain ⟨its',r',⟨o',n',e',_,_,d'⟩,_⟩:=I.list h'
 rw [e] at e';cases e'
 rw [d] at d'
 injection d' with d1 _
 have:KQ=its':=by simpa using congrArg Array.toList d1
 subst this
 exact r.inj r'
theorem Inv.tuple_inj (I:Inv X KK σ H s) (h:SqT X.K H a xs) (h':SqT X.K H a ys):xs=ys:=by
 obtain ⟨KQ,r,⟨o,e,_,n,d⟩,_⟩:=I.tuple h
 obtain ⟨its',r',⟨o',e',_,n',d'⟩,_⟩:=I.tuple h'
 rw [e] at e';cases e'
 rw [d] at d'
 injection d' with d1 _
 have:KQ=its':=by simpa using congrArg Array.toList d1
 subst this
 exact r.inj r'
end
abbrev Cx.wish (X:Cx) (E:Ka->Kb->Prop):Cx:={ X with xe:=E }
abbrev Cx.nox (X:Cx):Cx:=X.wish fun _ _=>False
theorem Cx.Ok.wish {X:Cx} (ok:X.Ok) (E:Ka->Kb->Prop):(X.wish E).Ok :=
 ⟨ok.mod,ok.kind,ok.glob,ok.blt,ok.above,ok.inj,ok.has,ok.cab,ok.hd,ok.frames,ok.stk,ok.exf,ok.bs,ok.bsz,ok.noex,ok.exfs,ok.funs,ok.frf,ok.top,ok.tree⟩
theorem Cx.Ok.unwish {X:Cx} {E:Ka->Kb->Prop} (ok:(X.wish E).Ok):X.Ok :=
 ⟨ok.mod,ok.kind,ok.glob,ok.blt,ok.above,ok.inj,ok.has,ok.cab,ok.hd,ok.frames,ok.stk,ok.exf,ok.bs,ok.bsz,ok.noex,ok.exfs,ok.funs,ok.frf,ok.top,ok.tree⟩
section
variable {X:Cx} {KK:List (Kc×KA)} {σ:St} {H:Hp} {s:Kb} {E:Ka->Kb->Prop}
theorem Inv.wish (I:Inv X KK σ H s) (E:Ka->Kb->Prop):Inv (X.wish E) KK σ H s:=⟨I.ok.wish E,I.os,I.bare,I.base,I.loc,I.cell,I.free,I.freeC,I.pin,I.hok,I.len⟩
theorem Inv.unwish (I:Inv (X.wish E) KK σ H s):Inv X KK σ H s:=⟨I.ok.unwish,I.os,I.bare,I.base,I.loc,I.cell,I.free,I.freeC,I.pin,I.hok,I.len⟩
theorem SP.unwish {D:Ends} {f:Flow} {s':Kb} (h:SP (X.wish E) KK D f s'):SP X KK D f s':=by
 cases f with
 | next=>obtain ⟨σ',H',I,q⟩:=h;exact ⟨σ',H',I.unwish,q⟩
 | brk=>obtain ⟨σ',H',I,q⟩:=h;exact ⟨σ',H',I.unwish,q⟩
 | cont=>obtain ⟨σ',H',I,q⟩:=h;exact ⟨σ',H',I.unwish,q⟩
 | ret u=>obtain ⟨v,σ',H',I,r,q⟩:=h;exact ⟨v,σ',H',I.unwish,r,q⟩
theorem PT.nox {e:Kv} {t:TT} (h:PT X.nox e t):PT X e t:=fun KK s σ H Q I hw =>
 QR (h KK s σ H Q (I.wish _) hw) (fun _ _ ⟨H',I',q⟩=>⟨H',I'.unwish,q⟩) fun _ _ z=>False.elim z
theorem PSs.nox {st:List Kx} {t:TS} (h:PSs X.nox st t):PSs X st t:=fun KK s σ H D I hw =>
 QR (h KK s σ H D (I.wish _) hw) (fun _ _ q=>q.unwish) fun _ _ z=>False.elim z
end
section
variable {X:Cx} {st:Kx} {zX:List Kx} {t u:TS} {e:Kv} {te:TE} {pos:KB}
def Jj:TS:=fun D σ H=>D.nx σ H
def yF (t u:TS):TS:=fun D σ H=>t { D with nx:=u D } σ H
theorem jh:PSs X [] Jj:=fun _ _ σ H _ I h=>PB ⟨σ,H,I,h⟩
theorem Zf (h1:PS X st t) (h2:PSs X zX u):PSs X (st::zX) (yF t u):=by
 intro KK s σ H D I h
 refine wpAny_execs_cons (thn (h1 KK s σ H { D with nx:=u D } I h) fun f s1 q=>?_)
 cases f with
 | next =>
  obtain ⟨σ',H',I',q⟩:=q
  exact h2 KK s1 σ' H' D I' q
 | ret v=>exact q
 | brk=>exact q
 | cont=>exact q
theorem Z8 (h1:PS X st t):PSs X [st] t:=by
 intro KK s σ H D I h
 refine wpAny_execs_cons (thn (h1 KK s σ H D I h) fun f s1 q=>?_)
 cases f with
 | next=>exact PB q
 | ret v=>exact q
 | brk=>exact q
 | cont=>exact q
theorem Inv.quiet {KK:List (Kc×KA)} {σ:St} {H:Hp} {s:Kb} (I:Inv X KK σ H s):interactive X.env=false:=by simp [interactive,I.ok.kind]
def YI (te:TE):TS:=fun D σ H=>te σ H fun _ H1=>D.nx σ H1
theorem Yl (he:PE X e te) (hs:Kt e none pos.line X.env=pure false:=by rfl):PS X (.Expr e pos) (YI te):=by
 intro KK s σ H D I h
 exact wpAny_Expr_any (thn (he KK s σ H _ I h) fun v s1 ⟨x,H1,I1,r1,q1⟩=>⟨σ,H1,I1,q1⟩) I.quiet hs
def wQ (te:TE):TS:=fun D σ H=>te σ H D.rt
theorem YX (he:PE X e te):PS X (.Return (some e) pos) (wQ te):=by
 intro KK s σ H D I h
 exact wpAny_Return_some (thn (he KK s σ H _ I h) fun v s1 ⟨x,H1,I1,r1,q1⟩=>⟨x,σ,H1,I1,r1,q1⟩)
def Wx (c:TT) (t u:TS):TS:=fun D σ H=>c σ H fun b H1=>if b=true then t D σ H1 else u D σ H1
theorem wA {c:Kv} {a b:List Kx} {tc:TT} (hc:PT X c tc) (ha:PSs X a t) (hb:PSs X b u):PS X (.If c a b pos) (Wx tc t u):=by
 intro KK s σ H D I h
 refine wpAny_If (thn (hc KK s σ H _ I h) fun d s1 ⟨H1,I1,q1⟩=>?_)
 cases d with
 | true=>exact ha KK s1 σ H1 D I1 q1
 | false=>exact hb KK s1 σ H1 D I1 q1
end
abbrev TG:=V->St->Hp->(St->Hp->Prop)->Prop
abbrev TGs:=List V->St->Hp->(St->Hp->Prop)->Prop
def PG (X:Cx) (target:Kv) (t:TG):Prop :=
 ∀ (KK:List (Kc×KA)) (s:Kb) (σ:St) (H:Hp) (v:V) (u:Ka) (Q:St->Hp->Prop),Inv X KK σ H s->Zl v u->t v σ H Q ->
  Ko (Ky X.prog X.w) X.A (assign target X.env u) (fun _ s'=>∃ σ' H',Inv X KK σ' H' s'/\Q σ' H') X.xe s
def PGs (X:Cx) (ts:List Kv) (t:TGs):Prop :=
 ∀ (KK:List (Kc×KA)) (s:Kb) (σ:St) (H:Hp) (vs:List V) (us:List Ka) (Q:St->Hp->Prop),Inv X KK σ H s->zP vs us->t vs σ H Q ->
  Ko (Ky X.prog X.w) X.A (assignInOrder ((assignEach ts X.env).map (·.2)) us) (fun _ s'=>∃ σ' H',Inv X KK σ' H' s'/\Q σ' H') X.xe s
abbrev TSet:=V->V->V->Hp->(Hp->Prop)->Prop
def PSet (X:Cx) (t:TSet):Prop :=
 ∀ (KK:List (Kc×KA)) (s:Kb) (σ:St) (H:Hp) (o i v:V) (ov iv u:Ka) (Q:Hp->Prop),Inv X KK σ H s->Zl o ov->Zl i iv->Zl v u->t o i v H Q ->
  Ko (Ky X.prog X.w) X.A (setItem ov iv u) (fun _ s'=>∃ H',Inv X KK σ H' s'/\Q H') X.xe s
section
variable {X:Cx} {pos:KB}
def ZR (i:Nat):TG:=fun v σ H Q=>Q (σ.set i (some v)) H
theorem pg_name {i:Nat} {x:Kw} (hN:X.N.Nodup) (hi:X.N[i]?=some x) (hx:Loc X.env.scope x) (hf:X.fn x=true\/X.env.scope.names.lookup x=some .local:=by first | exact .inl rfl | exact .inr rfl | assumption):PG X (.Name x pos) (ZR i):=by
 intro KK s σ H v u Q I r h
 exact wpAny_assign_Name (WC I hN hi hx r (fun s' I'=>⟨_,H,I',h⟩) hf)
def gNil:TGs:=fun vs σ H Q=>vs=[]/\Q σ H
def gCons (t:TG) (u:TGs):TGs:=fun vs σ H Q=>∃ v r,vs=v::r/\t v σ H fun σ' H'=>u r σ' H' Q
theorem pgs_nil:PGs X [] gNil:=by
 intro KK s σ H vs us Q I r h
 obtain ⟨e,h⟩:=h
 subst e
 cases r
 exact assignInOrder_nil ⟨σ,H,I,h⟩
theorem pgs_cons {e:Kv} {es:List Kv} {t:TG} {u:TGs} (h1:PG X e t) (h2:PGs X es u)
  (hs:(assignEach (e::es) X.env).map (·.2)=assign e X.env::(assignEach es X.env).map (·.2):=by rfl):PGs X (e::es) (gCons t u):=by
 intro KK s σ H vs us Q I r h
 obtain ⟨v,vr,e1,h⟩:=h
 subst e1
 cases r with
 | cons r rr =>
  rw [hs]
  refine assignInOrder_cons (thn (h1 KK s σ H _ _ _ I r h) fun _ s1 ⟨σ1,H1,I1,q1⟩=>?_)
  exact h2 KK s1 σ1 H1 _ _ Q I1 rr q1
def gTup (K:KC) (n:Nat) (t:TGs):TG:=fun v σ H Q=>∃ a xs,v=.ref a/\SqT K H a xs/\xs.length=n/\t xs σ H Q
theorem pg_tup {es:List Kv} {k:Nat} {t:TGs} {n:Nat} (hc:X.calm=true) (h:PGs X es t)
  (hn:(assignEach es X.env).length=n:=by rfl) (hst:(assignEach es X.env).findIdx? (·.1)=none:=by rfl):PG X (.Tuple es k pos) (gTup X.K n t):=by
 intro KK s σ H v u Q I r hw
 obtain ⟨a,xs,e1,hq,hl,hw⟩:=hw
 subst e1
 cases r
 obtain ⟨KQ,rv,ht,hz⟩:=I.tuple hq
 refine assign_Tuple_tuple (I.ok.hd hc) ht (by simp [hn,<- hl,rv.length]) hst fun h' hx=>?_
 have I1:Inv X KK σ H { s with heap:=h' }:=I.kept (t':=s.toks) fun b o e=>hx b o (Qu (Qm e)) e
 exact h KK _ σ H xs _ Q I1 (by simpa using rv) hw
def gSub (to ti:TE) (t:TSet):TG:=fun v σ H Q=>to σ H fun o H1=>ti σ H1 fun i H2=>t o i v H2 fun H3=>Q σ H3
theorem pg_sub {o i:Kv} {to ti:TE} {t:TSet} (ho:PE X o to) (hi:PE X i ti) (hs:PSet X t)
  (ha:∀ v,assign (.Subscript o i pos) X.env v=(do
   let ov <- holding [v] (Kz o X.env)
   let iv <- holding [v,ov] (Kz i X.env)
   standAt pos
   holding [v,ov,iv] (setItem ov iv v)
   release [v,ov,iv] []):=by intro _;rfl):PG X (.Subscript o i pos) (gSub to ti t):=by
 intro KK s σ H v u Q I r h
 rw [ha]
 refine Qa (Pf (thn (ho KK s σ H _ I h) fun ov s1 ⟨x,H1,I1,r1,q1⟩=>?_))
 refine Qa (Pf (thn (hi KK s1 σ H1 _ I1 q1) fun iv s2 ⟨y,H2,I2,r2,q2⟩=>?_))
 refine Qa (wpAny_standAt (Qa (Pf (thn (hs KK s2 σ H2 x y v ov iv u _ I2 r1 r2 r q2) fun _ s3 ⟨H3,I3,q3⟩=>?_))))
 exact wpAny_release ⟨σ,H3,I3,q3⟩
def yG (te:TE) (g:TG):TS:=fun D σ H=>te σ H fun x H1=>g x σ H1 D.nx
theorem ps_asg {tg e:Kv} {te:TE} {g:TG} (he:PE X e te) (hg:PG X tg g) (hs:swapsWithSole [tg] e pos.line X.env=pure false:=by rfl) (hw:swappedStores [tg] e X.env=pure none:=by rfl)
  (h1:(assignEach [tg] X.env).map (·.2)=[assign tg X.env]:=by rfl):PS X (.Assign [tg] e pos) (yG te g):=by
 intro KK s σ H D I h
 refine wpAny_Assign_stores (thn (he KK s σ H _ I h) fun v s1 ⟨x,H1,I1,r1,q1⟩=>?_) hs hw
 rw [h1]
 exact thn (hg KK s1 σ H1 x v _ I1 r1 q1) fun _ s2 q=>q
theorem yV {i:Nat} {x:Kw} {e:Kv} {te:TE} {pos':KB} (hN:X.N.Nodup) (hi:X.N[i]?=some x) (hx:Loc X.env.scope x) (he:PE X e te) (hs:Kt e (some (.Name x pos')) pos.line X.env=pure false:=by rfl) (hf:X.fn x=true\/X.env.scope.names.lookup x=some .local:=by first | exact .inl rfl | exact .inr rfl | assumption) :
  PS X (.Assign [.Name x pos'] e pos) (yG te (ZR i)):=by
 intro KK s σ H D I h
 refine wpAny_Assign_Name (thn (he KK s σ H _ I h) fun v s1 ⟨y,H1,I1,r1,q1⟩=>?_) hs
 exact WC I1 hN hi hx r1 (fun s2 I2=>⟨_,H1,I2,q1⟩) hf
end
section
variable {X:Cx} {pos:KB}
end
structure It where
 go:Nat->Hp->Prop
 yld:Nat->Hp->V->Hp->Prop
 stop:Nat->Hp->Prop
def JG (X:Cx) (KK:List (Kc×KA)) (H:Hp) (b:Kc):Prop :=
 H b=none/\b≠X.env.locals/\b∉X.fs/\(b∈X.ex\/X.s₀.heap.objs.size<=b)/\(∀ x c,X.env.cells.lookup x=some c->c≠b)/\∀ p∈X.pn++KK,p.1≠b
theorem Inv.fpOk {X:Cx} {KK:List (Kc×KA)} {σ:St} {H H':Hp} {s:Kb} {b:Kc} (I:Inv X KK σ H s) (hb:s.heap.objs.size<=b) (hn:H' b=none):JG X KK H' b:=by
 refine ⟨hn,QE (Qs I.lt hb),I.nofs hb,.inr (Qw I.sz hb),fun x c e z=>?_,fun p hp z=>?_⟩
 ·obtain ⟨v,q⟩:=I.cell x c e
  exact absurd (Qs q.lt (by rw [z];exact hb)) (Q3 _)
 ·exact absurd (Qs (Qm (I.pin p hp).1) (by rw [z];exact hb)) (Q3 _)
structure w6 (P:Ki) (w:Kk) (K:KC) (tg:Kv) (J:It) (fp:List Kc) (it:Kc) (tn:Nat->Kl->Prop):Prop where
 mem:it∈fp
 obj:∀ i h,tn i h->∀ b∈fp,∃ o,h.get? b=some o/\∀ v,o.data≠.cell v
 keep:∀ i h h',tn i h->(∀ b∈fp,∀ o,h.get? b=some o->h'.get? b=some o)->tn i h'
 item:∀ (X:Cx),X.prog=P->X.w=w->X.K=K->X.calm=true->∀ (i:Nat) (KK:List (Kc×KA)) (s:Kb) (σ:St) (H:Hp) (E:Ka->Kb->Prop),Inv X KK σ H s->(∀ b∈fp,JG X KK H b)->tn i s.heap->J.go i H ->
  Ko (Ky P w) X.A (pyNext (.ref it)) (fun r s1=>∃ u,r=some u /\
   Ko (Ky P w) X.A (letOwnedTupleGo tg (.ref it) u) (fun _ s2=>∃ x H',Inv X KK σ H' s2/\Zl x u/\J.yld i H x H'/\tn (i+1) s2.heap/\∀ b∈fp,H' b=none) E s1) E s
 done:∀ (X:Cx),X.prog=P->X.w=w->X.K=K->X.calm=true->∀ (i:Nat) (KK:List (Kc×KA)) (s:Kb) (σ:St) (H:Hp) (E:Ka->Kb->Prop),Inv X KK σ H s->(∀ b∈fp,JG X KK H b)->tn i s.heap->J.stop i H ->
  Ko (Ky P w) X.A (pyNext (.ref it)) (fun r s1=>r=none/\Inv X KK σ H s1) E s
 self:∀ (A:Kj) (i:Nat) (s:Kb) (Q:Ka->Kb->Prop) (E:Ka->Kb->Prop),tn i s.heap->Q (.ref it) s->Ko (Ky P w) A (pyIter (.ref it)) Q E s
abbrev TI:=St->Hp->(It->Hp->Prop)->Prop
def PIE (X:Cx) (KK:List (Kc×KA)) (σ:St) (tg:Kv) (R:It->Hp->Prop) (itv:Ka) (s2:Kb):Prop :=
 ∃ (it:Kc) (fp:List Kc) (tn:Nat->Kl->Prop) (J:It) (H':Hp),itv=.ref it/\Inv X KK σ H' s2/\w6 X.prog X.w X.K tg J fp it tn/\tn 0 s2.heap/\(∀ b∈fp,JG X KK H' b)/\R J H'
def PI (X:Cx) (tg iter:Kv) (wi:TI):Prop :=
 ∀ (KK:List (Kc×KA)) (s:Kb) (σ:St) (H:Hp) (R:It->Hp->Prop),Inv X KK σ H s->wi σ H R ->
  Ko (Ky X.prog X.w) X.A (Kz iter X.env) (fun v s1=>Ko (Ky X.prog X.w) X.A (pyIter v) (PIE X KK σ tg R) X.xe s1) X.xe s
theorem go_of {M : Model} {A : Kj} {E : Ka -> Kb -> Prop} {s : Kb} {tg : Kv} {it : Kc} {u : Ka} {o : KA} {n : String} {vs : Array Ka} {Q : Unit -> Kb -> Prop} (ho : s.heap.get? it = some o) (hc : o.cls = .type n) (hd : o.data = .fields vs)
    (hn:["enumerate","zip","dict_itemiterator","dict_reverseitemiterator","odict_iterator","itertools.zip_longest","itertools.pairwise"].contains n=false) (hQ:Q () s):Ko M A (letOwnedTupleGo tg (.ref it) u) Q E s:=by
  unfold letOwnedTupleGo
  cases tg <;> first
    | exact Qf hQ
    | (cases u <;> first
        | exact Qf hQ
        | (refine Qa (wpAny_load ho ?_)
           rw [hc,hd]
           show Ko M A (if (["enumerate","zip","dict_itemiterator","dict_reverseitemiterator","odict_iterator","itertools.zip_longest","itertools.pairwise"].contains n&&vs[0]? == some (rawInt _))=true then _ else _) Q E s
           rw [KS (by intro h;rw [hn,Bool.false_and] at h;cases h)]
           exact Qf hQ))
def Itl (K:KC) (a:Kc):It :=
 ⟨fun i H=>∃ xs x,SqL K H a xs/\xs[i]?=some x,fun i H x H'=>H'=H/\∀ xs,SqL K H a xs->xs[i]?=some x,fun i H=>∃ xs,SqL K H a xs/\xs.length<=i⟩
def Itt (K:KC) (a:Kc):It :=
 ⟨fun i H=>∃ xs x,SqT K H a xs/\xs[i]?=some x,fun i H x H'=>H'=H/\∀ xs,SqT K H a xs->xs[i]?=some x,fun i H=>∃ xs,SqT K H a xs/\xs.length<=i⟩
def Itr (lo:Int) (n:Nat):It:=⟨fun i _=>i<n,fun i H x H'=>H'=H/\x=.int (lo+i),fun i _=>n<=i⟩
theorem turn_list {P:Ki} {w:Kk} {K:KC} {tg:Kv} (a it:Kc):w6 P w K tg (Itl K a) [it] it (fun i h=>h.IsListIter it a i) where
 mem:=by simp
 obj:=fun i h st b hb=>by
  have e:b=it:=by simpa using hb
  subst e
  obtain ⟨o,e,c,d⟩:=st
  exact ⟨o,e,fun v z=>by rw [d] at z;cases z⟩
 keep:=fun i h h' st k=>st.at fun o e=>k it (by simp) o e
 item:=by
  intro X hP hw hK hc i KK s σ H E I hf st hg
  subst hP hw hK
  obtain ⟨xs,x,hq,hx⟩:=hg
  obtain ⟨KQ,rv,p,hz⟩:=I.list hq
  obtain ⟨u,hu,ru⟩:=rv.get hx
  obtain ⟨f0,f1,f2,f3,f4,f5⟩:=hf it (by simp)
  refine wpAny_pyNext_list_item st p.isList (x:=u) (by simpa using hu) fun h' st' sb=>?_
  have I1:Inv X KK σ H { s with heap:=h' }:=I.turned (t':=s.toks) (fun b o hb e=>(sb.2 b hb).trans e) f0 f1 f3 f4 f5
  obtain ⟨o,e,c,d⟩:=id st'
  exact ⟨u,rfl,go_of (s:={ s with heap:=h' }) e c d (by decide) ⟨x,H,I1,ru,⟨rfl,fun ys hy=>by rw [I.list_inj hy hq];exact hx⟩,st',fun b hb=>(hf b hb).1⟩⟩
 done:=by
  intro X hP hw hK hc i KK s σ H E I hf st hg
  subst hP hw hK
  obtain ⟨xs,hq,hx⟩:=hg
  obtain ⟨KQ,rv,p,hz⟩:=I.list hq
  obtain ⟨f0,f1,f2,f3,f4,f5⟩:=hf it (by simp)
  have hl:=rv.length
  exact wpAny_pyNext_list_end (I.ok.hd hc) st p.isList (by simp;omega) fun h' eb=>⟨rfl,I.turned (t':=s.toks) (fun b o hb e=>eb b o hb e) f0 f1 f3 f4 f5⟩
 self:=fun _ _ _ _ _ st h=>wpAny_pyIter_listiter st h
theorem turn_tuple {P:Ki} {w:Kk} {K:KC} {tg:Kv} (a it:Kc):w6 P w K tg (Itt K a) [it] it (fun i h=>h.IsTupleIter it a i) where
 mem:=by simp
 obj:=fun i h st b hb=>by
  have e:b=it:=by simpa using hb
  subst e
  obtain ⟨o,e,c,d⟩:=st
  exact ⟨o,e,fun v z=>by rw [d] at z;cases z⟩
 keep:=fun i h h' st k=>st.at fun o e=>k it (by simp) o e
 item:=by
  intro X hP hw hK hc i KK s σ H E I hf st hg
  subst hP hw hK
  obtain ⟨xs,x,hq,hx⟩:=hg
  obtain ⟨KQ,rv,p,hz⟩:=I.tuple hq
  obtain ⟨u,hu,ru⟩:=rv.get hx
  obtain ⟨f0,f1,f2,f3,f4,f5⟩:=hf it (by simp)
  refine wpAny_pyNext_tuple_item st (show s.heap.IsTuple a KQ.toArray from p) (x:=u) (by simpa using hu) fun h' st' sb=>?_
  have I1:Inv X KK σ H { s with heap:=h' }:=I.turned (t':=s.toks) (fun b o hb e=>(sb.2 b hb).trans e) f0 f1 f3 f4 f5
  obtain ⟨o,e,c,d⟩:=id st'
  exact ⟨u,rfl,go_of (s:={ s with heap:=h' }) e c d (by decide) ⟨x,H,I1,ru,⟨rfl,fun ys hy=>by rw [I.tuple_inj hy hq];exact hx⟩,st',fun b hb=>(hf b hb).1⟩⟩
 done:=by
  intro X hP hw hK hc i KK s σ H E I hf st hg
  subst hP hw hK
  obtain ⟨xs,hq,hx⟩:=hg
  obtain ⟨KQ,rv,p,hz⟩:=I.tuple hq
  obtain ⟨f0,f1,f2,f3,f4,f5⟩:=hf it (by simp)
  have hl:=rv.length
  exact wpAny_pyNext_tuple_end (I.ok.hd hc) st (show s.heap.IsTuple a KQ.toArray from p) (by simp;omega) fun h' eb=>⟨rfl,I.turned (t':=s.toks) (fun b o hb e=>eb b o hb e) f0 f1 f3 f4 f5⟩
 self:=fun _ _ _ _ _ st h=>wpAny_pyIter_tupleiter st h
theorem turn_range {P:Ki} {w:Kk} {K:KC} {tg:Kv} (it:Kc) (lo:Int) (n:Nat):w6 P w K tg (Itr lo n) [it] it (fun i h=>IsRangeIter h it (lo+(i:Nat)*1) ((n:Int) - (i:Nat)) 1) where
 mem:=by simp
 obj:=fun i h st b hb=>by
  have e:b=it:=by simpa using hb
  subst e
  exact ⟨_,st,fun v z=>by
   have z':Data.fields _=Data.cell v:=z
   cases z'⟩
 keep:=fun i h h' st k=>k it (by simp) _ st
 item:=by
  intro X hP hw hK hc i KK s σ H E I hf st hg
  subst hP hw hK
  obtain ⟨f0,f1,f2,f3,f4,f5⟩:=hf it (by simp)
  have W:=Walks.range (prog:=X.prog) (w:=X.w) (I.ok.hd hc) it lo 1 n
  refine W.item i s _ _ hg st fun v h' tk hv st' kk=>?_
  obtain ⟨t,rfl⟩:=hv
  have I1:Inv X KK σ H { s with heap:=h',toks:=tk }:=I.turned (fun b o hb e=>kk b o (by simpa using hb) e) f0 f1 f3 f4 f5
  refine ⟨_,rfl,go_of (s:={ s with heap:=h',toks:=tk }) (n:="range_iterator") st' rfl rfl (by decide) ⟨.int (lo+i),H,I1,⟨t,?_⟩,⟨rfl,rfl⟩,st',fun b hb=>(hf b hb).1⟩⟩
  rw [Int.mul_one]
 done:=by
  intro X hP hw hK hc i KK s σ H E I hf st hg
  subst hP hw hK
  obtain ⟨f0,f1,f2,f3,f4,f5⟩:=hf it (by simp)
  exact wpAny_pyNext_range_end (I.ok.hd hc) st (by have:n<=i:=hg;omega) fun h' eb=>⟨rfl,I.turned (t':=s.toks) (fun b o hb e=>eb b o hb e) f0 f1 f3 f4 f5⟩
 self:=fun _ _ _ _ _ st h=>wpAny_pyIter_rangeiter st h
end L2
namespace L2
open PySem PySem.Spec PyProof.Rows
section
variable {X:Cx} {tg:Kv}
def iList (K:KC) (tl:TE):TI:=fun σ H R=>tl σ H fun x H1=>∃ a,x=.ref a/\(∃ xs,SqL K H1 a xs)/\R (Itl K a) H1
def iTup (K:KC) (tl:TE):TI:=fun σ H R=>tl σ H fun x H1=>∃ a,x=.ref a/\(∃ xs,SqT K H1 a xs)/\R (Itt K a) H1
theorem pi_list {l:Kv} {tl:TE} (hl:PE X l tl):PI X tg l (iList X.K tl):=by
 intro KK s σ H R I h
 refine thn (hl KK s σ H _ I h) fun v s1 ⟨x,H1,I1,r1,q1⟩=>?_
 obtain ⟨a,e,⟨xs,hq⟩,q⟩:=q1
 subst e
 cases r1
 obtain ⟨KQ,rv,p,hz⟩:=I1.list hq
 refine wpAny_pyIter_list p.isList ?_
 refine ⟨s1.heap.objs.size,[s1.heap.objs.size],_,_,H1,rfl,I1.kept (t':=s1.toks) fun b o e=>Qb _ e,turn_list a _,⟨_,Qq _ rfl,rfl,rfl⟩,fun b hb=>?_,q⟩
 have e:b=s1.heap.objs.size:=by simpa using hb
 subst e
 exact I1.fpOk (Ql _) (I1.hok.fresh (Ql _))
theorem pi_tup {l:Kv} {tl:TE} (hl:PE X l tl):PI X tg l (iTup X.K tl):=by
 intro KK s σ H R I h
 refine thn (hl KK s σ H _ I h) fun v s1 ⟨x,H1,I1,r1,q1⟩=>?_
 obtain ⟨a,e,⟨xs,hq⟩,q⟩:=q1
 subst e
 cases r1
 obtain ⟨KQ,rv,p,hz⟩:=I1.tuple hq
 refine P9 (show s1.heap.IsTuple a KQ.toArray from p) ?_
 refine ⟨s1.heap.objs.size,[s1.heap.objs.size],_,_,H1,rfl,I1.kept (t':=s1.toks) fun b o e=>Qb _ e,turn_tuple a _,⟨_,Qq _ rfl,rfl,rfl⟩,fun b hb=>?_,q⟩
 have e:b=s1.heap.objs.size:=by simpa using hb
 subst e
 exact I1.fpOk (Ql _) (I1.hok.fresh (Ql _))
theorem range_it {KK:List (Kc×KA)} {σ:St} {H:Hp} {s:Kb} {R:It->Hp->Prop} {E:Ka->Kb->Prop} {lo hi:Int} {t u v:Tok} {tk:Nat} (I:Inv X KK σ H s) (h1:-(2 ^ 62)<=lo) (h2:lo<2 ^ 62) (h3:-(2 ^ 62)<=hi) (h4:hi<2 ^ 62)
  (q:R (Itr lo (hi - lo).toNat) H):Ko (Ky X.prog X.w) X.A (pyIter (.ref s.heap.objs.size)) (PIE X KK σ tg R) E { s with heap:=s.heap.push { cls:=.type "range",data:=.fields #[.int lo t,.int hi u,.int 1 v] },toks:=tk }:=by
 refine wpAny_pyIter_range (IsRange.new ..) (small_one h1 h2 h3 h4) ?_
 have I1:Inv X KK σ H { s with heap:=s.heap.push { cls:=.type "range",data:=.fields #[.int lo t,.int hi u,.int 1 v] },toks:=tk }:=I.kept fun b o e=>Qb _ e
 refine ⟨(s.heap.push { cls:=.type "range",data:=.fields #[.int lo t,.int hi u,.int 1 v] }).objs.size,[(s.heap.push { cls:=.type "range",data:=.fields #[.int lo t,.int hi u,.int 1 v] }).objs.size],_,_,H,rfl,
  I1.kept (t':=tk) fun b o e=>Qb _ e,turn_range _ lo (hi - lo).toNat,?_,fun b hb=>?_,q⟩
 ·have e1:lo+((0:Nat):Int)*1=lo:=by simp
  have e2:(((hi - lo).toNat:Nat):Int) - ((0:Nat):Int)=Builtin.Range.rangeSize lo hi 1:=by rw [rangeSize_one];split <;> omega
  show IsRangeIter _ _ (lo+((0:Nat):Int)*1) ((((hi - lo).toNat:Nat):Int) - ((0:Nat):Int)) 1
  rw [e1,e2]
  exact Qq _ rfl
 ·have e:b=(s.heap.push { cls:=.type "range",data:=.fields #[.int lo t,.int hi u,.int 1 v] }).objs.size:=by simpa using hb
  subst e
  exact I1.fpOk (Ql _) (I1.hok.fresh (Ql _))
def iRng1 (ta:TA):TI:=fun σ H R=>ta σ H fun vs H1=>∃ j:Int,vs=[.int j]/\-(2 ^ 62)<=j/\j<2 ^ 62/\R (Itr 0 j.toNat) H1
theorem pi_range1 {a:Kv} {ta:TA} {p pos:KB} (hg:Gl X "range") (hm:X.mg "range"=none) (ha:PA X [a] ta) (hs:Ke [a] X.env=[(false,Kz a X.env)]:=by rfl):PI X tg (.Call (.Name "range" p) [a] [] pos) (iRng1 ta):=by
 intro KK s σ H R I h
 refine Call_ (jT I hg hm boot_range (KI (thn (ha pos KK s σ H _ I h) fun us s1 ⟨vs,H1,I1,r1,q1⟩=>?_) hs rfl))
 obtain ⟨j,e,q1,q2,q⟩:=q1
 subst e
 cases r1 with
 | cons r rr =>
  cases rr
  obtain ⟨t,rfl⟩:=r
  exact call_range_1 (range_it I1 (by omega) (by omega) q1 q2 (by simpa using q))
def tFor (wi:TI) (g:TG) (tb:TS):TS:=fun D σ H=>wi σ H fun J H1=>∃ W:Nat->Nat->St->Hp->Prop,(∃ m,W 0 m σ H1)/\∀ i m σ H,W i m σ H ->
 (J.stop i H/\D.nx σ H)\/(J.go i H/\∃ N:St->Hp->Prop,(∀ σ' H',N σ' H'->∃ m',m'<m/\W (i+1) m' σ' H')/\∀ x H',J.yld i H x H'->g x σ H' fun σ2 H2=>tb { D with nx:=N,ct:=N,bk:=D.nx } σ2 H2)
def WY (fp:List Kc) (h:Kl):List (Kc×KA):=fp.filterMap fun b=>(h.get? b).map fun o=>(b,o)
theorem jp {fp:List Kc} {h:Kl} {b:Kc} {o:KA} (hb:b∈fp) (e:h.get? b=some o):(b,o)∈WY fp h:=List.mem_filterMap.mpr ⟨b,hb,by rw [e];rfl⟩
theorem of_pinsAt {fp:List Kc} {h:Kl} {p:Kc×KA} (hp:p∈WY fp h):p.1∈fp/\h.get? p.1=some p.2:=by
 obtain ⟨b,hb,e⟩:=List.mem_filterMap.mp hp
 cases q:h.get? b with
 | none=>rw [q] at e;cases e
 | some o =>
  rw [q] at e
  have e':(b,o)=p:=Option.some.inj e
  subst e'
  exact ⟨hb,q⟩
theorem Inv.pinned {KK:List (Kc×KA)} {σ:St} {H:Hp} {s:Kb} {fp:List Kc} (I:Inv X KK σ H s) (hf:∀ b∈fp,JG X KK H b) (ho:∀ b∈fp,∃ o,s.heap.get? b=some o/\∀ v,o.data≠.cell v):Inv X (KK++WY fp s.heap) σ H s :=
 I.pins_of fun p hp=>(QA.mp hp).elim (fun z=>I.pin p (QF _ z)) fun z=>by
  obtain ⟨hb,e⟩:=of_pinsAt z
  obtain ⟨f0,f1,f2,_⟩:=hf p.1 hb
  obtain ⟨o,e',d⟩:=ho p.1 hb
  rw [e] at e';cases e'
  exact ⟨e,f0,f1,f2,d⟩
theorem Inv.unpinned {KK pl:List (Kc×KA)} {σ:St} {H:Hp} {s:Kb} (I:Inv X (KK++pl) σ H s):Inv X KK σ H s:=I.pins_of fun p hp=>I.pin p (QF _ (P1 _ hp))
theorem ps_for {iter:Kv} {body:List Kx} {wi:TI} {g:TG} {tb:TS} {pos:KB} (hp:PassesOwn (Ky X.prog X.w) X.A X.env X.xe) (hc:X.calm=true) (hi:PI X tg iter wi) (hg:PG X tg g) (hb:PSs X body tb)
  (hs:∀ x,foldedSetIterable iter X.env x=pure x:=by intro _;rfl):PS X (.For tg iter body [] pos) (tFor wi g tb):=by
 intro KK s σ H D I h
 refine wpAny_For (thn (hi KK s σ H _ I h) fun v s1 h1=>thn h1 fun itv s2 h2=>?_) hs
 obtain ⟨it,fp,tn,J,H2,e,I2,T,st2,f2,W,⟨m0,w0⟩,turn⟩:=h2
 subst e
 have stat:∀ {H':Hp},(∀ b∈fp,H' b=none)->∀ b∈fp,JG X KK H' b:=fun hn b hb=>⟨hn b hb,(f2 b hb).2⟩
 refine codeAny_forLoop_any (fun n s'=>∃ i σ' H',Inv X KK σ' H' s'/\tn i s'.heap/\(∀ b∈fp,H' b=none)/\W i n σ' H') ?_ m0 ⟨0,σ,H2,I2,st2,fun b hb=>(f2 b hb).1,w0⟩
 rintro n s3 ⟨i,σ3,H3,I3,st3,fr3,w3⟩
 rcases turn i n σ3 H3 w3 with ⟨stop,qn⟩ | ⟨go,N,hN,step⟩
 ·refine Pz hp (thn (T.done X rfl rfl rfl hc i KK s3 σ3 H3 X.xe I3 (stat fr3) st3 stop) fun r s4 ⟨hr,I4⟩=>?_)
  subst hr
  exact PB ⟨σ3,H3,I4,qn⟩
 ·refine Pz hp (thn (T.item X rfl rfl rfl hc i KK s3 σ3 H3 X.xe I3 (stat fr3) st3 go) fun r s4 ⟨u,hr,h4⟩=>?_)
  subst hr
  refine Pz hp (thn h4 fun _ s5 ⟨x,H5,I5,r5,y5,st5,fr5⟩=>?_)
  have I5':=I5.pinned (stat fr5) (T.obj _ _ st5)
  refine Pz hp (thn (hg _ s5 σ3 H5 x u _ I5' r5 (step x H5 y5)) fun _ s6 ⟨σ6,H6,I6,q6⟩=>?_)
  refine Pz hp (thn (hb _ s6 σ6 H6 _ I6 q6) fun f s7 q7=>?_)
  have again:∀ {σ7:St} {H7:Hp},Inv X (KK++WY fp s5.heap) σ7 H7 s7->N σ7 H7->∃ m,m<n/\∃ i σ' H',Inv X KK σ' H' s7/\tn i s7.heap/\(∀ b∈fp,H' b=none)/\W i m σ' H':=fun {σ7 H7} I7 n7=>by
   obtain ⟨m',hm,w7⟩:=hN σ7 H7 n7
   refine ⟨m',hm,i+1,σ7,H7,I7.unpinned,T.keep _ _ _ st5 fun b hb o e=>(I7.pin (b,o) (QF _ (QF _ (jp hb e)))).1,fun b hb=>?_,w7⟩
   obtain ⟨o,e,d⟩:=T.obj _ _ st5 b hb
   exact (I7.pin (b,o) (QF _ (QF _ (jp hb e)))).2.1
  cases f with
  | next=>obtain ⟨σ7,H7,I7,n7⟩:=q7;exact again I7 n7
  | cont=>obtain ⟨σ7,H7,I7,n7⟩:=q7;exact again I7 n7
  | brk=>obtain ⟨σ7,H7,I7,q7⟩:=q7;exact ⟨σ7,H7,I7.unpinned,q7⟩
  | ret v=>obtain ⟨x7,σ7,H7,I7,r7,q7⟩:=q7;exact ⟨x7,σ7,H7,I7.unpinned,r7,q7⟩
end
end L2
namespace L2
open PySem PySem.Spec PyProof.Rows
abbrev R2:=V->V->Hp->VK->Prop
def OpR (X:Cx) (f:Ka->Ka->Sem Ka) (r:R2):Prop :=
 ∀ (KK:List (Kc×KA)) (s:Kb) (σ:St) (H:Hp) (x y:V) (v u:Ka) (Q:VK),Inv X KK σ H s->Zl x v->Zl y u->r x y H Q ->
  Ko (Ky X.prog X.w) X.A (f v u) (EP X KK σ Q) X.xe s
def UnR (X:Cx) (f:Ka->Sem Ka) (r:V->Hp->VK->Prop):Prop :=
 ∀ (KK:List (Kc×KA)) (s:Kb) (σ:St) (H:Hp) (x:V) (v:Ka) (Q:VK),Inv X KK σ H s->Zl x v->r x H Q ->
  Ko (Ky X.prog X.w) X.A (f v) (EP X KK σ Q) X.xe s
def Jq (X:Cx) (f:Ka) (r:List V->Hp->VK->Prop):Prop :=
 ∀ (KK:List (Kc×KA)) (s:Kb) (σ:St) (H:Hp) (xs:List V) (us:List Ka) (Q:VK),Inv X KK σ H s->zP xs us->r xs H Q ->
  Ko (Ky X.prog X.w) X.A (call f us) (EP X KK σ Q) X.xe s
def tOp (r:R2) (ta tb:TE):TE:=fun σ H Q=>ta σ H fun x H1=>tb σ H1 fun y H2=>r x y H2 Q
def tUn (r:V->Hp->VK->Prop) (ta:TE):TE:=fun σ H Q=>ta σ H fun x H1=>r x H1 Q
def rI (C:Int->Int->Prop) (g:Int->Int->V):R2:=fun x y H Q=>∃ i j,x=.int i/\y=.int j/\C i j/\Q (g i j) H
def rI0 (g:Int->Int->V):R2:=fun x y H Q=>∃ i j,x=.int i/\y=.int j/\Q (g i j) H
def rU (g:Int->V):V->Hp->VK->Prop:=fun x H Q=>∃ i,x=.int i/\Q (g i) H
section
variable {X:Cx} {a b c:Kv} {ta tb tc:TE} {pos:KB}
theorem binT (ha:PE X a ta) (hb:PE X b tb) {KK:List (Kc×KA)} {s:Kb} {σ:St} {H:Hp} {R:V->V->Hp->Prop} (I:Inv X KK σ H s)
  (h:ta σ H fun x H1=>tb σ H1 fun y H2=>R x y H2) {Q:Ka->Kb->Prop} {f:Ka->Ka->Sem Ka}
  (hf:∀ v u s2 x y H2,Inv X KK σ H2 s2->Zl x v->Zl y u->R x y H2->Ko (Ky X.prog X.w) X.A (f v u) Q X.xe s2) :
  Ko (Ky X.prog X.w) X.A (Kz a X.env) (fun v s₁=>Ko (Ky X.prog X.w) X.A (Kz b X.env) (fun u s₂=>Ko (Ky X.prog X.w) X.A (f v u) Q X.xe s₂) X.xe s₁) X.xe s:=by
 refine thn (ha KK s σ H _ I h) fun v s1 ⟨x,H1,I1,r1,q1⟩=>?_
 refine thn (hb KK s1 σ H1 _ I1 q1) fun u s2 ⟨y,H2,I2,r2,q2⟩=>?_
 exact hf v u s2 x y H2 I2 r1 r2 q2
theorem wC {op:Operator} {r:R2} (ho:OpR X (binaryOp op) r) (ha:PE X a ta) (hb:PE X b tb):PE X (.BinOp a op b pos) (tOp r ta tb):=by
 intro KK s σ H Q I h
 exact wpAny_BinOp (binT ha hb I h fun v u s2 x y H2 I2 rx ry q=>ho KK s2 σ H2 x y v u Q I2 rx ry q)
theorem pe_un {op:UnaryOp} {r:V->Hp->VK->Prop} (ho:UnR X (unaryOp op) r) (ha:PE X a ta):PE X (.UnaryOp op a pos) (tUn r ta):=by
 intro KK s σ H Q I h
 exact UnaryOp_ (thn (ha KK s σ H _ I h) fun v s1 ⟨x,H1,I1,r1,q1⟩=>ho KK s1 σ H1 x v Q I1 r1 q1)
theorem opI {f:Ka->Ka->Sem Ka} {C:Int->Int->Prop} {g:Int->Int->Int}
  (rule:∀ (i j:Int) (t u:Tok) (s:Kb) (Q:Ka->Kb->Prop) (E:Ka->Kb->Prop),C i j->Q (.int (g i j) s.toks) { s with toks:=s.toks+1 }->Ko (Ky X.prog X.w) X.A (f (.int i t) (.int j u)) Q E s) :
  OpR X f (rI C fun i j=>.int (g i j)):=by
 intro KK s σ H x y v u Q I rx ry h
 obtain ⟨i,j,rfl,rfl,hc,q⟩:=h
 obtain ⟨t,rfl⟩:=rx
 obtain ⟨t',rfl⟩:=ry
 exact rule i j t t' s _ _ hc ⟨.int (g i j),H,I.tok _,⟨_,rfl⟩,q⟩
theorem opI0 {f:Ka->Ka->Sem Ka} {g:Int->Int->Int}
  (rule:∀ (i j:Int) (t u:Tok) (s:Kb) (Q:Ka->Kb->Prop) (E:Ka->Kb->Prop),Q (.int (g i j) s.toks) { s with toks:=s.toks+1 }->Ko (Ky X.prog X.w) X.A (f (.int i t) (.int j u)) Q E s) :
  OpR X f (rI0 fun i j=>.int (g i j)):=by
 intro KK s σ H x y v u Q I rx ry h
 obtain ⟨i,j,rfl,rfl,q⟩:=h
 obtain ⟨t,rfl⟩:=rx
 obtain ⟨t',rfl⟩:=ry
 exact rule i j t t' s _ _ ⟨.int (g i j),H,I.tok _,⟨_,rfl⟩,q⟩
theorem opB0 {f:Ka->Ka->Sem Ka} {g:Int->Int->Bool}
  (rule:∀ (i j:Int) (t u:Tok) (s:Kb) (Q:Ka->Kb->Prop) (E:Ka->Kb->Prop),Q (.bool (g i j)) s->Ko (Ky X.prog X.w) X.A (f (.int i t) (.int j u)) Q E s) :
  OpR X f (rI0 fun i j=>.bl (g i j)):=by
 intro KK s σ H x y v u Q I rx ry h
 obtain ⟨i,j,rfl,rfl,q⟩:=h
 obtain ⟨t,rfl⟩:=rx
 obtain ⟨t',rfl⟩:=ry
 exact rule i j t t' s _ _ ⟨.bl (g i j),H,I,rfl,q⟩
def CDiv (i j:Int):Prop:=0<j/\j<1073741824
def CPow (i j:Int):Prop:=0<=j/\j<=1000000/\i.natAbs<2 ^ 64
def CMul (i j:Int):Prop:=(-(2 ^ 64)<i/\i<2 ^ 64)\/(-(2 ^ 64)<j/\j<2 ^ 64)
theorem CMul.ok {i j:Int} (h:CMul i j):IntMulOk i j:=by
 rcases h with ⟨h1,h2⟩ | ⟨h1,h2⟩
 ·exact .of_left (intBits_le_64 h1 h2)
 ·exact .of_right (intBits_le_64 h1 h2)
theorem Zn:OpR X (binaryOp .Add) (rI0 fun i j=>.int (i+j)):=opI0 fun _ _ _ _ _ _ _ q=>add_int q
theorem jk:OpR X (binaryOp .Sub) (rI0 fun i j=>.int (i - j)):=opI0 fun _ _ _ _ _ _ _ q=>sub_int q
theorem ZM:OpR X (binaryOp .FloorDiv) (rI CDiv fun i j=>.int (i / j)):=opI fun i j _ _ _ _ _ hc q=>by
 have h1:(0:Int)<j:=hc.1
 have h2:j<1073741824:=hc.2
 exact floordiv_int (by omega) (by rw [Int.fdiv_eq_ediv_of_nonneg i (by omega)];exact q) (.inl (PyProof.noPylong_small (by omega)))
theorem Zm:OpR X (binaryOp .Mod) (rI (fun _ j=>0<j) fun i j=>.int (i % j)):=opI fun i j _ _ _ _ _ hc q=>by
 have h1:(0:Int)<j:=hc
 exact mod_int' (by omega) (by rw [Int.fmod_eq_emod_of_nonneg i (by omega)];exact q)
theorem op_pow:OpR X (binaryOp .Pow) (rI CPow fun i j=>.int (i ^ j.toNat)):=opI fun _ _ _ _ _ _ _ hc q=>pow_int_small hc.1 hc.2.1 hc.2.2 q
theorem unI {f:Ka->Sem Ka} {g:Int->Int}
  (rule:∀ (i:Int) (t:Tok) (s:Kb) (Q:Ka->Kb->Prop) (E:Ka->Kb->Prop),Q (.int (g i) s.toks) { s with toks:=s.toks+1 }->Ko (Ky X.prog X.w) X.A (f (.int i t)) Q E s) :
  UnR X f (rU fun i=>.int (g i)):=by
 intro KK s σ H x v Q I rx h
 obtain ⟨i,rfl,q⟩:=h
 obtain ⟨t,rfl⟩:=rx
 exact rule i t s _ _ ⟨.int (g i),H,I.tok _,⟨_,rfl⟩,q⟩
theorem Yr:UnR X (unaryOp .USub) (rU fun i=>.int (-i)):=unI fun _ _ _ _ _ q=>neg_int q
end
def scal:V->V->Bool
 | .non,.non=>true | .non,.int _=>true | .int _,.non=>true | .non,.bl _=>true | .bl _,.non=>true | .non,.str _=>true | .str _,.non=>true
 | .int _,.int _=>true | .bl _,.bl _=>true | .str _,.str _=>true | .byt _,.byt _=>true
 | .int _,.str _=>true | .str _,.int _=>true | .bl _,.str _=>true | .str _,.bl _=>true
 | _,_=>false
def rEq:R2:=fun x y H Q=>scal x y=true/\Q (.bl (decide (x=y))) H
def rNe:R2:=fun x y H Q=>scal x y=true/\Q (.bl (!decide (x=y))) H
theorem dec_int {i j:Int}:decide (V.int i=V.int j)=(i == j):=by
 rw [PZ]
 simp
theorem dec_bl {i j:Bool}:decide (V.bl i=V.bl j)=(i == j):=by
 rw [PZ]
 simp
theorem dec_str {i j:Kw}:decide (V.str i=V.str j)=(i == j):=by
 rw [PZ]
 simp
theorem dec_byt {i j:Array UInt8}:decide (V.byt i=V.byt j)=(i.toList == j.toList):=by
 rw [PZ]
 cases i
 cases j
 simp
section
variable {X:Cx} {a b c:Kv} {ta tb tc:TE} {pos:KB}
theorem Zh {KK:List (Kc×KA)} {σ:St} {H:Hp} {s:Kb} {Q:VK} {k k':Bool} (I:Inv X KK σ H s) (q:Q (.bl k) H) (e:k=k'):EP X KK σ Q (.bool k') s:=by
 subst e
 exact ⟨.bl k,H,I,rfl,q⟩
theorem ZV:OpR X (Km .Eq) rEq:=by
 intro KK s σ H x y v u Q I rx ry h
 obtain ⟨hs,q⟩:=h
 cases x with
 | non =>
  cases rx
  cases y with
  | non=>cases ry;exact PySem.EqNone.eq_none_none (Zh I q (by simp))
  | bl j=>cases ry;exact PySem.EqNone.eq_none_bool (Zh I q (by simp))
  | int j=>obtain ⟨t',rfl⟩:=ry;exact PySem.EqNone.eq_none_int (Zh I q (by simp))
  | str j=>obtain ⟨t',rfl⟩:=ry;exact PySem.EqNone.eq_none_str (Zh I q (by simp))
  | _=>exact absurd (show false=true from hs) Qi
 | bl i =>
  cases rx
  cases y with
  | non=>cases ry;exact PySem.EqNone.eq_bool_none (Zh I q (by simp))
  | bl j=>cases ry;exact eq_bool (Zh I q dec_bl)
  | str j=>obtain ⟨t',rfl⟩:=ry;exact PySem.EqMixed.eq_bool_str (Zh I q (by simp))
  | _=>exact absurd (show false=true from hs) Qi
 | int i =>
  obtain ⟨t,rfl⟩:=rx
  cases y with
  | non=>cases ry;exact PySem.EqNone.eq_int_none (Zh I q (by simp))
  | int j=>obtain ⟨t',rfl⟩:=ry;exact eq_int (Zh I q dec_int)
  | str j=>obtain ⟨t',rfl⟩:=ry;exact PySem.EqMixed.eq_int_str (Zh I q (by simp))
  | _=>exact absurd (show false=true from hs) Qi
 | str i =>
  obtain ⟨t,rfl⟩:=rx
  cases y with
  | non=>cases ry;exact PySem.EqNone.eq_str_none (Zh I q (by simp))
  | bl j=>cases ry;exact PySem.EqMixed.eq_str_bool (Zh I q (by simp))
  | int j=>obtain ⟨t',rfl⟩:=ry;exact PySem.EqMixed.eq_str_int (Zh I q (by simp))
  | str j=>obtain ⟨t',rfl⟩:=ry;exact eq_str (Zh I q dec_str)
  | _=>exact absurd (show false=true from hs) Qi
 | byt i =>
  obtain ⟨t,rfl⟩:=rx
  cases y with
  | byt j=>obtain ⟨t',rfl⟩:=ry;exact PySem.W.eq_bytes (Zh I q dec_byt)
  | _=>exact absurd (show false=true from hs) Qi
 | _=>cases y <;> exact absurd (show false=true from hs) Qi
theorem op_ne:OpR X (Km .NotEq) rNe:=by
 intro KK s σ H x y v u Q I rx ry h
 obtain ⟨hs,q⟩:=h
 cases x with
 | non =>
  cases rx
  cases y with
  | non=>cases ry;exact PySem.EqNone.ne_none_none (Zh I q (by simp))
  | bl j=>cases ry;exact PySem.EqNone.ne_none_bool (Zh I q (by simp))
  | int j=>obtain ⟨t',rfl⟩:=ry;exact PySem.EqNone.ne_none_int (Zh I q (by simp))
  | str j=>obtain ⟨t',rfl⟩:=ry;exact PySem.EqNone.ne_none_str (Zh I q (by simp))
  | _=>exact absurd (show false=true from hs) Qi
 | bl i =>
  cases rx
  cases y with
  | non=>cases ry;exact PySem.EqNone.ne_bool_none (Zh I q (by simp))
  | bl j=>cases ry;exact ne_bool (Zh I q (congrArg not dec_bl))
  | str j=>obtain ⟨t',rfl⟩:=ry;exact PySem.EqMixed.ne_bool_str (Zh I q (by simp))
  | _=>exact absurd (show false=true from hs) Qi
 | int i =>
  obtain ⟨t,rfl⟩:=rx
  cases y with
  | non=>cases ry;exact PySem.EqNone.ne_int_none (Zh I q (by simp))
  | int j=>obtain ⟨t',rfl⟩:=ry;exact ne_int (Zh I q (congrArg not dec_int))
  | str j=>obtain ⟨t',rfl⟩:=ry;exact PySem.EqMixed.ne_int_str (Zh I q (by simp))
  | _=>exact absurd (show false=true from hs) Qi
 | str i =>
  obtain ⟨t,rfl⟩:=rx
  cases y with
  | non=>cases ry;exact PySem.EqNone.ne_str_none (Zh I q (by simp))
  | bl j=>cases ry;exact PySem.EqMixed.ne_str_bool (Zh I q (by simp))
  | int j=>obtain ⟨t',rfl⟩:=ry;exact PySem.EqMixed.ne_str_int (Zh I q (by simp))
  | str j=>obtain ⟨t',rfl⟩:=ry;exact ne_str (Zh I q (congrArg not dec_str))
  | _=>exact absurd (show false=true from hs) Qi
 | byt i =>
  obtain ⟨t,rfl⟩:=rx
  cases y with
  | byt j=>obtain ⟨t',rfl⟩:=ry;exact PySem.W.ne_bytes (Zh I q (congrArg not dec_byt))
  | _=>exact absurd (show false=true from hs) Qi
 | _=>cases y <;> exact absurd (show false=true from hs) Qi
theorem op_lt:OpR X (Km .Lt) (rI0 fun i j=>.bl (decide (i<j))):=opB0 fun _ _ _ _ _ _ _ q=>lt_int q
theorem op_le:OpR X (Km .LtE) (rI0 fun i j=>.bl (decide (i<=j))):=opB0 fun _ _ _ _ _ _ _ q=>le_int q
theorem op_gt:OpR X (Km .Gt) (rI0 fun i j=>.bl (decide (j<i))):=opB0 fun _ _ _ _ _ _ _ q=>gt_int q
theorem op_isN:OpR X (Km .Is) (fun x y H Q=>y=.non/\Q (.bl (decide (x=.non))) H):=by
 intro KK s σ H x y v u Q I rx ry h
 obtain ⟨rfl,q⟩:=h
 cases ry
 refine is_none_gen (Zh I q ?_)
 cases x <;> first
  | (cases rx;rfl)
  | (obtain ⟨t,rfl⟩:=rx;rfl)
theorem op_notN:OpR X (Km .IsNot) (fun x y H Q=>y=.non/\Q (.bl (!decide (x=.non))) H):=by
 intro KK s σ H x y v u Q I rx ry h
 obtain ⟨rfl,q⟩:=h
 cases ry
 refine isnot_none_gen (Zh I q ?_)
 cases x <;> first
  | (cases rx;rfl)
  | (obtain ⟨t,rfl⟩:=rx;rfl)
theorem zH (b:Kv) {op:CmpOp} (h:op≠.In:=by decide) (h2:op≠.NotIn:=by decide):behindInMarks op b=false:=by
 have e1:(op == CmpOp.In)=false:=by cases op <;> first | rfl | exact absurd rfl h
 have e2:(op == CmpOp.NotIn)=false:=by cases op <;> first | rfl | exact absurd rfl h2
 cases b <;> simp [behindInMarks,e1,e2]
theorem pe_cmpR {op:CmpOp} {r:R2} (ho:OpR X (Km op) r) (ha:PE X a ta) (hb:PE X b tb) (hm:behindInMarks op b=false):PE X (.Compare a [op] [b] pos) (tOp r ta tb):=by
 intro KK s σ H Q I h
 exact wpAny_Compare1 (binT ha hb I h fun v u s2 x y H2 I2 rx ry q=>ho KK s2 σ H2 x y v u Q I2 rx ry q) hm
def YH (t:TE):TT:=fun σ H Q=>t σ H fun x H'=>∃ k,x=.bl k/\Q k H'
theorem YN {op:CmpOp} {r:R2} (ho:OpR X (Km op) r) (ha:PE X a ta) (hb:PE X b tb) (hm:behindInMarks op b=false):PT X (.Compare a [op] [b] pos) (YH (tOp r ta tb)):=by
 intro KK s σ H Q I h
 refine wpAny_isTrue_Compare1 (thn (ha KK s σ H _ I h) fun v s1 ⟨x,H1,I1,r1,q1⟩=>thn (hb KK s1 σ H1 _ I1 q1) fun u s2 ⟨y,H2,I2,r2,q2⟩ =>
  thn (ho KK s2 σ H2 x y v u _ I2 r1 r2 q2) fun c s3 ⟨z,H3,I3,r3,k,e,q3⟩=>?_) hm
 subst e
 cases r3
 exact Pc ⟨H3,I3,q3⟩
def tChain (r r':R2) (ta tb tc:TE):TE:=fun σ H Q=>ta σ H fun x H1=>tb σ H1 fun y H2=>r x y H2 fun z H3=>∃ k,z=.bl k /\
 (if k=true then tc σ H3 fun w' H4=>r' y w' H4 Q else Q (.bl false) H3)
theorem pt_chain {op op':CmpOp} {r r':R2} (ho:OpR X (Km op) r) (ho':OpR X (Km op') r') (ha:PE X a ta) (hb:PE X b tb) (hc:PE X c tc)
  (hm:lastMarks [op,op'] [b,c]=false:=by with_unfolding_all rfl):PT X (.Compare a [op,op'] [b,c] pos) (YH (tChain r r' ta tb tc)):=by
 intro KK s σ H Q I h
 refine isTrue_chain (thn (ha KK s σ H _ I h) fun v s1 ⟨x,H1,I1,r1,q1⟩=>test_link (thn (hb KK s1 σ H1 _ I1 q1) fun u s2 ⟨y,H2,I2,r2,q2⟩ =>
  thn (ho KK s2 σ H2 x y v u _ I2 r1 r2 q2) fun d s3 ⟨z,H3,I3,r3,k,e,q3⟩=>?_)) hm
 subst e
 cases r3
 refine Pc ?_
 cases k with
 | false =>
  obtain ⟨k',e',q'⟩:=q3
  cases e'
  exact ite_ff ⟨H3,I3,q'⟩
 | true =>
  refine ite_tt (test_last (thn (hc KK s3 σ H3 _ I3 q3) fun w' s4 ⟨z',H4,I4,r4,q4⟩=>thn (ho' KK s4 σ H4 y z' u w' _ I4 r2 r4 q4) fun d' s5 ⟨z2,H5,I5,r5,k2,e2,q5⟩=>?_))
  subst e2
  cases r5
  exact Pc ⟨H5,I5,q5⟩
theorem line63:(Kg:Nat)<2 ^ 63:=by rw [sizeLine_eq];decide
theorem vals1 {x:V} {us:List Ka} (r:zP [x] us):∃ u,us=[u]/\Zl x u:=by
 cases r with
 | cons r1 r2=>cases r2;exact ⟨_,rfl,r1⟩
theorem vals2 {x y:V} {us:List Ka} (r:zP [x,y] us):∃ u w',us=[u,w']/\Zl x u/\Zl y w':=by
 cases r with
 | cons r1 r2 =>
  cases r2 with
  | cons r3 r4=>cases r4;exact ⟨_,_,rfl,r1,r3⟩
theorem Je:Jq X (.type "int") (fun xs H Q=>(∃ i,xs=[.int i]/\Q (.int i) H)\/∃ k,xs=[.bl k]/\Q (.int (if k then 1 else 0)) H):=by
 intro KK s σ H xs us Q I r h
 rcases h with ⟨i,rfl,q⟩ | ⟨k,rfl,q⟩
 ·obtain ⟨u,rfl,t,rfl⟩:=vals1 r
  exact call_int_int ⟨.int i,H,I,⟨_,rfl⟩,q⟩
 ·obtain ⟨u,rfl,r1⟩:=vals1 r
  cases r1
  exact call_int_bool ⟨.int (if k then 1 else 0),H,I.tok _,⟨_,rfl⟩,q⟩
end
end L2
namespace L2
open PySem PySem.Spec PyProof.Rows
structure ObjM (h:Kl) (x dx C:Kc) (mA:Kw->Option Ka):Prop where
 obj:h.get? x=some (KH C dx)
 ns:h.Ns1 dx mA
 ne:dx≠x
theorem lookIn_ns {h:Kl} {dx:Kc} {mA:Kw->Option Ka} (n:h.Ns1 dx mA):∃ od,h.get? dx=some od/\∀ name,PySem.W.lookIn name od=some (mA name):=by
 obtain ⟨o,es,ep,ho,hd,hk,_,hm⟩:=n
 refine ⟨o,ho,fun name=>?_⟩
 have e:=hm name
 unfold nsFind findBy at e
 rw [<- Array.find?_toList] at e
 unfold PySem.W.lookIn
 rw [hd]
 dsimp only
 split
 ·rename_i y q
  rw [q] at e
  exact congrArg some e
 ·rename_i q
  rw [q] at e
  have a:es.toList.any (·.refKey)=false:=by
   rw [List.any_eq_false]
   intro y hy
   obtain ⟨z,t,hkey⟩:=hk y (Array.mem_toList_iff.mp hy)
   simp [DictEntry.refKey,hkey]
  have a':¬ es.toList.any (·.refKey)=true:=by rw [a];exact Qi
  rw [KS a']
  exact congrArg some e
theorem ObjM.look {h:Kl} {x dx C:Kc} {mA:Kw->Option Ka} (I:ObjM h x dx C mA):∃ od,PySem.W.InstAt h x (KH C dx) C (some od)/\∀ name,PySem.W.lookIn name od=some (mA name) :=
 let ⟨od,ho,hl⟩:=lookIn_ns I.ns
 ⟨od,⟨I.obj,rfl,rfl,ho⟩,hl⟩
section
variable {prog:Ki} {w:Kk} {A:Kj} {E:Ka->Kb->Prop} {s:Kb} {K:KC} {x dx C f:Kc} {mA:Kw->Option Ka} {name:Kw} {v:Ka}
theorem get_map {expr:Bool} {Q:Ka->Kb->Prop} (X:K.In s.heap) (I:ObjM s.heap x dx C mA) (hg:PySem.W.plainGet K C name=true) (hh:PySem.W.hasDictIn K C=true)
  (ha:KD K (.ref C) name=some none) (hv:mA name=some v) (hv':PySem.W.handedIn v=true) (h:Q v { s with toks:=s.toks+1 }) :
  Ko (Ky prog w) A (getAttr (.ref x) name expr) Q E s:=by
 obtain ⟨od,J,hl⟩:=I.look
 exact PySem.W.get_value X J (PySem.W.plainGet_of hg).1 (PySem.W.findObj_own hh ha rfl (by rw [hl,hv])) hv' h
theorem get_meth {pl:Sem Bool} {Q:Ka×List Ka->Kb->Prop} (X:K.In s.heap) (I:ObjM s.heap x dx C mA) (hg:PySem.W.plainGet K C name=true)
  (hf:KD K (.ref C) name=some (some (.ref f))) (ht:PySem.W.isFn K (.ref f)=true) (hv:mA name=none) (h:Q (.ref f,[.ref x]) s) :
  Ko (Ky prog w) A (getMethod (.ref x) name pl) Q E s:=by
 obtain ⟨od,J,hl⟩:=I.look
 exact PySem.W.method_fn X J (PySem.W.plainGet_of hg).1 (PySem.W.plainGet_of hg).2 hf (beq_iff_eq.mp ht) (by show (PySem.W.lookIn name od).map (·.isSome)=some false;rw [hl,hv];rfl) h
theorem set_map {ns:List Kw} {Q:Unit->Kb->Prop} (X:K.In s.heap) (I:ObjM s.heap x dx C mA)
  (hs:KD K (.ref C) "__setattr__"=some (some (.builtin "object.__setattr__"))) (hp:PySem.W.plainOver K C=true) (ht:PySem.W.takerIn K C name=some none) (hh:PySem.W.hasDictIn K C=true)
  (hw:PySem.Within mA ns) (hsz:ns.length<=Kg)
  (h:∀ h',ObjM h' x dx C (fun y=>if y=name then some v else mA y)->Heap.SameBut dx s.heap h'->Q () { s with heap:=h',toks:=s.toks+2 }) :
  Ko (Ky prog w) A (setAttr (.ref x) name v) Q E s:=by
 obtain ⟨od,J,hl⟩:=I.look
 refine PySem.W.set_plain X J hs (PySem.W.osa_open (s:={ s with toks:=s.toks+1 }) (r:=none) X J hp ht fun b=>?_)
 obtain ⟨cd,hc,hd'⟩:=PySem.W.any_some hh
 have hx:s.heap.get? x=some ⟨.ref C,some dx,.plain,#[]⟩:=I.obj
 refine Qa (Qf (Qa (Qa (wpAny_loadPart hx (Qa (PySem.W.Looks.here (s:={ s with toks:=s.toks+1 }) (PySem.W.looks_clsIn X hc) ?_))))))
 rw [hd']
 refine Qf (a:=some dx) (Qa (Qf (Qa ?_)))
 refine wpAny_nsSet1 (s:={ s with toks:=s.toks+1 }) I.ns fun h' hn2 hs2=>?_
 obtain ⟨oD,esD,epD,hoD,hdD,hcD⟩:=hn2.count (PySem.Within.cons name v hw)
 refine Qa (wpAny_lookBehind hoD (by rw [hdD];exact pastItsLine_dict (Qw hcD (by rw [Qd];omega))) ?_)
 exact Qf (h _ ⟨(hs2.2 _ (Ne.symm I.ne)).trans I.obj,hn2,I.ne⟩ hs2)
theorem make_map {R:Result->Kb->Prop} {vs:List Ka} {kw:List (Kw×Ka)} (X:K.In s.heap) (hm:PySem.W.makesIn K C=true)
  (hi:KD K (.ref C) "__init__"=some (some (.ref f))) (hf:PySem.W.typeIn K (.ref f)=some (.type "function"))
  (h:codeAny (Ky prog w) (A.under (.builtin "type.__call__" ⟨.ref C::vs,kw⟩)) (.call (.ref f) ⟨.ref (s.heap.objs.size+1)::vs,kw⟩) (PySem.W.InitBack (s.heap.objs.size+1) R)
   { s with heap:=(s.heap.push KG).push (KH C s.heap.objs.size) }) :
  codeAny (Ky prog w) A (.call (.ref C) ⟨vs,kw⟩) R s:=by
 obtain ⟨hh,g,d,t,os⟩:=s
 exact PySem.W.make_core (PySem.W.makes_of X hm) (PySem.W.looks_findIn X hi) (fun self=>PySem.W.bind_fn X self hf) (.inl rfl) h
end
def jD (f:Kw) (v:V):List (Kw×V)->List (Kw×V)
 | []=>[(f,v)]
 | (g,x)::r=>if g=f then (g,v)::r else (g,x)::jD f v r
theorem wF (f g:Kw) (v:V):∀ fs:List (Kw×V),(jD f v fs).lookup g=if g=f then some v else fs.lookup g
 | []=>by
  show List.lookup g [(f,v)]=_
  by_cases h:g=f
  ·have hb:(g == f)=true:=beq_iff_eq.mpr h
   simp only [List.lookup,hb,KR h]
  ·have hb:(g == f)=false:=beq_eq_false_iff_ne.mpr h
   simp only [List.lookup,hb,KS h]
 | (k,x)::r=>by
  have ih:=wF f g v r
  rw [show jD f v ((k,x)::r)=(if k=f then (k,v)::r else (k,x)::jD f v r) from rfl]
  by_cases hk:k=f
  ·rw [KR hk]
   by_cases h:g=k
   ·have hb:(g == k)=true:=beq_iff_eq.mpr h
    simp only [List.lookup,hb,KR (h.trans hk)]
   ·have hb:(g == k)=false:=beq_eq_false_iff_ne.mpr h
    simp only [List.lookup,hb,KS (fun e:g=f=>h (e.trans hk.symm))]
  ·rw [KS hk]
   by_cases h:g=k
   ·have hb:(g == k)=true:=beq_iff_eq.mpr h
    simp only [List.lookup,hb,KS (fun e:g=f=>hk (h.symm.trans e))]
   ·have hb:(g == k)=false:=beq_eq_false_iff_ne.mpr h
    simp only [List.lookup,hb]
    exact ih
theorem wg (f:Kw) (v:V):∀ fs:List (Kw×V),f∈(jD f v fs).map (·.1)/\∀ g,g∈fs.map (·.1)->g∈(jD f v fs).map (·.1)
 | []=>⟨by simp [jD],fun g h=>by simp at h⟩
 | (k,x)::r=>by
  obtain ⟨i1,i2⟩:=wg f v r
  rw [show jD f v ((k,x)::r)=(if k=f then (k,v)::r else (k,x)::jD f v r) from rfl]
  by_cases hk:k=f
  ·rw [KR hk]
   subst hk
   exact ⟨by simp,fun g h=>by simpa using h⟩
  ·rw [KS hk]
   refine ⟨?_,fun g h=>?_⟩
   ·rw [Qr]
    exact Qe _ i1
   ·rw [Qr] at h ⊢
    rcases Qc.mp h with e | e
    ·exact Qc.mpr (.inl e)
    ·exact Qe _ (i2 g e)
theorem wI (f:Kw) (v:V):∀ fs:List (Kw×V),(jD f v fs).length<=fs.length+1
 | []=>by simp [jD]
 | (k,x)::r=>by
  have ih:=wI f v r
  rw [show jD f v ((k,x)::r)=(if k=f then (k,v)::r else (k,x)::jD f v r) from rfl]
  by_cases hk:k=f
  ·rw [KR hk,Qd,Qd];omega
  ·rw [KS hk,Qd,Qd];omega
theorem Ji.some_of {v:V} {o:Option Ka} (r:Ji (some v) o):∃ u,o=some u/\Zl v u:=by
 cases o with
 | none=>exact (show False from r).elim
 | some u=>exact ⟨u,rfl,r⟩
theorem Ji.none_of {o:Option Ka} (r:Ji none o):o=none:=by
 cases o with
 | none=>rfl
 | some u=>exact (show False from r).elim
theorem handed_of {v:V} {u:Ka} (r:Zl v u):PySem.W.handedIn u=true:=by
 cases v with
 | non=>cases (show u=Value.none from r);rfl
 | bl b=>cases (show u=Value.bool b from r);rfl
 | int i=>obtain ⟨t,e⟩:=(show ∃ t,u=Value.int i t from r);cases e;rfl
 | str x=>obtain ⟨t,e⟩:=(show ∃ t,u=Value.str x t from r);cases e;rfl
 | byt b=>obtain ⟨t,e⟩:=(show ∃ t,u=Value.bytes b t from r);cases e;rfl
 | flt b=>obtain ⟨t,e⟩:=(show ∃ t,u=Value.float b t from r);cases e;rfl
 | ref a=>cases (show u=Value.ref a from r);rfl
 | ty n=>cases (show u=Value.type n from r);rfl
section
variable {P:Ki} {w:Kk} {H H':Hp} {h h':Kl} {a C dx:Kc} {fs fs':List (Kw×V)}
theorem ins_get (hok:HOk P w H h) (e:H a=some (.ins C dx fs)):∃ mA,ObjM h a dx C mA/\(∀ f,Ji (fs.lookup f) (mA f))/\PySem.Within mA (fs.map (·.1))/\fs.length<=1000/\H dx=some (.own a):=by
 obtain ⟨d,z,ne,ob,mA,n,r,q⟩:=(show Z9 P w H h a (.ins C dx fs) from hok a _ e)
 exact ⟨mA,⟨ob,n,ne⟩,r,q,z,d⟩
end
structure Cls (K:KC) (C:Kc):Prop where
 pg:PySem.W.plainGet K C Str.empty=true
 hd:PySem.W.hasDictIn K C=true
 po:PySem.W.plainOver K C=true
 sa:KD K (.ref C) "__setattr__"=some (some (.builtin "object.__setattr__"))
theorem Cls.get {K:KC} {C:Kc} (c:Cls K C) (f:Kw):PySem.W.plainGet K C f=true:=c.pg
def Yj (K:KC) (C:Kc) (f:Kw):Prop:=KD K (.ref C) f=some none
theorem Yj.taker {K:KC} {C:Kc} {f:Kw} (n:Yj K C f):PySem.W.takerIn K C f=some none:=by
 unfold PySem.W.takerIn
 rw [show KD K (.ref C) f=some none from n]
 rfl
structure Meth (K:KC) (C:Kc) (m:Kw) (f:Kc):Prop where
 at_:KD K (.ref C) m=some (some (.ref f))
 fn:PySem.W.isFn K (.ref f)=true
 kp:keepIn K (.ref f)=true
section
variable {X:Cx} {KK:List (Kc×KA)} {σ:St} {H:Hp} {s:Kb} {a C dx:Kc} {fs:List (Kw×V)} {f:Kw} {v:V} {A:Kj} {E:Ka->Kb->Prop}
theorem W9 {b:Bool} {Q:Ka->Kb->Prop} (I:Inv X KK σ H s) (e:H a=some (.ins C dx fs)) (c:Cls X.K C) (n:Yj X.K C f) (l:fs.lookup f=some v)
  (h:∀ u s',Inv X KK σ H s'->Zl v u->Q u s'):Ko (Ky X.prog X.w) A (getAttr (.ref a) f b) Q E s:=by
 obtain ⟨mA,O,r,_,_,_⟩:=ins_get I.hok e
 obtain ⟨u,hu,ru⟩:=Ji.some_of (v:=v) (o:=mA f) (by rw [<- l];exact r f)
 exact get_map I.kIn O (c.get f) c.hd n hu (handed_of ru) (h u _ (I.tok _) ru)
theorem Jy {m:Kw} {g:Kc} {pl:Sem Bool} {Q:Ka×List Ka->Kb->Prop} (I:Inv X KK σ H s) (e:H a=some (.ins C dx fs)) (c:Cls X.K C) (k:Meth X.K C m g) (l:fs.lookup m=none)
  (h:Q (.ref g,[.ref a]) s):Ko (Ky X.prog X.w) A (getMethod (.ref a) m pl) Q E s:=by
 obtain ⟨mA,O,r,_,_,_⟩:=ins_get I.hok e
 have hn:mA m=none:=Ji.none_of (by rw [<- l];exact r m)
 exact get_meth I.kIn O (c.get m) k.at_ k.fn hn h
theorem WO {y:V} {u:Ka} {Q:Unit->Kb->Prop} (I:Inv X KK σ H s) (e:H a=some (.ins C dx fs)) (c:Cls X.K C) (n:Yj X.K C f) (hl:fs.length<1000) (ry:Zl y u)
  (h:∀ s',Inv X KK σ (upd H a (.ins C dx (jD f y fs))) s'->Q () s'):Ko (Ky X.prog X.w) A (setAttr (.ref a) f u) Q E s:=by
 obtain ⟨mA,O,r,wi,_,ho⟩:=ins_get I.hok e
 have hz:(fs.map (·.1)).length<=Kg:=by rw [Qg,sizeLine_eq];omega
 refine set_map I.kIn O c.sa c.po n.taker c.hd wi hz fun h' O' sb=>h _ ?_
 have hd:∃ o,h'.get? dx=some o:=let ⟨o,_,_,e',_⟩:=O'.ns;⟨o,e'⟩
 refine I.write (x:=a) (e:=dx) (by rw [e];exact True.intro) (.inr ho) (fun b q hb z=>(sb.2 b hb).trans z) hd ?_
 refine ⟨by rw [zv O.ne];exact ho,?_,O.ne,O'.obj,_,O'.ns,fun g=>?_,fun g hg=>?_⟩
 ·have:=wI f y fs;omega
 ·show Ji ((jD f y fs).lookup g) (if g=f then some u else mA g)
  rw [wF]
  by_cases q:g=f
  ·rw [KR q,KR q];exact ry
  ·rw [KS q,KS q];exact r g
 ·by_cases q:g=f
  ·rw [q];exact (wg f y fs).1
  ·refine (wg f y fs).2 g (wi g fun z=>hg ?_)
   show (if g=f then some u else mA g)=none
   rw [KS q];exact z
theorem Inv.made (I:Inv X KK σ H s):Inv X KK σ (upd (upd H s.heap.objs.size (.own (s.heap.objs.size+1))) (s.heap.objs.size+1) (.ins C s.heap.objs.size []))
  { s with heap:=(s.heap.push KG).push (KH C s.heap.objs.size) }:=by
 have e1:(s.heap.push KG).get? s.heap.objs.size=some KG:=Qq s.heap rfl
 have e2:((s.heap.push KG).push (KH C s.heap.objs.size)).get? (s.heap.objs.size+1)=some (KH C s.heap.objs.size):=by
  have:=Qq (s.heap.push KG) (o:=KH C s.heap.objs.size) rfl
  rwa [QJ] at this
 have e3:(s.heap.push KG).Ns s.heap.objs.size (fun _=>none):=⟨KG,#[],_,e1,rfl,(fun e he=>absurd he (by simp)),fun _=>rfl⟩
 have I1:=I.laid (a:=s.heap.objs.size) (o:=.own (s.heap.objs.size+1)) (h':=s.heap.push KG) (t':=s.toks) (fun b u q=>Qb _ q) (Ql _) ⟨_,e1⟩
 refine I1.laid (a:=s.heap.objs.size+1) (o:=.ins C s.heap.objs.size []) (t':=s.toks) (fun b u q=>Qb _ q) (Nat.le_of_eq (QJ _ _)) ?_
 have ne:s.heap.objs.size≠s.heap.objs.size+1:=Qu (Q1 _)
 refine ⟨by rw [zv ne,zu],Pd _,ne,e2,fun _=>none,(Heap.Ns1.of_empty e3).at fun o q=>Qb _ q,fun _=>True.intro,fun y hy=>absurd rfl hy⟩
theorem attr_of {prog:Ki} {w:Kk} {env:Env} {e:Kv} {f:Kw} {pos:KB} {s:Kb} {Q:Ka->Kb->Prop} (hb:Kp e f env (Kz e env)=Kz e env)
  (h:Ko (Ky prog w) A (Kz e env) (fun o s₁=>Ko (Ky prog w) A (getAttr o f true) Q E s₁) E s):Ko (Ky prog w) A (Kz (.Attribute e f pos) env) Q E s :=
 Attribute_any_ h (by rw [arm_eval_Attribute,hb])
end
def wR (K:KC) (ta:TE) (f:Kw):TE:=fun σ H Q=>ta σ H fun x H1=>∃ a C dx fs v,x=.ref a/\H1 a=some (.ins C dx fs)/\Cls K C/\Yj K C f/\fs.lookup f=some v/\Q v H1
def sFld (K:KC) (ta tv:TE) (f:Kw):TS:=fun D σ H=>tv σ H fun y H1=>ta σ H1 fun x H2=>∃ a C dx fs,x=.ref a/\H2 a=some (.ins C dx fs)/\Cls K C/\Yj K C f/\fs.length<1000 /\
 D.nx σ (upd H2 a (.ins C dx (jD f y fs)))
def InOp (X:Cx) (op:Operator) (rd:V->V->Hp->VK->Prop):Prop :=
 ∀ (KK:List (Kc×KA)) (s:Kb) (σ:St) (H:Hp) (x y:V) (u v:Ka) (Q:VK),Inv X KK σ H s->Zl x u->Zl y v->rd x y H Q->Ko (Ky X.prog X.w) X.A (inplaceOp op u v) (EP X KK σ Q) X.xe s
def sFldAug (K:KC) (ta tv:TE) (rd:V->V->Hp->VK->Prop) (f:Kw):TS:=fun D σ H=>ta σ H fun x H1=>∃ a C dx fs v,x=.ref a/\H1 a=some (.ins C dx fs)/\Cls K C/\Yj K C f/\fs.lookup f=some v /\
 tv σ H1 fun y H2=>rd v y H2 fun z H3=>∃ dx' fs',H3 a=some (.ins C dx' fs')/\fs'.length<1000/\D.nx σ (upd H3 a (.ins C dx' (jD f z fs')))
section
variable {X:Cx} {o e value:Kv} {f:Kw} {pos pos' tpos:KB} {ta tv:TE}
theorem pe_fld (he:PE X e ta) (hb:Kp e f X.env (Kz e X.env)=Kz e X.env):PE X (.Attribute e f pos) (wR X.K ta f):=by
 intro KK s σ H Q I h
 refine attr_of hb (thn (he KK s σ H _ I h) fun u s1 ⟨x,H1,I1,rx,a,C,dx,fs,v,ex,ea,c,n,l,q⟩=>?_)
 subst ex
 obtain rfl:u=Value.ref a:=rx
 exact W9 I1 ea c n l fun u' s2 I2 ru=>⟨v,H1,I2,ru,q⟩
theorem ps_fld (ha:PE X o ta) (hv:PE X value tv) (hs:Kt value (some (.Attribute o f pos')) pos.line X.env=pure false):PS X (.Assign [.Attribute o f pos'] value pos) (sFld X.K ta tv f):=by
 intro KK s σ H D I h
 refine plainObj_wpAny_Assign_Attribute (thn (hv KK s σ H _ I h) fun u s1 ⟨y,H1,I1,ry,q⟩=>thn (ha KK s1 σ H1 _ I1 q) fun ov s2 ⟨x,H2,I2,rx,a,C,dx,fs,ex,ea,c,n,l,q2⟩=>?_) hs
 subst ex
 obtain rfl:ov=Value.ref a:=rx
 exact WO I2 ea c n l ry fun s3 I3=>⟨σ,_,I3,q2⟩
theorem ps_fldaug {op:Operator} {rd:V->V->Hp->VK->Prop} (ha:PE X o ta) (hv:PE X value tv) (hop:InOp X op rd):PS X (.AugAssign (.Attribute o f tpos) op value pos) (sFldAug X.K ta tv rd f):=by
 intro KK s σ H D I h
 refine wpAny_AugAssign_AttributeAny (thn (ha KK s σ H _ I h) fun ov s1 ⟨x,H1,I1,rx,a,C,dx,fs,v,ex,ea,c,n,l,q⟩=>?_)
 subst ex
 obtain rfl:ov=Value.ref a:=rx
 refine W9 I1 ea c n l fun u s2 I2 ru=>thn (hv KK s2 σ H1 _ I2 q) fun w3 s3 ⟨y,H2,I3,ry,q3⟩=>thn (hop KK s3 σ H2 v y u w3 _ I3 ru ry q3) fun w4 s4 ⟨z,H3,I4,rz,dx',fs',ea',l',q4⟩=>?_
 exact WO I4 ea' c n l' rz fun s5 I5=>⟨σ,_,I5,q4⟩
def rAdd:V->V->Hp->VK->Prop:=fun x y H Q=>∃ i j,x=.int i/\y=.int j/\Q (.int (i+j)) H
theorem in_add:InOp X .Add rAdd:=by
 rintro KK s σ H x y u v Q I rx ry ⟨i,j,rfl,rfl,q⟩
 obtain ⟨t,rfl⟩:=(show ∃ t,u=Value.int i t from rx)
 obtain ⟨t',rfl⟩:=(show ∃ t',v=Value.int j t' from ry)
 exact PyProof.Rows.iadd_int ⟨.int (i+j),H,I.tok _,⟨_,rfl⟩,q⟩
theorem methcall_of {pl:Sem Bool} {m:Kw} {apos:KB} {args:List Kv} {KK:List (Kc×KA)} {s:Kb} {σ:St} {H:Hp} {Q:Ka->Kb->Prop} {te:TE} (he:PE X e te) (I:Inv X KK σ H s)
  (h:te σ H fun x H1=>∃ a C dx fs g,x=.ref a/\H1 a=some (.ins C dx fs)/\Cls X.K C/\Meth X.K C m g/\fs.lookup m=none /\
   ∀ s1,Inv X KK σ H1 s1->Ko (Ky X.prog X.w) X.A (callWith pos (.ref g) [.ref a] (Kq pos (Ke args X.env)) (Kr pos (Ks [] X.env))) Q X.xe s1)
  (ht:Kz (.Call (.Attribute e m apos) args [] pos) X.env=(do
   let ov <- Kz e X.env
   standAt apos.atName
   let (f,first) <- holding [ov] (getMethod ov m pl)
   callWith pos f first (Kq pos (Ke args X.env)) (Kr pos (Ks [] X.env)))) :
  Ko (Ky X.prog X.w) X.A (Kz (.Call (.Attribute e m apos) args [] pos) X.env) Q X.xe s:=by
 refine PySem.W.methodCall_KW (pl:=pl) (thn (he KK s σ H _ I h) fun u s1 ⟨x,H1,I1,rx,a,C,dx,fs,g,ex,ea,c,k,l,q⟩=>?_) ht
 subst ex
 obtain rfl:u=Value.ref a:=rx
 exact Jy I1 ea c k l (q s1 I1)
end
section
variable {X:Cx} {KK:List (Kc×KA)} {σ:St} {H:Hp} {s:Kb} {A:Kj} {E:Ka->Kb->Prop} {Q:Ka->Kb->Prop} {c:Ka} {b:Bool}
end
end L2
namespace L2
open PySem PySem.Spec PyProof.Rows
structure Room (k:Nat) (A:Kj):Prop where
 hd:A.handled=none
 dp:A.depth+3*k+5<recursionLimit
 un:A.units+16*k+200<cLine
 gd:A.guards=some []
theorem Room.mono {j k:Nat} {A:Kj} (r:Room k A) (h:j<=k):Room j A:=⟨r.hd,by have:=r.dp;omega,by have:=r.un;omega,r.gd⟩
theorem Room.deeper {k:Nat} {A:Kj} (r:Room (k+1) A) (env:Env):Room k (A.deeper env) :=
 ⟨r.hd,by have:=r.dp;show A.depth+1+3*k+5<_;omega,by have:=r.un;show A.units+3+16*k+200<_;omega,r.gd⟩
theorem make_depth {A:Kj} {C:Kc} {us:List Ka} {kw:List (Kw×Ka)}:(A.under (.builtin "type.__call__" ⟨.ref C::us,kw⟩)).depth=A.depth+1:=by
 first | rfl | simp [Around.under,Code.weight,Code.isCreation,Code.isGuard,Code.isCaller,Code.frames,Code.isFrame,guardIds]
theorem make_units {A:Kj} {C:Kc} {us:List Ka} {kw:List (Kw×Ka)}:(A.under (.builtin "type.__call__" ⟨.ref C::us,kw⟩)).units=A.units+1:=by
 first | rfl | simp [Around.under,Code.cUnits,Code.frames,Code.isFrame]
theorem Room.make {k:Nat} {A:Kj} (r:Room (k+1) A) (C:Kc) (us:List Ka) (kw:List (Kw×Ka)):Room k (A.under (.builtin "type.__call__" ⟨.ref C::us,kw⟩)) :=
 ⟨r.hd,by have:=r.dp;rw [make_depth];omega,by have:=r.un;rw [make_units];omega,(by rw [<- r.gd];first | rfl | kernel_rfl)⟩
theorem Room.depth {k:Nat} {A:Kj} (r:Room k A):A.depth<recursionLimit:=by have:=r.dp;omega
theorem Room.units {k:Nat} {A:Kj} (r:Room k A):A.units+64<cLine:=by have:=r.un;omega
def ZS:TA:=fun _ H Q=>Q [] H
def zW (ta:TE) (tr:TA):TA:=fun σ H Q=>ta σ H fun x H1=>tr σ H1 fun xs H2=>Q (x::xs) H2
section
variable {X:Cx} {e:Kv} {es:List Kv} {te:TE} {t:TA} {pos:KB}
theorem zY:PA X [] ZS:=fun _ _ _ _ H Q I h=>Calls.spliced_nil ⟨[],H,I,.nil,h⟩
theorem zC (ha:PE X e te) (hr:PA X es t) (hs:Ke (e::es) X.env=(false,Kz e X.env)::Ke es X.env:=by rfl):PA X (e::es) (zW te t):=by
 intro pos KK s σ H Q I h
 rw [hs]
 show Ko _ _ (spliced ((false,Kz e X.env)::Kq pos (Ke es X.env))) _ _ s
 refine Calls.spliced_cons (thn (ha KK s σ H _ I h) fun u s1 ⟨x,H1,I1,r1,q1⟩=>?_)
 exact thn (hr pos KK s1 σ H1 _ I1 q1) fun us s2 ⟨xs,H2,I2,r2,q2⟩=>⟨x::xs,H2,I2,.cons r1 r2,q2⟩
def Wv (t:TA):TE:=fun σ H Q=>t σ H fun xs H1=>xs.length<=Kg/\∀ p,H1 p=none->Q (.ref p) (upd H1 p (.tup xs))
def tLst (t:TA):TE:=fun σ H Q=>t σ H fun xs H1=>xs.length<=Kg/\∀ p,H1 p=none->Q (.ref p) (upd H1 p (.lst xs))
theorem jO {x1} (h:PA X es t):PE X (.Tuple es x1 pos) (Wv t):=by
 intro KK s σ H Q I hq
 refine wpAny_Tuple_spliced (thn (h pos KK s σ H _ I hq) fun us s1 ⟨xs,H1,I1,r,z,q⟩=>⟨by rw [<- r.length];exact z,?_⟩)
 have hf:H1 s1.heap.objs.size=none:=I1.hok.fresh (Ql _)
 refine ⟨.ref s1.heap.objs.size,upd H1 s1.heap.objs.size (.tup xs),I1.laid (t':=s1.toks) (fun b u e=>Qb _ e) (Ql _) ?_,rfl,q _ hf⟩
 exact ⟨z,us,r,⟨_,Qq _ rfl,rfl,_,rfl⟩⟩
theorem ji (h:PA X es t):PE X (.List es pos) (tLst t):=by
 intro KK s σ H Q I hq
 refine wpAny_List_spliced (thn (h pos KK s σ H _ I hq) fun us s1 ⟨xs,H1,I1,r,z,q⟩=>⟨by rw [<- r.length];exact z,?_⟩)
 have hf:H1 s1.heap.objs.size=none:=I1.hok.fresh (Ql _)
 refine ⟨.ref s1.heap.objs.size,upd H1 s1.heap.objs.size (.lst xs),I1.laid (t':=s1.toks) (fun b u e=>Qb _ e) (Ql _) ?_,rfl,q _ hf⟩
 exact ⟨z,us,0,r,Qq _ rfl⟩
end
abbrev Sp:=List V->Hp->VK->XK->Prop
abbrev CXT:=List Env->Hp->Kb->XK->Ka->Kb->Prop
structure Env0 (P:Ki) (w:Kk) (K:KC) (mg:Kw->Option Ka) (base:Kl) (A:Kj) (outer:List Env) (s:Kb) (H:Hp):Prop where
 frames:A.frames=some outer
 mod:Mod K mg base
 bs:∀ b o,base.get? b=some o->s.heap.get? b=some o/\H b=none
 bsz:base.objs.size<=s.heap.objs.size
 funs:s.heap.FunFrames base outer
 frf:∀ b∈frs outer,H b=none
 hok:HOk P w H s.heap
 bare:AllBare s.gens
 tree:P.given.tree=none
def CE (outer:List Env) (P:Ki) (w:Kk) (H:Hp) (s:Kb) (Q:VK) (u:Ka) (s':Kb):Prop :=
 ∃ v H',s'.os=s.os/\AllBare s'.gens/\Un (frs outer) [] H H' s.heap s'.heap/\HOk P w H' s'.heap/\Zl v u/\Q v H'
def CR (CX:CXT) (outer:List Env) (P:Ki) (w:Kk) (H:Hp) (s:Kb) (Q:VK) (E:XK) (r:Result) (s':Kb):Prop :=
 match r with
 | .ok (.ret u)=>CE outer P w H s Q u s'
 | .ok _=>False
 | .error e=>CX outer H s E e s'
structure FnOk (P:Ki) (w:Kk) (K:KC) (mg:Kw->Option Ka) (base:Kl) (CX:CXT) (k:Nat) (f:Kc) (fd:Kh) (ps:List Kw) (sp:Sp):Prop where
 len:∀ vs H Q E,sp vs H Q E->vs.length=ps.length
 run:∀ (A:Kj) (outer:List Env) (s:Kb) (H:Hp) (args:Args) (us:List Ka) (vs:List V) (Q:VK) (E:XK),Room k A->Env0 P w K mg base A outer s H->BindsTo s fd args (ps.zip us)->zP vs us->sp vs H Q E ->
  codeAny (Ky P w) A (.call (.ref f) args) (CR CX outer P w H s Q E) s
theorem FnOk.imp {P:Ki} {w:Kk} {K:KC} {mg:Kw->Option Ka} {base:Kl} {CX:CXT} {k:Nat} {f:Kc} {fd:Kh} {ps:List Kw} {sp sp':Sp} (F:FnOk P w K mg base CX k f fd ps sp)
  (h:∀ vs H Q E,sp' vs H Q E->sp vs H Q E):FnOk P w K mg base CX k f fd ps sp' :=
 ⟨fun vs H Q E q=>F.len vs H Q E (h _ _ _ _ q),fun A outer s H args us vs Q E hr he hb hv hs=>F.run A outer s H args us vs Q E hr he hb hv (h _ _ _ _ hs)⟩
theorem Env0.make {P:Ki} {w:Kk} {K:KC} {mg:Kw->Option Ka} {base:Kl} {A:Kj} {outer:List Env} {s:Kb} {H:Hp} (e:Env0 P w K mg base A outer s H) (C:Kc) (us:List Ka) (kw:List (Kw×Ka)) :
  Env0 P w K mg base (A.under (.builtin "type.__call__" ⟨.ref C::us,kw⟩)) outer s H:=⟨by first | exact e.frames | (simpa [Around.under,Code.envs,Code.isFrame,pushEnvs] using e.frames),e.mod,e.bs,e.bsz,e.funs,e.frf,e.hok,e.bare,e.tree⟩
section
variable {X:Cx} {KK:List (Kc×KA)} {σ:St} {H:Hp} {s s':Kb}
theorem Inv.env0 (I:Inv X KK σ H s):Env0 X.prog X.w X.K X.mg X.base X.A X.stack s H :=
 ⟨I.ok.frames,I.ok.mod,I.bs,Qw I.ok.bsz I.sz,I.stack,I.stkFree,I.hok,I.bare,I.ok.tree⟩
theorem Inv.after {Q:VK} {u:Ka} (I:Inv X KK σ H s) (h:CE X.stack X.prog X.w H s Q u s'):EP X KK σ Q u s':=by
 obtain ⟨v,H',os,bare,un,hok,r,q⟩:=h
 obtain ⟨hh,g,d,t,os'⟩:=s'
 obtain rfl:os'=s.os:=os
 exact ⟨v,H',I.call (h':=hh) (g':=g) (d':=d) (t':=t) (ch:=[]) un hok bare (fun b z=>absurd z (by simp)),r,q⟩
end
def jI (sp:Sp) (dvs:List V) (E:XK) (t:TA):TE:=fun σ H Q=>t σ H fun vs H1=>sp (vs++dvs) H1 Q E
def Ww (C:Kc) (m:Kw) (sp:Sp) (dvs:List V) (E:XK) (ta:TE) (t:TA):TE:=fun σ H Q=>ta σ H fun x H1=>∃ a dx fs,x=.ref a/\H1 a=some (.ins C dx fs)/\fs.lookup m=none /\
 t σ H1 fun vs H2=>sp (x::(vs++dvs)) H2 Q E
def tMake (C:Kc) (sp:Sp) (dvs:List V) (E:XK) (t:TA):TE:=fun σ H Q=>t σ H fun vs H1=>∀ x dx,H1 x=none->H1 dx=none->dx≠x ->
 sp (.ref x::(vs++dvs)) (upd (upd H1 dx (.own x)) x (.ins C dx [])) (fun v H2=>v=.non/\Q (.ref x) H2) E
def yR (K:KC) (fd:Kh) (ps:List Kw) (ds:List Ka):Prop :=
 ∀ (s:Kb) (us:List Ka),K.In s.heap->(us++ds).length=ps.length->BindsTo s fd ⟨us,[]⟩ (ps.zip (us++ds))
theorem yR.all {K:KC} {fd:Kh} {ps:List Kw} (h:∀ us:List Ka,us.length=ps.length->bindArgs fd ⟨us,[]⟩=pure (ps.zip us)):yR K fd ps []:=fun s us _ hl=>by
 rw [QZ] at hl ⊢
 exact .of_eq (h us hl)
def JF (CX:CXT) (X:Cx) (E:XK):Prop:=∀ (KK:List (Kc×KA)) (σ:St) (H:Hp) (s:Kb) (e:Ka) (s':Kb),Inv X KK σ H s->CX X.stack H s E e s'->X.xe e s'
section
variable {X:Cx} {CX:CXT} {k:Nat} {f C:Kc} {fd:Kh} {ps:List Kw} {sp:Sp} {dvs:List V} {ds:List Ka} {E:XK} {x m:Kw} {p pos apos:KB} {e o:Kv} {es:List Kv} {ta:TE} {t:TA}
theorem run_fn {KK:List (Kc×KA)} {σ:St} {H:Hp} {s:Kb} {Q:VK} {us:List Ka} {vs:List V} (F:FnOk X.prog X.w X.K X.mg X.base CX k f fd ps sp) (hr:Room k X.A) (hb:yR X.K fd ps ds) (hd:zP dvs ds) (hx:JF CX X E)
  (I:Inv X KK σ H s) (r:zP vs us) (h:sp (vs++dvs) H Q E):Ko (Ky X.prog X.w) X.A (call (.ref f) us) (EP X KK σ Q) X.xe s:=by
 have r2:zP (vs++dvs) (us++ds):=r.append hd
 have hl:(us++ds).length=ps.length:=by rw [<- r2.length];exact F.len _ _ _ _ h
 refine wpAny_call (codeAny_mono (F.run X.A X.stack s H ⟨us,[]⟩ (us++ds) (vs++dvs) Q E hr I.env0 (hb s us I.kIn hl) r2 h) fun r s' hq=>?_)
 cases r with
 | error e=>exact hx KK σ H s e s' I hq
 | ok fl =>
  cases fl with
  | ret u=>exact I.after hq
  | next=>exact False.elim hq
  | brk=>exact False.elim hq
  | cont=>exact False.elim hq
theorem Wj (F:FnOk X.prog X.w X.K X.mg X.base CX k f fd ps sp) (hr:Room k X.A) (hg:Gl X x) (hm:X.mg x=some (.ref f)) (hk:keepIn X.K (.ref f)=true) (hb:yR X.K fd ps ds) (hd:zP dvs ds) (hx:JF CX X E)
  (ha:PA X (e::es) t) (hdb:(x == ("__debug__":Kw))=false:=by decide) (he:Ke (e::es) X.env=(false,Kz e X.env)::Ke es X.env:=by rfl) (hpl:(Kq pos (Ke es X.env)).any (·.1)=false:=by rfl) :
  PE X (.Call (.Name x p) (e::es) [] pos) (jI sp dvs E t):=by
 intro KK s σ H Q I h
 refine Q9 (Ja I hg hm ?_ hdb)
 refine PySem.W.callWith_K (h₀:=X.base) I.ok.mod.kin hk (thn (ha pos KK s σ H _ I h) fun us s1 ⟨vs,H1,I1,r,q⟩=>⟨I1.kIn,?_⟩) he hpl
 exact run_fn F hr hb hd hx I1 r q
theorem pe_meth {pl:Sem Bool} (he:PE X o ta) (c:Cls X.K C) (hm:Meth X.K C m f) (F:FnOk X.prog X.w X.K X.mg X.base CX k f fd ps sp) (hr:Room k X.A) (hb:yR X.K fd ps ds) (hd:zP dvs ds) (hx:JF CX X E) (ha:PA X (e::es) t)
  (hst:Ke (e::es) X.env=(false,Kz e X.env)::Ke es X.env:=by rfl) (hpl:(Kq pos (Ke es X.env)).any (·.1)=false:=by rfl)
  (ht:Kz (.Call (.Attribute o m apos) (e::es) [] pos) X.env=(do
   let ov <- Kz o X.env
   standAt apos.atName
   let (f,first) <- holding [ov] (getMethod ov m pl)
   callWith pos f first (Kq pos (Ke (e::es) X.env)) (Kr pos (Ks [] X.env))):=by rfl) :
  PE X (.Call (.Attribute o m apos) (e::es) [] pos) (Ww C m sp dvs E ta t):=by
 intro KK s σ H Q I h
 refine PySem.W.methodCall_KW (pl:=pl) (thn (he KK s σ H _ I h) fun u s1 ⟨x,H1,I1,rx,a,dx,fs,ex,ea,l,q⟩=>?_) ht
 subst ex
 obtain rfl:u=Value.ref a:=rx
 refine Jy I1 ea c hm l ?_
 refine PySem.W.callWith_K (first:=[.ref a]) (h₀:=X.base) I.ok.mod.kin hm.kp (thn (ha pos KK s1 σ H1 _ I1 q) fun us s2 ⟨vs,H2,I2,r,q2⟩=>⟨I2.kIn,?_⟩) hst hpl
 exact run_fn (us:=.ref a::us) (vs:=.ref a::vs) F hr hb hd hx I2 (.cons rfl r) q2
theorem pe_meth0 {pl:Sem Bool} (he:PE X o ta) (c:Cls X.K C) (hm:Meth X.K C m f) (F:FnOk X.prog X.w X.K X.mg X.base CX k f fd ps sp) (hr:Room k X.A) (hb:yR X.K fd ps ds) (hd:zP dvs ds) (hx:JF CX X E)
  (ht:Kz (.Call (.Attribute o m apos) [] [] pos) X.env=(do
   let ov <- Kz o X.env
   standAt apos.atName
   let (f,first) <- holding [ov] (getMethod ov m pl)
   callWith pos f first (Kq pos (Ke [] X.env)) (Kr pos (Ks [] X.env))):=by rfl) :
  PE X (.Call (.Attribute o m apos) [] [] pos) (Ww C m sp dvs E ta ZS):=by
 intro KK s σ H Q I h
 refine PySem.W.methodCall_KW (pl:=pl) (thn (he KK s σ H _ I h) fun u s1 ⟨x,H1,I1,rx,a,dx,fs,ex,ea,l,q⟩=>?_) ht
 subst ex
 obtain rfl:u=Value.ref a:=rx
 refine Jy I1 ea c hm l ?_
 exact PySem.W.callWith_K0 (first:=[.ref a]) I1.kIn hm.kp (run_fn (us:=[.ref a]) (vs:=[.ref a]) F hr hb hd hx I1 (.cons rfl .nil) q)
structure Mk (K:KC) (C f:Kc):Prop where
 makes:PySem.W.makesIn K C=true
 init:KD K (.ref C) "__init__"=some (some (.ref f))
 fn:PySem.W.isFn K (.ref f)=true
 kp:keepIn K (.ref C)=true
theorem run_make {KK:List (Kc×KA)} {σ:St} {H:Hp} {s:Kb} {Q:VK} {us:List Ka} {vs:List V} (M:Mk X.K C f) (F:FnOk X.prog X.w X.K X.mg X.base CX k f fd ps sp) (hr:Room (k+1) X.A) (hb:yR X.K fd ps ds) (hd:zP dvs ds)
  (hx:JF CX X E) (I:Inv X KK σ H s) (r:zP vs us)
  (h:∀ x dx,H x=none->H dx=none->dx≠x->sp (.ref x::(vs++dvs)) (upd (upd H dx (.own x)) x (.ins C dx [])) (fun v H2=>v=.non/\Q (.ref x) H2) E) :
  Ko (Ky X.prog X.w) X.A (call (.ref C) us) (EP X KK σ Q) X.xe s:=by
 have hq:=h (s.heap.objs.size+1) s.heap.objs.size (I.hok.fresh (Nat.le_succ _)) (I.hok.fresh (Ql _)) (Qu (Q1 _))
 have I2:=Inv.made (C:=C) I
 have r2:zP (V.ref (s.heap.objs.size+1)::(vs++dvs)) (Value.ref (s.heap.objs.size+1)::(us++ds)):=.cons rfl (r.append hd)
 have hl:(Value.ref (s.heap.objs.size+1)::us++ds).length=ps.length:=by
  have e:=r2.length
  rw [F.len _ _ _ _ hq] at e
  exact e.symm
 refine wpAny_call (make_map (f:=f) I.kIn M.makes M.init (beq_iff_eq.mp M.fn) (codeAny_mono (F.run _ X.stack _ _ ⟨Value.ref (s.heap.objs.size+1)::us,[]⟩ (Value.ref (s.heap.objs.size+1)::(us++ds)) _ _ E (hr.make C us [])
  (I2.env0.make C us []) (hb _ (Value.ref (s.heap.objs.size+1)::us) I2.kIn hl) r2 hq) fun r s' hq'=>?_))
 cases r with
 | error e=>exact hx KK σ _ _ e s' I2 hq'
 | ok fl =>
  cases fl with
  | ret u =>
   obtain ⟨v,H',I3,rv,ev,q3⟩:=I2.after hq'
   subst ev
   exact ⟨rv,⟨V.ref (s.heap.objs.size+1),H',I3,rfl,q3⟩⟩
  | next=>exact False.elim hq'
  | brk=>exact False.elim hq'
  | cont=>exact False.elim hq'
theorem pe_make (M:Mk X.K C f) (F:FnOk X.prog X.w X.K X.mg X.base CX k f fd ps sp) (hr:Room (k+1) X.A) (hg:Gl X x) (hm:X.mg x=some (.ref C)) (hb:yR X.K fd ps ds) (hd:zP dvs ds) (hx:JF CX X E)
  (ha:PA X (e::es) t) (hdb:(x == ("__debug__":Kw))=false:=by decide) (he:Ke (e::es) X.env=(false,Kz e X.env)::Ke es X.env:=by rfl) (hpl:(Kq pos (Ke es X.env)).any (·.1)=false:=by rfl) :
  PE X (.Call (.Name x p) (e::es) [] pos) (tMake C sp dvs E t):=by
 intro KK s σ H Q I h
 refine Q9 (Ja I hg hm ?_ hdb)
 refine PySem.W.callWith_K (h₀:=X.base) I.ok.mod.kin M.kp (thn (ha pos KK s σ H _ I h) fun us s1 ⟨vs,H1,I1,r,q⟩=>⟨I1.kIn,?_⟩) he hpl
 exact run_make M F hr hb hd hx I1 r q
end
section
variable {X:Cx} {CX:CXT} {k:Nat} {f C:Kc} {fd:Kh} {ps ks:List Kw} {sp:Sp} {E:XK} {x m:Kw} {p pos apos kpos:KB} {e o:Kv} {es:List Kv} {kws:List Keyword} {te ta:TE} {t tk:TA} {nm:Option Kw}
variable {g:List Ka->List Ka->List Ka} {gV:List V->List V->List V}
end
structure FnScope (N P:List Kw) (sc:Scope):Prop where
 kind:sc.kind=.function
 co:sc.isCoroutine=false
 gen:sc.isGenerator=false
 nd:N.Nodup
 pre:N.take P.length=P
 par:∀ x∈P,sc.names.lookup x=some .local\/sc.names.lookup x=some .cell
 nofree:∀ y∈sc.names,y.2≠.free
theorem bindL_out {kindOf:Kw->Option Ku} {x:Kw}:∀ {binds:List (Kw×Ka)} {m:Kw->Option Ka},(∀ v,(x,v)∉binds)->bindL kindOf binds m x=m x
 | [],_,_=>rfl
 | (n,v)::r,m,h=>by
  unfold bindL
  rw [bindL_out fun w hw=>h w (Qe _ hw)]
  split
  ·have:x≠n:=by rintro rfl;exact h v Qt
   simp [this]
  ·rfl
theorem bindC_out {kindOf:Kw->Option Ku} {x:Kw}:∀ {binds:List (Kw×Ka)} {m:Kw->Option Ka},(∀ v,(x,v)∉binds)->bindC kindOf binds m x=m x
 | [],_,_=>rfl
 | (n,v)::r,m,h=>by
  unfold bindC
  rw [bindC_out fun w hw=>h w (Qe _ hw)]
  split
  ·rfl
  ·have:x≠n:=by rintro rfl;exact h v Qt
   simp [this]
theorem bindL_get {kindOf:Kw->Option Ku} {x:Kw} {v:Ka}:∀ {P:List Kw} {vs:List Ka} {i:Nat} {m:Kw->Option Ka},P.Nodup->P[i]?=some x->vs[i]?=some v->kindOf x=some .local ->
  bindL kindOf (P.zip vs) m x=some v
 | [],_,_,_,_,h,_,_=>by simp at h
 | _::_,[],_,_,_,_,h,_=>by simp at h
 | p::P,w::vs,0,m,nd,h1,h2,hk=>by
  simp at h1 h2;subst h1;subst h2
  show bindL kindOf ((p,w)::P.zip vs) m p=_
  unfold bindL
  rw [bindL_out fun v hv=>(Qz.mp nd).1 (List.of_mem_zip hv).1,KR hk]
  simp
 | p::P,w::vs,i+1,m,nd,h1,h2,hk=>by
  show bindL kindOf ((p,w)::P.zip vs) m x=_
  unfold bindL
  exact bindL_get (i:=i) (Qz.mp nd).2 (by simpa using h1) (by simpa using h2) hk
theorem bindC_get {kindOf:Kw->Option Ku} {x:Kw} {v:Ka}:∀ {P:List Kw} {vs:List Ka} {i:Nat} {m:Kw->Option Ka},P.Nodup->P[i]?=some x->vs[i]?=some v->kindOf x≠some .local ->
  bindC kindOf (P.zip vs) m x=some v
 | [],_,_,_,_,h,_,_=>by simp at h
 | _::_,[],_,_,_,_,h,_=>by simp at h
 | p::P,w::vs,0,m,nd,h1,h2,hk=>by
  simp at h1 h2;subst h1;subst h2
  show bindC kindOf ((p,w)::P.zip vs) m p=_
  unfold bindC
  rw [bindC_out fun v hv=>(Qz.mp nd).1 (List.of_mem_zip hv).1,KS hk]
  simp
 | p::P,w::vs,i+1,m,nd,h1,h2,hk=>by
  show bindC kindOf ((p,w)::P.zip vs) m x=_
  unfold bindC
  exact bindC_get (i:=i) (Qz.mp nd).2 (by simpa using h1) (by simpa using h2) hk
def yi (N:List Kw) (vs:List V):St:=vs.map some++List.replicate (N.length - vs.length) none
def Jh (CX:CXT) (P:Ki) (w:Kk) (K:KC) (mg:Kw->Option Ka) (base:Kl) (N:List Kw) (qual:Kw) (scope:Scope) (f:Kc) (cd:Ka) (A:Kj) (outer:List Env) (s:Kb) (H:Hp) (E:XK):Cx where
 prog:=P
 w:=w
 K:=K
 mg:=mg
 base:=base
 A:=A.deeper (envOfC qual scope s.heap.objs.size f cd)
 N:=N
 s₀:=s
 Ub:=H
 env:=envOfC qual scope s.heap.objs.size f cd
 outer:=outer
 stack:=envOfC qual scope s.heap.objs.size f cd::outer
 ex:=[]
 calm:=true
 fn:=fun _=>true
 pn:=[]
 xe:=fun e s'=>Ko (Ky P w) (A.deeper (envOfC qual scope s.heap.objs.size f cd)) (leaving (envOfC qual scope s.heap.objs.size f cd) e) (fun _ s''=>CX outer H s E e s'') (fun e' s''=>CX outer H s E e' s'') s'
theorem cell_has {sc:Scope} {n:Nat} {x:Kw} (h:sc.names.lookup x=some .cell):∃ c,(cellsFrom n sc.names []).lookup x=some c:=by
 have q:=PySem.W.cellsFrom_some sc.names n [] (.inl h)
 exact Q2.mp q
theorem inv_start {CX:CXT} {P:Ki} {w:Kk} {K:KC} {mg:Kw->Option Ka} {base:Kl} {N ps:List Kw} {qual:Kw} {scope:Scope} {f:Kc} {cd:Ka} {A:Kj} {outer:List Env} {s s1:Kb} {H:Hp} {E:XK} {us:List Ka} {vs:List V}
  (S:FnScope N ps scope) (hd:A.handled=none) (e0:Env0 P w K mg base A outer s H) (hl:vs.length=ps.length) (r:zP vs us)
  (x:InCallC s s.heap.objs.size (bindL (envOfC qual scope s.heap.objs.size f cd).kindOf (ps.zip us) fun _=>none) (cellsFrom (s.heap.objs.size+1) scope.names []) (bindC (envOfC qual scope s.heap.objs.size f cd).kindOf (ps.zip us) fun _=>none) s1) :
  Inv (Jh CX P w K mg base N qual scope f cd A outer s H E) [] (yi N vs) H s1:=by
 have hpl:ps.length<=N.length:=by have:=congrArg List.length S.pre;rw [QW] at this;omega
 obtain ⟨h1,tk,rfl,hk⟩:=x.done
 have noA:∀ b:Kc,b∉(Jh CX P w K mg base N qual scope f cd A outer s H E).ex:=fun b z=>absurd (show b∈([]:List Kc) from z) (by simp)
 refine ⟨⟨e0.mod,S.kind,rfl,rfl,Ql _,fun y z c h1 h2=>?_,fun y hy=>?_,fun y c _ h=>?_,fun _=>hd,Around.frames_deeper e0.frames,.inr ⟨rfl,rfl⟩,fun b z=>absurd z (noA b),e0.bs,e0.bsz,fun b _ _=>noA b,fun b z=>absurd z (noA b),e0.funs,e0.frf,⟨_,_,rfl,S.gen,S.co,rfl,rfl⟩,e0.tree⟩,
  rfl,e0.bare,Un.kept hk,⟨_,x.toInCall.ns,fun i y v h1 h2 h3=>?_⟩,fun y c h=>⟨_,x.cell y c h⟩,e0.hok.fresh (Ql _),fun y c h=>?_,fun p hp=>absurd (show p∈([]:List (Kc×KA)) from hp) (by simp),e0.hok.kept hk,?_⟩
 ·exact name_of_addr x.apart (PySem.mem_of_lookup h1) (PySem.mem_of_lookup h2)
 ·have hy:scope.names.lookup y=some .cell\/scope.names.lookup y=some .free:=hy
  rcases hy with hy | hy
  ·exact cell_has hy
  ·exact absurd rfl (S.nofree _ (PySem.mem_of_lookup hy))
 ·exact Q6 (x.above y c (PySem.mem_of_lookup h))
 ·have hi:i<vs.length:=by
   unfold yi at h2
   by_cases hi:i<vs.length
   ·exact hi
   ·rw [QP (by simpa using hi)] at h2
    rw [Pp] at h2
    split at h2 <;> cases h2
  have ha:vs[i]?=some v:=by
   unfold yi at h2
   rw [QL (by simpa using hi),QO] at h2
   cases e:vs[i]? with
   | none=>rw [e] at h2;cases h2
   | some a=>rw [e] at h2;cases h2;rfl
  obtain ⟨u,hu,rv⟩:=r.get ha
  have hp:ps[i]?=some y:=by
   rw [<- S.pre,List.getElem?_take_of_lt (by omega)];exact h1
  have ndP:ps.Nodup:=by rw [<- S.pre];exact S.nd.sublist (List.take_sublist _ _)
  refine ⟨u,rv,?_⟩
  rcases S.par y (QV hp) with k | k
  ·exact .inl ⟨k,bindL_get ndP hp hu k⟩
  ·obtain ⟨c,e⟩:=cell_has (n:=s.heap.objs.size+1) k
   refine .inr ⟨.inl k,c,e,?_⟩
   have q:=x.cell y c e
   rw [bindC_get ndP hp hu (by show scope.names.lookup y≠_;rw [k];decide)] at q
   exact q
 ·exact e0.hok.fresh (Q6 (x.above y c (PySem.mem_of_lookup h)))
 ·unfold yi
  show _=N.length
  rw [Qj,Qg,List.length_replicate]
  omega
theorem fn_of {CX:CXT} {P:Ki} {w:Kk} {K:KC} {mg:Kw->Option Ka} {base:Kl} {k:Nat} {f:Kc} {name qual:Kw} {params:Arguments} {body:List Kx} {scope:Scope} {dV kV doc pm cdv ct oc:Ka} {an od:Option Kc}
  {osl:Array (Option Ka)} {N ps:List Kw} {sp:Sp} (lk:K.lookup f=some ⟨oc,od,.func (fnOf name qual params body scope dV kV doc pm an cdv ct),osl⟩) (hcd:codeIn K cdv qual=true) (S:FnScope N ps scope)
  (len:∀ vs H Q E,sp vs H Q E->vs.length=ps.length)
  (hbody:∀ (A:Kj) (outer:List Env) (s:Kb) (H:Hp) (vs:List V) (Q:VK) (E:XK),Room k (A.deeper (envOfC qual scope s.heap.objs.size f cdv))->sp vs H Q E ->
   ∃ t,PSs (Jh CX P w K mg base N qual scope f cdv A outer s H E) body t/\t { nx:=fun _ H'=>Q .non H',rt:=Q } (yi N vs) H) :
  FnOk P w K mg base CX (k+1) f (fnOf name qual params body scope dV kV doc pm an cdv ct) ps sp:=by
 refine ⟨len,fun A outer s H args us vs Q E hr e0 hb r hsp=>?_⟩
 have hl:=len _ _ _ _ hsp
 have KX:K.In s.heap:=e0.mod.kin.keeps fun b o e=>(e0.bs b o e).1
 have lim:s.heap.NoLimit:=e0.mod.nolimit.keeps fun b o e=>(e0.bs b o e).1
 have hkind:∀ y∈ps.zip us,scope.names.lookup y.1=some .local\/(scope.names.lookup y.1=some .cell/\((cellsFrom (s.heap.objs.size+1) scope.names []).lookup y.1).isSome=true):=fun ⟨n,v⟩ hy=>by
  rcases S.par n (List.of_mem_zip hy).1 with q | q
  ·exact .inl q
  ·exact .inr ⟨q,PySem.W.cellsFrom_some _ _ _ (.inl q)⟩
 refine codeAny_call_function hr.depth (KX _ _ lk) rfl S.co S.gen rfl (PySem.W.codeRec_of KX hcd) (hb _ _ _ _ ?_)
 refine wpAny_newFunctionEnv_cells S.kind hkind fun env he s1 x=>?_
 subst he
 refine ⟨lim.keeps x.toInCall.keep,codeAny_func ?_⟩
 obtain ⟨t,ht,hq⟩:=hbody A outer s H vs Q E (hr.deeper _) hsp
 have I:Inv (Jh CX P w K mg base N qual scope f cdv A outer s H E) [] (yi N vs) H s1:=inv_start S hr.hd e0 hl r x
 refine QR (ht [] s1 (yi N vs) H _ I hq) (fun fl s' hs=>?_) fun e s' hs=>hs
 have fin:∀ {σ':St} {H':Hp} {v:V} {u:Ka},Inv (Jh CX P w K mg base N qual scope f cdv A outer s H E) [] σ' H' s'->Zl v u->Q v H'->CE outer P w H s Q u s' :=
  fun {σ' H' v u} J rv q=>⟨v,H',J.os,J.bare,J.base,J.hok,rv,q⟩
 cases fl with
 | ret u =>
  obtain ⟨v,σ',H',J,rv,q⟩:=hs
  exact fin J rv q
 | next =>
  obtain ⟨σ',H',J,q⟩:=hs
  exact fin (v:=V.non) (u:=Value.none) J rfl q
 | brk =>
  obtain ⟨_,_,_,q⟩:=hs
  exact False.elim q
 | cont =>
  obtain ⟨_,_,_,q⟩:=hs
  exact False.elim q
end L2
namespace L2
open PySem PySem.Spec PyProof.Rows
section
variable {X:Cx} {x:Kw} {p pos:KB} {e:Kv} {es:List Kv} {t:TA} {id T:String} {r:List V->Hp->VK->Prop}
def tCB (r:List V->Hp->VK->Prop) (t:TA):TE:=fun σ H Q=>t σ H fun vs H1=>r vs H1 Q
theorem Yd (hc:Jq X (.builtin id) r) (hg:Gl X x) (hm:X.mg x=none) (hv:bootBuiltins x=some (.builtin id)) (ha:PA X (e::es) t) (hn:x≠"__name__":=by decide) (hdb:(x == ("__debug__":Kw))=false:=by decide)
  (he:Ke (e::es) X.env=(false,Kz e X.env)::Ke es X.env:=by rfl) (hpl:(Kq pos (Ke es X.env)).any (·.1)=false:=by rfl):PE X (.Call (.Name x p) (e::es) [] pos) (tCB r t):=by
 intro KK s σ H Q I h
 refine Q9 (jT I hg hm hv ?_ hn hdb)
 exact PyProof.Rows.callWith_builtin1 (thn (ha pos KK s σ H _ I h) fun us s1 ⟨vs,H1,I1,r1,q1⟩=>hc KK s1 σ H1 vs us Q I1 r1 q1) he hpl
theorem J8 (hc:Jq X (.type T) r) (hg:Gl X x) (hm:X.mg x=none) (hv:bootBuiltins x=some (.type T)) (ha:PA X (e::es) t) (hn:x≠"__name__":=by decide) (hdb:(x == ("__debug__":Kw))=false:=by decide)
  (he:Ke (e::es) X.env=(false,Kz e X.env)::Ke es X.env:=by rfl) (hpl:(Kq pos (Ke es X.env)).any (·.1)=false:=by rfl):PE X (.Call (.Name x p) (e::es) [] pos) (tCB r t):=by
 intro KK s σ H Q I h
 refine Q9 (jT I hg hm hv ?_ hn hdb)
 exact KI (thn (ha pos KK s σ H _ I h) fun us s1 ⟨vs,H1,I1,r1,q1⟩=>hc KK s1 σ H1 vs us Q I1 r1 q1) he hpl
end
end L2
namespace HT
open PySem PyProof.Rows
section
open PySem.SeqAt
open PySem.AutoSeq1 (wpAny_loadPart')
open PySem.MeetsSeq PySem.MeetsSeq2 PySem.MeetsSeq3
end
section
variable {prog:Ki} {w:Kk} {A:Kj} {E:Ka->Kb->Prop} {s:Kb}
theorem cat_tup {t b:Kc} {vs ws:List Ka} {Q:Ka->Kb->Prop} (ht:IsTup s.heap t vs.toArray) (hb:IsTup s.heap b ws.toArray) (hv:vs≠[])
  (h1:ws=[]->Q (.ref t) s) (h2:ws≠[]->Q (.ref s.heap.objs.size) { s with heap:=s.heap.push { cls:=.type "tuple",data:=.seq (vs++ws).toArray } })
  (hsz:vs.length+ws.length<=Kg):Ko (Ky prog w) A (binaryOp .Add (.ref t) (.ref b)) Q E s:=by
 obtain ⟨⟨cls,dd,data,sl⟩,ho,hc,n,hd⟩:=id ht
 obtain ⟨⟨cls2,dd2,data2,sl2⟩,ho2,hc2,n2,hd2⟩:=id hb
 simp only at hc hd hc2 hd2
 subst hc hd hc2 hd2
 have e:vs.toArray++ws.toArray=(vs++ws).toArray:=by simp
 by_cases hw:ws=[]
 ·exact concat_meets ⟨_,ho,rfl⟩ ⟨_,ho2,rfl⟩ noFill_tuple_add seq_tuple_add PySem.F.slot_tuple_add PySem.F.entry_tuple_add (PySem.F.args_tuple_add_2 _ _)
   (tuple_addW1 t b vs.toArray ws.toArray n n2 dd dd2 sl sl2 (by simpa using hv) (by simp [hw])) ⟨ho,ho2,h1 hw⟩
 ·refine concat_meets ⟨_,ho,rfl⟩ ⟨_,ho2,rfl⟩ noFill_tuple_add seq_tuple_add PySem.F.slot_tuple_add PySem.F.entry_tuple_add (PySem.F.args_tuple_add_2 _ _)
   (tuple_addW2 t b vs.toArray ws.toArray n n2 dd dd2 sl sl2 (by simpa using hv) (by simpa using hw) (by rw [Qk,Qk];exact hsz)) ⟨ho,ho2,?_⟩
  rw [e]
  exact h2 hw
def sIx (n d:Nat):Option Int->Nat
 | none=>d
 | some v=>if v<0 then (v+(n:Int)).toNat else min v.toNat n
theorem sIx_none (n d:Nat):sIx n d none=d:=rfl
theorem sIx_nat (n d k:Nat):sIx n d (some (k:Int))=min k n:=by
 show (if (k:Int)<0 then ((k:Int)+(n:Int)).toNat else min (k:Int).toNat n)=min k n
 rw [KS (by omega),Pe]
theorem sIx_le (n d:Nat) (hd:d<=n) (o:Option Int):sIx n d o<=n:=by
 cases o with
 | none=>exact hd
 | some v =>
  show (if v<0 then (v+(n:Int)).toNat else min v.toNat n)<=n
  by_cases hv:v<0
  ·rw [KR hv];omega
  ·rw [KS hv];exact Nat.min_le_right _ _
theorem clip_eq (v:Int) (n d:Nat):(if v<0 then max (v+(n:Int)) 0 else min v (n:Int))=((sIx n d (some v):Nat):Int):=by
 show (if v<0 then max (v+(n:Int)) 0 else min v (n:Int))=(((if v<0 then (v+(n:Int)).toNat else min v.toNat n):Nat):Int)
 by_cases hv:v<0
 ·simp only [KR hv];omega
 ·simp only [KS hv];omega
theorem adjust_gen (lo hi:Option Int) (n:Nat):Builtin.Slice.sliceAdjust lo hi 1 (n:Int)=(((sIx n 0 lo:Nat):Int),((sIx n n hi:Nat):Int)):=by
 have h1:¬ ((1:Int)<0):=by omega
 unfold Builtin.Slice.sliceAdjust
 simp only [h1,if_false]
 refine Prod.ext ?_ ?_
 ·cases lo with
  | none=>rfl
  | some v=>exact clip_eq v n 0
 ·cases hi with
  | none=>rfl
  | some v=>exact clip_eq v n n
theorem places_gen (i j:Nat):Builtin.Slice.slicePlaces (i:Int) (j:Int) 1=j - i:=by
 unfold Builtin.Slice.slicePlaces
 have h1:(1:Int) > 0:=by omega
 simp only [h1,if_true,Int.ediv_one]
 split <;> omega
theorem WJ {v:Ka} {o:Option Int} {Q:Option Int->Kb->Prop} (p:IsPart v o) (h:Q o s):Ko (Ky prog w) A (Builtin.Slice.slicePartIndex v) Q E s:=by
 cases p with
 | none=>exact slicePart_none h
 | int i t=>exact slicePart_int h
theorem J5 {sl:Kc} {vl vu:Ka} {lo hi:Option Int} {n:Nat} {Q:Int×Int×Nat->Kb->Prop} (hs:s.heap.IsSliceOf sl vl vu .none) (pl:IsPart vl lo) (pu:IsPart vu hi)
  (h:Q (((sIx n 0 lo:Nat):Int),1,sIx n n hi - sIx n 0 lo) s):Ko (Ky prog w) A (Builtin.Slice.sliceApplied (.ref sl) (pure (n:Int))) Q E s:=by
 obtain ⟨os,hos,hcs,hds⟩:=id hs
 unfold Builtin.Slice.sliceApplied Builtin.Slice.sliceFields
 refine Qa (Qa (QC hos hds (x:=vl) rfl (Qa (QC hos hds (x:=vu) rfl (Qa (QC hos hds (x:=.none) rfl (Qf ?_)))))))
 refine Qa (slicePart_none ?_)
 show Ko _ _ (if ((1:Int) == 0)=true then _ else _) _ _ s
 rw [KS (by decide)]
 refine Qa (WJ pl (Qa (WJ pu (Qa (Qf ?_)))))
 show Ko _ _ (match Builtin.Slice.sliceAdjust lo hi 1 (n:Int) with | (lo,hi)=>pure (lo,(1:Int),Builtin.Slice.slicePlaces lo hi 1)) _ _ s
 rw [adjust_gen lo hi n]
 show Ko _ _ (pure (((sIx n 0 lo:Nat):Int),(1:Int),Builtin.Slice.slicePlaces ((sIx n 0 lo:Nat):Int) ((sIx n n hi:Nat):Int) 1)) _ _ s
 rw [places_gen]
 exact Qf h
theorem pick_gen (xs:Array Ka) (i k:Nat):((List.range k).filterMap fun (m:Nat)=>xs[((i:Int)+(m:Int)*1).toNat]?).toArray=((xs.toList.drop i).take k).toArray:=by
 have e:(fun (m:Nat)=>xs[((i:Int)+(m:Int)*1).toNat]?)=fun m=>xs[i+m]?:=by
  funext m
  have:((i:Int)+(m:Int)*1).toNat=i+m:=by omega
  rw [this]
 rw [e]
 have:=pick_run xs i k
 rw [List.filterMap_map] at this
 have e2:((fun x=>xs[x]?)∘fun x=>i+x)=fun m=>xs[i+m]?:=rfl
 rw [e2] at this
 rw [this]
theorem getItem_tuple_cut {t sl:Kc} {items:Array Ka} {vl vu:Ka} {lo hi:Option Int} {Q:Ka->Kb->Prop} (ht:IsTup s.heap t items) (hs:s.heap.IsSliceOf sl vl vu .none) (pl:IsPart vl lo) (pu:IsPart vu hi)
  (hw:¬ (sIx items.size 0 lo=0/\sIx items.size items.size hi=items.size))
  (h:Q (.ref s.heap.objs.size) { s with heap:=s.heap.push { cls:=.type "tuple",data:=.seq ((items.toList.drop (sIx items.size 0 lo)).take (sIx items.size items.size hi - sIx items.size 0 lo)).toArray } })
  (hsz:items.size<=Kg):Ko (Ky prog w) A (getItem (.ref t) (.ref sl)) Q E s:=by
 have htake:sizeOk (.seq ((items.toList.drop (sIx items.size 0 lo)).take (sIx items.size items.size hi - sIx items.size 0 lo)).toArray):=by
  show ((items.toList.drop (sIx items.size 0 lo)).take (sIx items.size items.size hi - sIx items.size 0 lo)).toArray.size<=Kg
  rw [Qk,QW,List.length_drop,Array.length_toList]
  omega
 have hj:sIx items.size items.size hi<=items.size:=sIx_le _ _ (Ql _) hi
 obtain ⟨os,hos,hcs,hds⟩:=id hs
 have hTs:s.TypeIs (.ref sl) "slice":=⟨os,hos,hcs⟩
 unfold getItem
 try with_reducible refine Pf ?_
 first | refine Qa (Qf ?_) | skip
 refine Qa (wpAny_sequenceKey ht.typeIs (by decide) ?_)
 refine Qa (QU (name:=Str.ofString "__getitem__") ht.typeIs PyProof.Rows.slot_tuple_getitem
  (Q0 PyProof.Rows.slot_tuple_getitem ht.typeIs entry_tuple_getitem ?_ (args_tuple_getitem _ _)))
 show Ko _ _ (Builtin.Tuple.tupleItemsOf (.ref t) >>= _) _ _ s
 refine Qa (tupleItemsOf_ ht ?_)
 refine Qa (wpAny_typeOf hTs ?_)
 rw [KR (by decide)]
 refine Qa (J5 hs pl pu ?_)
 have hno:¬ ((((sIx items.size 0 lo:Nat):Int) == 0&&(1:Int) == 1&&(sIx items.size items.size hi - sIx items.size 0 lo) == items.size)=true):=by
  intro q
  rw [QK,QK] at q
  have q1:((sIx items.size 0 lo:Nat):Int)=0:=eq_of_beq q.1.1
  have q2:sIx items.size items.size hi - sIx items.size 0 lo=items.size:=eq_of_beq q.2
  exact hw ⟨by omega,by omega⟩
 show Ko _ _ (if (((sIx items.size 0 lo:Nat):Int) == 0&&(1:Int) == 1&&(sIx items.size items.size hi - sIx items.size 0 lo) == items.size)=true then _ else _) _ _ s
 rw [KS hno,pick_gen]
 first
  | exact Qa (m:=Builtin.Tuple.tupleExact _) (QS (Qf ⟨_,rfl,Qf h⟩) htake)
  | exact Qa (m:=Builtin.Tuple.tupleExact _) (QS (Qa (Qf (Qf ⟨_,rfl,Qf h⟩))) htake)
  | exact Qa (Qa (m:=Builtin.Tuple.tupleExact _) (QS (Qf (Qf ⟨_,rfl,Qf h⟩)) htake))
  | exact Qa (Qa (m:=Builtin.Tuple.tupleExact _) (QS (Qf ⟨_,rfl,Qf h⟩) htake))
end
end HT
namespace L2
open PySem PySem.Spec PyProof.Rows
abbrev TO:=St->Hp->(Option Int->Hp->Prop)->Prop
def PO (X:Cx) (e:Option Kv) (t:TO):Prop :=
 ∀ (KK:List (Kc×KA)) (s:Kb) (σ:St) (H:Hp) (Q:Option Int->Hp->Prop),Inv X KK σ H s->t σ H Q ->
  Ko (Ky X.prog X.w) X.A (evalPart e X.env) (fun u s'=>∃ o H',Inv X KK σ H' s'/\IsPart u o/\Q o H') X.xe s
def tNoPart:TO:=fun _ H Q=>Q none H
def tPart (t:TE):TO:=fun σ H Q=>t σ H fun x H1=>∃ i,x=.int i/\Q (some i) H1
section
variable {X:Cx} {e:Kv} {te:TE} {lo hi:Option Kv} {tl th:TO} {pos p2:KB}
theorem po_none:PO X none tNoPart:=by
 intro KK s σ H Q I h
 rw [evalPart_none]
 exact Qf ⟨none,H,I,.none,h⟩
theorem po_some (h:PE X e te):PO X (some e) (tPart te):=by
 intro KK s σ H Q I hw
 rw [evalPart_some]
 refine thn (h KK s σ H _ I hw) fun u s1 ⟨x,H1,I1,r1,q1⟩=>?_
 obtain ⟨i,rfl,q⟩:=q1
 obtain ⟨t,rfl⟩:=r1
 exact ⟨some i,H1,I1,.int i t,q⟩
def SlR (X:Cx) (r:V->Option Int->Option Int->Hp->VK->Prop):Prop :=
 ∀ (KK:List (Kc×KA)) (s:Kb) (σ:St) (H:Hp) (x:V) (v vl vu:Ka) (lo hi:Option Int) (sl:Kc) (Q:VK),Inv X KK σ H s->Zl x v->s.heap.IsSliceOf sl vl vu .none->IsPart vl lo->IsPart vu hi->r x lo hi H Q ->
  ∃ T id,typeLookup (.type T) "__getitem__"=pure (some (.builtin id))/\s.TypeIs v T/\Ko (Ky X.prog X.w) X.A (getItem v (.ref sl)) (EP X KK σ Q) X.xe s
def tSl (r:V->Option Int->Option Int->Hp->VK->Prop) (te:TE) (tl th:TO):TE:=fun σ H Q=>te σ H fun x H1=>tl σ H1 fun l H2=>th σ H2 fun u H3=>r x l u H3 Q
theorem pe_slice {r:V->Option Int->Option Int->Hp->VK->Prop} (hr:SlR X r) (he:PE X e te) (hl:PO X lo tl) (hu:PO X hi th):PE X (.Subscript e (.Slice lo hi none p2) pos) (tSl r te tl th):=by
 intro KK s σ H Q I h
 refine Subscript_ (thn (he KK s σ H _ I h) fun v s1 ⟨x,H1,I1,r1,q1⟩=>?_)
 refine wpAny_Slice (thn (hl KK s1 σ H1 _ I1 q1) fun vl s2 ⟨l,H2,I2,pl,q2⟩=>thn (hu KK s2 σ H2 _ I2 q2) fun vu s3 ⟨u,H3,I3,pu,q3⟩=>?_)
 rw [evalPart_none]
 refine Qf ?_
 have I4:Inv X KK σ H3 { s3 with heap:=s3.heap.push { cls:=.type "slice",data:=.fields #[vl,vu,.none] } }:=I3.kept (t':=s3.toks) fun b ob q=>Qb _ q
 obtain ⟨T,id,hT,ht,hg⟩:=hr KK { s3 with heap:=s3.heap.push { cls:=.type "slice",data:=.fields #[vl,vu,.none] } } σ H3 x v vl vu l u s3.heap.objs.size Q I4 r1 (Heap.IsSliceOf.new ..) pl pu q3
 show Ko (Ky X.prog X.w) X.A (subscriptTail e (.Slice lo hi none p2) v (.ref s3.heap.objs.size)) (EP X KK σ Q) X.xe { s3 with heap:=s3.heap.push { cls:=.type "slice",data:=.fields #[vl,vu,.none] } }
 exact tail_any (ops:=[.ref s3.heap.objs.size,v]) ht hT hg (by with_unfolding_all rfl)
def gj (xs:List V) (lo hi:Option Int):List V:=(xs.drop (HT.sIx xs.length 0 lo)).take (HT.sIx xs.length xs.length hi - HT.sIx xs.length 0 lo)
theorem wN (xs:List V) (lo hi:Option Int):(gj xs lo hi).length<=xs.length:=by
 unfold gj
 rw [QW,List.length_drop]
 omega
def rSlT (K:KC):V->Option Int->Option Int->Hp->VK->Prop:=fun x lo hi H Q=>∃ a xs,x=.ref a/\SqT K H a xs /\
 ¬ (HT.sIx xs.length 0 lo=0/\HT.sIx xs.length xs.length hi=xs.length)/\∀ p,H p=none->Q (.ref p) (upd H p (.tup (gj xs lo hi)))
theorem sl_tup:SlR X (rSlT X.K):=by
 intro KK s σ H x v vl vu lo hi sl Q I rx hs pl pu h
 obtain ⟨a,xs,rfl,hx,hw,q⟩:=h
 cases rx
 obtain ⟨KQ,r,ht,hz⟩:=I.tuple hx
 have hlen:KQ.toArray.size=xs.length:=by rw [Qk];exact r.length.symm
 refine ⟨"tuple",_,PyProof.Rows.slot_tuple_getitem.lookup,ht.typeIs,?_⟩
 refine HT.getItem_tuple_cut ht hs pl pu (by rw [hlen];exact hw) ?_ (by rw [hlen];exact hz)
 rw [hlen]
 refine ⟨.ref s.heap.objs.size,_,I.laid (t':=s.toks) (o:=.tup (gj xs lo hi)) (fun b ob q=>Qb _ q) (Ql _) ?_,rfl,q _ (I.hok.fresh (Ql _))⟩
 exact ⟨Qw (wN xs lo hi) hz,_,(r.drop (HT.sIx xs.length 0 lo)).take (HT.sIx xs.length xs.length hi - HT.sIx xs.length 0 lo),IsTup.new _ _⟩
def rCatT (K:KC):R2:=fun x y H Q=>∃ a b xs ys,x=.ref a/\y=.ref b/\SqT K H a xs/\SqT K H b ys/\xs≠[]/\xs.length+ys.length<=Kg /\
 (ys=[]->Q (.ref a) H)/\(ys≠[]->∀ p,H p=none->Q (.ref p) (upd H p (.tup (xs++ys))))
theorem zP.nil_iff {xs:List V} {us:List Ka} (r:zP xs us):us=[]↔xs=[]:=by
 cases r with
 | nil=>simp
 | cons _ _=>simp
theorem op_catT:OpR X (binaryOp .Add) (rCatT X.K):=by
 intro KK s σ H x y v u Q I rx ry h
 obtain ⟨a,b,xs,ys,rfl,rfl,ha,hb,hx,hz,q1,q2⟩:=h
 cases rx
 cases ry
 obtain ⟨KQ,r1,p1,_⟩:=I.tuple ha
 obtain ⟨its2,r2,p2,_⟩:=I.tuple hb
 refine HT.cat_tup p1 p2 (fun z=>hx (r1.nil_iff.mp z)) (fun z=>⟨.ref a,H,I,rfl,q1 (r2.nil_iff.mp z)⟩) (fun z=>?_) (by rw [<- r1.length,<- r2.length];exact hz)
 refine ⟨.ref s.heap.objs.size,_,I.laid (t':=s.toks) (o:=.tup (xs++ys)) (fun b ob q=>Qb _ q) (Ql _) ?_,rfl,q2 (fun w=>z (r2.nil_iff.mpr w)) _ (I.hok.fresh (Ql _))⟩
 exact ⟨by rw [Qj];exact hz,_,r1.append r2,IsTup.new _ _⟩
end
end L2
namespace L2
open PySem PySem.Spec PyProof.Rows
def ixN (n:Nat) (i:Int):Option Nat:=if 0<=i then (if i<n then some i.toNat else none) else if -(n:Int)<=i then some (i+n).toNat else none
def atI {α:Type} (xs:List α) (i:Int):Option α:=(ixN xs.length i).bind fun j=>xs[j]?
theorem ixN_seq {n:Nat} {i:Int} {j:Nat} (h:ixN n i=some j):seqIndex? i n=some j/\j<n/\-(n:Int)<=i/\i<n:=by
 unfold ixN at h
 by_cases h0:0<=i
 ·rw [KR h0] at h
  by_cases h1:i<n
  ·rw [KR h1] at h
   have e:i.toNat=j:=Option.some.inj h
   exact ⟨by rw [seqIndex_of h0 h1,e],by omega,by omega,h1⟩
  ·rw [KS h1] at h;cases h
 ·rw [KS h0] at h
  by_cases h1:-(n:Int)<=i
  ·rw [KR h1] at h
   have e:(i+n).toNat=j:=Option.some.inj h
   exact ⟨by rw [seqIndex_neg (by omega) h1,e],by omega,h1,by omega⟩
  ·rw [KS h1] at h;cases h
theorem atI_get {α:Type} {xs:List α} {i:Int} {v:α} (h:atI xs i=some v):∃ j,seqIndex? i xs.length=some j/\xs[j]?=some v/\j<xs.length/\-(xs.length:Int)<=i/\i<xs.length:=by
 unfold atI at h
 cases e:ixN xs.length i with
 | none=>rw [e] at h;cases h
 | some j =>
  rw [e] at h
  obtain ⟨h1,h2,h3,h4⟩:=ixN_seq e
  exact ⟨j,h1,h,h2,h3,h4⟩
theorem zw {α:Type} {xs:List α} {j:Nat} {v:α} (h:xs[j]?=some v):atI xs (j:Int)=some v:=by
 have hj:j<xs.length:=(Qh.mp h).1
 have e:ixN xs.length (j:Int)=some j:=by
  unfold ixN
  rw [KR (by omega),KR (by omega)];simp
 unfold atI;rw [e];exact h
def J2 (b:Kv):Prop:=∀ o i,subscripted b false o i=operate [o,i] (getItem o i)
def IxR (X:Cx) (r:R2):Prop :=
 ∀ (value slice:Kv) (KK:List (Kc×KA)) (s:Kb) (σ:St) (H:Hp) (x y:V) (v u:Ka) (Q:VK),Inv X KK σ H s->Zl x v->Zl y u->r x y H Q ->
  subscripted slice false v u=operate [v,u] (getItem v u)->Ko (Ky X.prog X.w) X.A (subscriptTail value slice v u) (EP X KK σ Q) X.xe s
def MtR (X:Cx) (id:String) (r:V->List V->Hp->VK->Prop):Prop :=
 ∀ (KK:List (Kc×KA)) (s:Kb) (σ:St) (H:Hp) (x:V) (xs:List V) (v:Ka) (us:List Ka) (Q:VK),Inv X KK σ H s->Zl x v->zP xs us->r x xs H Q ->
  Ko (Ky X.prog X.w) X.A (call (.builtin id) (v::us)) (EP X KK σ Q) X.xe s
section
variable {X:Cx} {a b:Kv} {ta tb:TE} {pos:KB}
theorem JQ {r:R2} (hr:IxR X r) (ha:PE X a ta) (hb:PE X b tb) (hs:J2 b):PE X (.Subscript a b pos) (tOp r ta tb):=by
 intro KK s σ H Q I h
 exact Subscript_ (binT ha hb I h fun v u s2 x y H2 I2 rx ry q=>hr a b KK s2 σ H2 x y v u Q I2 rx ry q (hs _ _))
def rIxL (K:KC):R2:=fun x y H Q=>∃ p xs i v,x=.ref p/\y=.int i/\SqL K H p xs/\atI xs i=some v/\Q v H
def rIxT (K:KC):R2:=fun x y H Q=>∃ p xs i v,x=.ref p/\y=.int i/\SqT K H p xs/\atI xs i=some v/\Q v H
theorem jq:IxR X (rIxL X.K):=by
 intro value slice KK s σ H x y v u Q I rx ry h hs
 obtain ⟨p,xs,i,z,rfl,rfl,hq,he,q⟩:=h
 cases rx
 obtain ⟨t,rfl⟩:=ry
 obtain ⟨KQ,r,pl,hz⟩:=I.list hq
 obtain ⟨j,h1,h2,h3,h4,h5⟩:=atI_get he
 obtain ⟨w,ew,rw'⟩:=r.get h2
 have hl:=r.length
 have hn:=line63
 have fin:EP X KK σ Q w s:=⟨z,H,I,rw',q⟩
 by_cases h0:0<=i
 ·have hj:i.toNat=j:=by
   rw [seqIndex_of h0 h5] at h1
   exact Option.some.inj h1
  exact item_listR pl.isList h0 (by omega) (by rw [hj];simpa using ew) fin hs
 ·have hj:(i+(KQ.toArray.size:Int)).toNat=j:=by
   rw [seqIndex_neg (by omega) h4] at h1
   rw [Qk,<- hl]
   exact Option.some.inj h1
  exact subscriptTail_builtinR (x:=w) pl.isList.typeIs slot_list_getitem.lookup
   (wpAny_getItem_list_neg (Q:=fun r s'=>r=w/\EP X KK σ Q r s') pl.isList (by omega) (by rw [Qk] <;> omega) (by omega) (by rw [hj];simpa using ew) ⟨rfl,fin⟩) hs
theorem ix_tup:IxR X (rIxT X.K):=by
 intro value slice KK s σ H x y v u Q I rx ry h hs
 obtain ⟨p,xs,i,z,rfl,rfl,hq,he,q⟩:=h
 cases rx
 obtain ⟨t,rfl⟩:=ry
 obtain ⟨KQ,r,pl,hz⟩:=I.tuple hq
 obtain ⟨j,h1,h2,h3,h4,h5⟩:=atI_get he
 obtain ⟨w,ew,rw'⟩:=r.get h2
 have hl:=r.length
 have hn:=line63
 have fin:EP X KK σ Q w s:=⟨z,H,I,rw',q⟩
 exact subscriptTail_builtinR (x:=w) pl.typeIs slot_tuple_getitem.lookup
  (getItem_tuple (j:=j) (Q:=fun r s'=>r=w/\EP X KK σ Q r s') pl (by omega) (by omega) (by rw [Qk,<- hl];exact h1) (by simpa using ew) ⟨rfl,fin⟩) hs
theorem mapSeq_set (KQ:List Ka) (n j:Nat) (u:Ka):Obj.mapSeq (·.setIfInBounds j u) { cls:=.type "list",data:=.seq KQ.toArray n }={ cls:=.type "list",data:=.seq (KQ.set j u).toArray n }:=by
 simp [Obj.mapSeq]
theorem Inv.lst {KK:List (Kc×KA)} {σ:St} {H:Hp} {s:Kb} {p:Kc} {xs:List V} (I:Inv X KK σ H s) (h:H p=some (.lst xs)) :
  ∃ (KQ:List Ka) (n:Nat),zP xs KQ/\s.heap.get? p=some { cls:=.type "list",data:=.seq KQ.toArray n }/\xs.length<=Kg:=by
 obtain ⟨z,KQ,n,r,e⟩:=I.hok p _ h
 exact ⟨KQ,n,r,e,z⟩
theorem Inv.lstUpd {KK:List (Kc×KA)} {σ:St} {H:Hp} {s:Kb} {p:Kc} {xs ys:List V} {KQ its':List Ka} {n n':Nat} {f:KA->KA} (I:Inv X KK σ H s) (h:H p=some (.lst xs))
  (ho:s.heap.get? p=some { cls:=.type "list",data:=.seq KQ.toArray n }) (hf:f { cls:=.type "list",data:=.seq KQ.toArray n }={ cls:=.type "list",data:=.seq its'.toArray n' }) (r:zP ys its') (hz:ys.length<=Kg) (t:Nat) :
  Inv X KK σ (upd H p (.lst ys)) { s with heap:=s.heap.update p f,toks:=t }:=by
 have e:(s.heap.update p f).get? p=some { cls:=.type "list",data:=.seq its'.toArray n' }:=by
  rw [QH f ho (by rw [hf] <;> rfl),hf]
 refine I.write (x:=p) (e:=p) (by rw [h];trivial) (.inl rfl) (fun b u hb q=>(QM _ _ (Ne.symm hb)).trans q) ⟨_,e⟩ ?_
 exact ⟨hz,its',n',r,e⟩
def rSetL:V->V->V->Hp->(Hp->Prop)->Prop:=fun o i v H Q=>∃ p xs k j,o=.ref p/\i=.int k/\H p=some (.lst xs)/\ixN xs.length k=some j/\Q (upd H p (.lst (xs.set j v)))
theorem set_list:PSet X rSetL:=by
 intro KK s σ H o i v ov iv u Q I ro ri rv h
 obtain ⟨p,xs,k,j,rfl,rfl,hp,hj,q⟩:=h
 cases ro
 obtain ⟨t,rfl⟩:=ri
 obtain ⟨KQ,n,r,ho,hz⟩:=I.lst hp
 obtain ⟨h1,h2,h3,h4⟩:=ixN_seq hj
 have hl:=r.length
 have hn:=line63
 have I':Inv X KK σ (upd H p (.lst (xs.set j v))) { s with heap:=s.heap.update p (Obj.mapSeq (·.setIfInBounds j u)) } :=
  I.lstUpd hp ho (mapSeq_set KQ n j u) (r.set rv j) (by rw [Qp];exact hz) s.toks
 by_cases h0:0<=k
 ·have hk:k.toNat=j:=by
   rw [seqIndex_of h0 h4] at h1
   exact Option.some.inj h1
  exact PySem.W.ki_setAt ho h0 (by omega) (by rw [Qk,<- hl];exact h4) (by rw [hk];exact ⟨_,I',q⟩)
 ·have hk:(k+(KQ.toArray.size:Int)).toNat=j:=by
   rw [seqIndex_neg (by omega) h3] at h1
   rw [Qk,<- hl]
   exact Option.some.inj h1
  exact PySem.W.ki_setBack ho (by omega) (by rw [Qk,<- hl];exact h3) (by omega) (by rw [hk];exact ⟨_,I',q⟩)
theorem slice_bounds (lo hi:Option Int) (n:Nat):(sliceBounds lo hi none n).1=((HT.sIx n 0 lo:Nat):Int)/\(sliceBounds lo hi none n).2.1=((HT.sIx n n hi:Nat):Int)/\(sliceBounds lo hi none n).2.2=1:=by
 refine ⟨?_,?_,rfl⟩
 ·cases lo with
  | none=>simp [sliceBounds,HT.sIx]
  | some i =>
   simp only [sliceBounds,HT.sIx,Option.getD_none,show (1:Int) > 0 by decide,if_true]
   by_cases h:i<0
   ·simp only [h,if_true] <;> omega
   ·simp only [h,if_false] <;> omega
 ·cases hi with
  | none=>simp [sliceBounds,HT.sIx]
  | some i =>
   simp only [sliceBounds,HT.sIx,Option.getD_none,show (1:Int) > 0 by decide,if_true]
   by_cases h:i<0
   ·simp only [h,if_true] <;> omega
   ·simp only [h,if_false] <;> omega
theorem slicePick_cut (KQ:List Ka) (lo hi:Option Int):slicePick KQ.toArray lo hi none=((KQ.drop (HT.sIx KQ.length 0 lo)).take (HT.sIx KQ.length KQ.length hi - HT.sIx KQ.length 0 lo)).toArray:=by
 obtain ⟨h1,h2,h3⟩:=slice_bounds lo hi KQ.toArray.size
 unfold slicePick
 rw [h1,h2,h3]
 simp only [sliceRange_one,pick_run,Qk] <;> rfl
def rSlL (K:KC):V->Option Int->Option Int->Hp->VK->Prop:=fun x lo hi H Q=>∃ a xs,x=.ref a/\SqL K H a xs/\∀ p,H p=none->Q (.ref p) (upd H p (.lst (gj xs lo hi)))
theorem sl_list:SlR X (rSlL X.K):=by
 intro KK s σ H x v vl vu lo hi sl Q I rx hs pl pu h
 obtain ⟨a,xs,rfl,hx,q⟩:=h
 cases rx
 obtain ⟨KQ,r,ht,hz⟩:=I.list hx
 have hlen:=r.length
 refine ⟨"list",_,slot_list_getitem.lookup,ht.isList.typeIs,?_⟩
 refine wpAny_getItem_list_slice ht.isList hs pl pu .none (by simp) ?_ (by rw [Qk] <;> omega)
 rw [slicePick_cut,<- hlen]
 refine ⟨.ref s.heap.objs.size,_,I.laid (t':=s.toks) (o:=.lst (gj xs lo hi)) (fun b ob q=>Qb _ q) (Ql _) ?_,rfl,q _ (I.hok.fresh (Ql _))⟩
 exact ⟨Qw (wN xs lo hi) hz,_,0,(r.drop (HT.sIx xs.length 0 lo)).take (HT.sIx xs.length xs.length hi - HT.sIx xs.length 0 lo),Qq _ rfl⟩
def wJ:V->Bool
 | .non=>true
 | .bl _=>true
 | .int _=>true
 | .str _=>true
 | _=>false
def eqV:V->V->Bool
 | .non,.non=>true
 | .bl a,.bl b=>a == b
 | .bl a,.int b=>(if a then 1 else 0) == b
 | .int a,.bl b=>a == (if b then 1 else 0)
 | .int a,.int b=>a == b
 | .str a,.str b=>a == b
 | _,_=>false
theorem eqAt_V {A:Kj} {s:Kb} {y x:V} {u v:Ka} (ry:Zl y u) (rx:Zl x v) (fy:wJ y=true) (fx:wJ x=true):SeqAt.EqAt A s u v (eqV y x):=by
 cases y with
 | non =>
  cases ry
  cases x with
  | non=>cases rx;exact SeqAt.EqAt.same _
  | bl b=>cases rx;exact SeqAt.EqAt.none_bool b
  | int b=>obtain ⟨t,rfl⟩:=rx;exact SeqAt.EqAt.none_int b t
  | str b=>obtain ⟨t,rfl⟩:=rx;exact SeqAt.EqAt.none_str b t
  | _=>exact absurd (show false=true from fx) Qi
 | bl a =>
  cases ry
  cases x with
  | non=>cases rx;exact SeqAt.EqAt.bool_none a
  | bl b=>cases rx;exact SeqAt.EqAt.bool_bool a b
  | int b=>obtain ⟨t,rfl⟩:=rx;exact SeqAt.EqAt.bool_int a b t
  | str b=>obtain ⟨t,rfl⟩:=rx;exact SeqAt.EqAt.bool_str a b t
  | _=>exact absurd (show false=true from fx) Qi
 | int a =>
  obtain ⟨t',rfl⟩:=ry
  cases x with
  | non=>cases rx;exact SeqAt.EqAt.int_none a t'
  | bl b=>cases rx;exact SeqAt.EqAt.int_bool a t' b
  | int b=>obtain ⟨t,rfl⟩:=rx;exact SeqAt.EqAt.int_int a t' b t
  | str b=>obtain ⟨t,rfl⟩:=rx;exact SeqAt.EqAt.int_str a t' b t
  | _=>exact absurd (show false=true from fx) Qi
 | str a =>
  obtain ⟨t',rfl⟩:=ry
  cases x with
  | non=>cases rx;exact SeqAt.EqAt.str_none a t'
  | bl b=>cases rx;exact SeqAt.EqAt.str_bool a t' b
  | int b=>obtain ⟨t,rfl⟩:=rx;exact SeqAt.EqAt.str_int a t' b t
  | str b=>obtain ⟨t,rfl⟩:=rx;exact SeqAt.EqAt.str_str a t' b t
  | _=>exact absurd (show false=true from fx) Qi
 | _=>exact absurd (show false=true from fy) Qi
def eqU (x:V) (u:Ka):Bool:=match u with
 | .none=>eqV .non x
 | .bool b=>eqV (.bl b) x
 | .int i _=>eqV (.int i) x
 | .str z _=>eqV (.str z) x
 | _=>false
theorem eqU_of {x y:V} {u:Ka} (r:Zl y u) (f:wJ y=true):eqU x u=eqV y x:=by
 cases y with
 | non=>cases r;rfl
 | bl b=>cases r;rfl
 | int i=>obtain ⟨t,rfl⟩:=r;rfl
 | str z=>obtain ⟨t,rfl⟩:=r;rfl
 | _=>exact absurd (show false=true from f) Qi
theorem any_eqU {x:V}:∀ {xs:List V} {us:List Ka},zP xs us->xs.all wJ=true->us.any (eqU x)=xs.any fun y=>eqV y x
 | _,_,.nil,_=>rfl
 | y::xs,u::us,.cons r t,f=>by
  rw [List.all_cons,QK] at f
  rw [Pm,Pm,eqU_of r f.1,any_eqU t f.2]
theorem W5 {A:Kj} {s:Kb} {x:V} {v:Ka} (rx:Zl x v) (fx:wJ x=true):∀ {xs:List V} {us:List Ka},zP xs us->xs.all wJ=true->∀ u∈us,SeqAt.EqAt A s u v (eqU x u)
 | _,_,.nil,_=>fun u hu=>by cases hu
 | y::xs,u::us,.cons r t,f=>fun u' hu=>by
  rw [List.all_cons,QK] at f
  rcases Qc.mp hu with rfl | hu
  ·rw [eqU_of r f.1];exact eqAt_V r rx f.1 fx
  ·exact W5 rx fx t f.2 u' hu
def inV (x:V) (xs:List V):Bool:=xs.any fun y=>eqV y x
def rIn (K:KC) (neg:Bool):R2:=fun x y H Q=>∃ p xs,y=.ref p/\(SqL K H p xs\/SqT K H p xs)/\wJ x=true/\xs.all wJ=true/\Q (.bl (if neg then !inV x xs else inV x xs)) H
theorem op_in_seq:OpR X (Km .In) (rIn X.K false):=by
 intro KK s σ H x y v u Q I rx ry h
 obtain ⟨p,xs,rfl,hq,fx,fs,q⟩:=h
 cases ry
 rcases hq with hq | hq
 ·obtain ⟨KQ,r,pl,hz⟩:=I.list hq
  refine SeqAt.in_listAt (eqU x) pl.isList (fun w hw=>W5 rx fx r fs w (by simpa using hw)) ⟨.bl _,H,I,rfl,?_⟩
  rw [show KQ.toArray.any (eqU x)=KQ.any (eqU x) by simp,any_eqU r fs]
  exact q
 ·obtain ⟨KQ,r,pl,hz⟩:=I.tuple hq
  refine SeqAt.in_tupleAt (eqU x) pl (fun w hw=>W5 rx fx r fs w (by simpa using hw)) ⟨.bl _,H,I,rfl,?_⟩
  rw [show KQ.toArray.any (eqU x)=KQ.any (eqU x) by simp,any_eqU r fs]
  exact q
theorem jv:Jq X (.builtin "len") (fun xs H Q=>∃ p ys,xs=[.ref p]/\(SqL X.K H p ys\/SqT X.K H p ys)/\Q (.int ys.length) H):=by
 intro KK s σ H xs us Q I r h
 obtain ⟨p,ys,rfl,hq,q⟩:=h
 obtain ⟨u,rfl,rx⟩:=vals1 r
 cases rx
 have hn:=line63
 rcases hq with hq | hq
 ·obtain ⟨KQ,r',pl,hz⟩:=I.list hq
  have hlen:=r'.length
  exact Calls.call_len_list pl.isList (by simp only [Qk] <;> omega) ⟨.int ys.length,H,I.tok _,⟨s.toks+1,by rw [Qk,hlen]⟩,q⟩
 ·obtain ⟨KQ,r',pl,hz⟩:=I.tuple hq
  have hlen:=r'.length
  exact len_tuple pl (by simp only [Qk] <;> omega) ⟨.int ys.length,H,I.tok _,⟨s.toks+1,by rw [Qk,hlen]⟩,q⟩
theorem call_list_of:Jq X (.type "list") (fun xs H Q=>∃ p ys,xs=[.ref p]/\(SqL X.K H p ys\/SqT X.K H p ys)/\∀ l,H l=none->Q (.ref l) (upd H l (.lst ys))):=by
 intro KK s σ H xs us Q I r h
 obtain ⟨p,ys,rfl,hq,q⟩:=h
 obtain ⟨u,rfl,rx⟩:=vals1 r
 cases rx
 have fin:∀ (KQ:List Ka),zP ys KQ->ys.length<=Kg->∀ (h':Kl) (c':Nat),(∀ b o',s.heap.get? b=some o'->h'.get? b=some o') ->
   h'.get? s.heap.objs.size=some { cls:=.type "list",dict:=none,data:=.seq KQ.toArray c',slots:=#[] }->EP X KK σ Q (.ref s.heap.objs.size) { s with heap:=h' }:=fun KQ r' hz h' c' kp e =>
  ⟨.ref s.heap.objs.size,_,I.laid (t':=s.toks) kp (Ql _) (show Z9 X.prog X.w _ h' _ (.lst ys) from ⟨hz,KQ,c',r',e⟩),rfl,q _ (I.hok.fresh (Ql _))⟩
 rcases hq with hq | hq
 ·obtain ⟨KQ,r',pl,hz⟩:=I.list hq
  have hlen:=r'.length
  obtain ⟨o,ho,hc,n,hd⟩:=pl.isList
  exact call_list_seq p (.inl rfl) ho hc hd (fun h' c' kp e=>fin KQ r' hz h' c' kp e) (by simp only [Qk] <;> omega)
 ·obtain ⟨KQ,r',pl,hz⟩:=I.tuple hq
  have hlen:=r'.length
  obtain ⟨o,ho,hc,n,hd⟩:=pl
  exact call_list_seq p (.inr rfl) ho hc hd (fun h' c' kp e=>fin KQ r' hz h' c' kp e) (by simp only [Qk] <;> omega)
theorem call_tuple_of:Jq X (.type "tuple") (fun xs H Q=>∃ p ys,xs=[.ref p]/\((SqL X.K H p ys/\∀ l,H l=none->Q (.ref l) (upd H l (.tup ys)))\/(SqT X.K H p ys/\Q (.ref p) H))):=by
 intro KK s σ H xs us Q I r h
 obtain ⟨p,ys,rfl,h⟩:=h
 obtain ⟨u,rfl,rx⟩:=vals1 r
 cases rx
 rcases h with ⟨hq,q⟩ | ⟨hq,q⟩
 ·obtain ⟨KQ,r',pl,hz⟩:=I.list hq
  have hlen:=r'.length
  refine call_tuple_list pl.isList (fun h' kp=>?_) (by simp only [Qk] <;> omega)
  have I1:Inv X KK σ H { s with heap:=h' }:=I.kept (t':=s.toks) kp
  have I2:Inv X KK σ (upd H h'.objs.size (.tup ys)) { s with heap:=h'.push { cls:=.type "tuple",data:=.seq KQ.toArray } } :=
   I1.laid (t':=s.toks) (fun b o e=>Qb _ e) (Ql _) (show Z9 X.prog X.w _ _ _ (.tup ys) from ⟨hz,KQ,r',IsTup.new _ _⟩)
  exact ⟨.ref h'.objs.size,_,I2,rfl,q _ (I1.hok.fresh (Ql _))⟩
 ·obtain ⟨KQ,r',pl,hz⟩:=I.tuple hq
  exact call_tuple_same pl ⟨.ref p,H,I,rfl,q⟩
def tyV (K:KC) (T:String) (x:V) (H:Hp):Prop:=match x with
 | .str _=>T="str"
 | .int _=>T="int"
 | .ref p=>(T="list"/\∃ xs,SqL K H p xs)\/(T="tuple"/\∃ o,K.lookup p=some o/\o.cls=.type "tuple"/\o.dict=none) \/
   (T="dict"/\((∃ KP,H p=some (.dK KP))\/∃ KP,H p=some (.dT KP)))\/(T="set"/\∃ S n,H p=some (.set S n))
 | _=>False
theorem tyV_is {KK:List (Kc×KA)} {σ:St} {H:Hp} {s:Kb} {T:String} {x:V} {v:Ka} (I:Inv X KK σ H s) (r:Zl x v) (ty:tyV X.K T x H) :
  s.TypeIs v T/\∀ a,v=.ref a->∃ ob,s.heap.get? a=some ob/\ob.dict=none:=by
 cases x with
 | str z =>
  obtain ⟨t,rfl⟩:=r
  cases (show T="str" from ty)
  exact ⟨typeIs_str s z t,fun _ e=>nomatch e⟩
 | int i =>
  obtain ⟨t,rfl⟩:=r
  cases (show T="int" from ty)
  exact ⟨typeIs_int s i t,fun _ e=>nomatch e⟩
 | ref p =>
  cases r
  rcases ty with ⟨rfl,xs,hq⟩ | ⟨rfl,o,hk,hc,hd⟩ | ⟨rfl,hk⟩ | ⟨rfl,S,n,hk⟩
  ·obtain ⟨KQ,_,pl,_⟩:=I.list hq
   refine ⟨pl.isList.typeIs,fun a e=>?_⟩
   cases e
   obtain ⟨o,n,e,c,hd,_⟩:=pl
   exact ⟨o,e,hd⟩
  ·refine ⟨⟨o,I.kIn p o hk,hc⟩,fun a e=>?_⟩
   cases e
   exact ⟨o,I.kIn _ o hk,hd⟩
  ·have z:∃ o,s.heap.get? p=some o/\o.ExactDict:=by
    rcases hk with ⟨KP,hk⟩ | ⟨KP,hk⟩
    ·obtain ⟨_,_,_,_,o,_,_,e,ex,_⟩:=I.hok p _ hk
     exact ⟨o,e,ex⟩
    ·obtain ⟨_,_,_,_,o,_,_,e,ex,_⟩:=I.hok p _ hk
     exact ⟨o,e,ex⟩
   obtain ⟨o,e,ex⟩:=z
   refine ⟨⟨o,e,ex.1⟩,fun a e2=>?_⟩
   cases e2
   exact ⟨o,e,ex.2.1⟩
  ·obtain ⟨o,_,_,_,e,ex,_⟩:=I.hok p _ hk
   refine ⟨⟨o,e,ex.1⟩,fun a e2=>?_⟩
   cases e2
   exact ⟨o,e,ex.2.1⟩
 | _=>exact False.elim ty
def tBM0 (K:KC) (T:String) (r:V->List V->Hp->VK->Prop) (to:TE):TE:=fun σ H Q=>to σ H fun x H1=>tyV K T x H1/\r x [] H1 Q
def tBM (K:KC) (T:String) (r:V->List V->Hp->VK->Prop) (to:TE) (t:TA):TE:=fun σ H Q=>to σ H fun x H1=>tyV K T x H1/\t σ H1 fun xs H2=>r x xs H2 Q
variable {o e:Kv} {es:List Kv} {to:TE} {t:TA} {name:Kw} {apos cpos:KB} {T id:String} {r:V->List V->Hp->VK->Prop}
theorem pe_bm0 (pa:PlainAttrs T) (slot:Slot T name id) (hty:typeOf (.builtin id)=pure (.type "method_descriptor")) (hm:MtR X id r) (ho:PE X o to)
  (hbase:Kp o name X.env (Kz o X.env)=Kz o X.env:=by rfl) (hline:(apos.endLine == cpos.line)=true:=by rfl):PE X (.Call (.Attribute o name apos) [] [] cpos) (tBM0 X.K T r to):=by
 intro KK s σ H Q I h
 refine wpAny_Call_method0_late hbase hline (thn (ho KK s σ H _ I h) fun v s1 ⟨x,H1,I1,r1,ty,q1⟩=>?_)
 obtain ⟨h1,h2⟩:=tyV_is I1 r1 ty
 exact ⟨T,id,pa,slot,hty,h1,h2,Calls.callWith_builtin rfl (PySem.evalArgs_none (hm KK s1 σ H1 x [] v [] Q I1 r1 .nil q1))⟩
theorem pe_bm (pa:PlainAttrs T) (slot:Slot T name id) (hty:typeOf (.builtin id)=pure (.type "method_descriptor")) (hm:MtR X id r) (ho:PE X o to) (ha:PA X (e::es) t)
  (hbase:Kp o name X.env (Kz o X.env)=Kz o X.env:=by rfl)
  (hfew:((Kq cpos (Ke (e::es) X.env)).all (fun x=>!x.1)&&(Kr cpos (Ks [] X.env)).all (fun x=>x.1.isSome)
   && decide ((e::es).length+([]:List Keyword).length+(if ([]:List Keyword).isEmpty then 0 else 1)<30))=true:=by rfl)
  (hline:(apos.endLine == cpos.line)=true:=by rfl) (hs:Ke (e::es) X.env=(false,Kz e X.env)::Ke es X.env:=by rfl) (hplain:(Kq cpos (Ke es X.env)).any (·.1)=false:=by rfl) :
  PE X (.Call (.Attribute o name apos) (e::es) [] cpos) (tBM X.K T r to t):=by
 intro KK s σ H Q I h
 refine wpAny_Call_method_late hbase hfew hline rfl (thn (ho KK s σ H _ I h) fun v s1 ⟨x,H1,I1,r1,ty,q1⟩=>?_)
 obtain ⟨h1,h2⟩:=tyV_is I1 r1 ty
 refine ⟨T,id,pa,slot,hty,h1,h2,?_⟩
 have hA:=ha cpos KK s1 σ H1 _ I1 q1
 rw [hs] at hA ⊢
 refine Calls.callWith_builtin (by show (false||(Kq cpos (Ke es X.env)).any (·.1))=false;rw [hplain] <;> rfl) (Calls.evalArgs_plain ?_)
 exact thn hA fun us s2 ⟨vs,H2,I2,r2,q2⟩=>hm KK s2 σ H2 x vs v us Q I2 r1 r2 q2
end
end L2
namespace L2
open PySem PySem.Spec PyProof.Rows
def MtM (X:Cx) (id:String) (r:V->List V->Hp->VK->Prop):Prop :=
 ∀ (KK:List (Kc×KA)) (s:Kb) (σ:St) (H:Hp) (x:V) (xs:List V) (v:Ka) (us:List Ka) (Q:VK),Inv X KK σ H s->Zl x v->zP xs us->r x xs H Q ->
  Ko (Ky X.prog X.w) X.A (call (.builtin id) (v::us)) (EP X KK σ Q) X.xe s
theorem zP.one:∀ {x:V} {us:List Ka},zP [x] us->∃ u,us=[u]/\Zl x u
 | _,_,.cons r .nil=>⟨_,rfl,r⟩
theorem zP.zero:∀ {us:List Ka},zP [] us->us=[]
 | _,.nil=>rfl
theorem zP.dropLast {xs:List V} {us:List Ka} (h:zP xs us):zP xs.dropLast us.dropLast:=by
 induction h with
 | nil=>exact .nil
 | cons r t ih =>
  cases t with
  | nil=>exact .nil
  | cons q t'=>exact .cons r ih
theorem zP.eraseIdx:∀ {xs:List V} {us:List Ka} (i:Nat),zP xs us->zP (xs.eraseIdx i) (us.eraseIdx i)
 | _,_,_,.nil=>.nil
 | _,_,0,.cons _ t=>t
 | _,_,i+1,.cons r t=>.cons r (zP.eraseIdx i t)
theorem zP.rep {xs:List V} {us:List Ka} (h:zP xs us):∀ k:Nat,zP (List.replicate k xs).flatten (List.replicate k us).flatten
 | 0=>.nil
 | k+1=>by
  rw [QN,QN,QY,QY]
  exact zP.append h (zP.rep h k)
theorem erase_last {α:Type} (l:List α):l.eraseIdx (l.length - 1)=l.dropLast:=by
 induction l with
 | nil=>rfl
 | cons a r ih =>
  cases r with
  | nil=>rfl
  | cons b r =>
   have e:(a::b::r).length - 1=((b::r).length - 1)+1:=by
    have h1:(a::b::r).length=r.length+2:=rfl
    have h2:(b::r).length=r.length+1:=rfl
    omega
   rw [e,List.eraseIdx_cons_succ,ih]
   all_goals rfl
theorem len_erase {α:Type}:∀ (l:List α) (i:Nat),(l.eraseIdx i).length<=l.length
 | [],_=>Ql _
 | _::_,0=>Nat.le_succ _
 | _::r,i+1=>Nat.succ_le_succ (len_erase r i)
theorem wo (KQ:List Ka):∀ (k:Nat) (acc:List Ka),
  List.foldl (fun x1 x2=>x1++x2) acc.toArray (List.replicate k KQ.toArray)=(acc++(List.replicate k KQ).flatten).toArray
 | 0,acc=>by simp
 | k+1,acc=>by
  have e:acc.toArray++KQ.toArray=(acc++KQ).toArray:=by simp
  have e2:(acc++KQ)++(List.replicate k KQ).flatten=acc++(List.replicate (k+1) KQ).flatten:=by
   rw [QN,QY,List.append_assoc]
  rw [<- e2,<- wo KQ k (acc++KQ),<- e,QN,PY]
section
variable {X:Cx} {KK:List (Kc×KA)} {σ:St} {H:Hp} {s:Kb} {l b:Kc} {xs ys zs:List V}
theorem Inv.lset {KQ its':List Ka} {n:Nat} {f:Array Ka->Array Ka} {t':Nat} (I:Inv X KK σ H s) (hH:H l=some (.lst xs))
  (e:s.heap.get? l=some { cls:=.type "list",data:=.seq KQ.toArray n }) (hf:f KQ.toArray=its'.toArray) (hv:zP ys its') (hz:ys.length<=Kg) :
  Inv X KK σ (upd H l (.lst ys)) { s with heap:=s.heap.update l (Obj.mapSeq f),toks:=t' }:=by
 have q:=PySem.IsL.update e f
 rw [hf] at q
 refine I.write (x:=l) (e:=l) (by rw [hH];exact trivial) (.inl rfl) (fun b' u hb hu=>(QM s.heap (Obj.mapSeq f) (Ne.symm hb)).trans hu) ⟨_,q⟩ ?_
 exact ⟨hz,its',_,hv,q⟩
theorem Inv.lnew {KQ:List Ka} {t':Nat} (I:Inv X KK σ H s) (hv:zP ys KQ) (hz:ys.length<=Kg) :
  Inv X KK σ (upd H s.heap.objs.size (.lst ys)) { s with heap:=s.heap.push { cls:=.type "list",data:=.seq KQ.toArray },toks:=t' } :=
 I.laid (fun _ _ q=>Qb _ q) (Ql _) ⟨hz,KQ,0,hv,Qq _ rfl⟩
theorem Inv.fresh (I:Inv X KK σ H s):H s.heap.objs.size=none:=I.hok.fresh (Ql _)
theorem Inv.lstM (I:Inv X KK σ H s) (hH:H l=some (.lst xs)):xs.length<=Kg/\∃ (KQ:List Ka) (n:Nat),zP xs KQ/\xs.length=KQ.length/\s.heap.get? l=some { cls:=.type "list",data:=.seq KQ.toArray n }:=by
 obtain ⟨z,KQ,n,r,e⟩:=I.hok l _ hH
 exact ⟨z,KQ,n,r,r.length,e⟩
theorem notLongL {n:Nat} (h:n<=Kg):Builtin.List.listTooLong n=false:=by
 unfold Builtin.List.listTooLong
 exact KW (by omega)
end
section
variable {X:Cx}
def Ya:V->List V->Hp->VK->Prop:=fun x vs H Q=>∃ l xs y,x=.ref l/\vs=[y]/\H l=some (.lst xs)/\xs.length<Kg/\Q .non (upd H l (.lst (xs++[y])))
theorem Y6:MtM X "list.append" Ya:=by
 intro KK s σ H x vs v us Q I rx rv h
 obtain ⟨l,xs,y,rfl,rfl,hH,hz,q⟩:=h
 cases rx
 obtain ⟨u,rfl,ru⟩:=rv.one
 obtain ⟨z,KQ,n,r,hl,e⟩:=I.lstM hH
 refine call_meets F.slot_list_append ⟨_,e,rfl⟩ F.entry_list_append (F.args_list_append_2 _ _) (PySem.list_append l KQ.toArray n u (by rw [Qk];omega)) ⟨e,?_⟩
 refine ⟨.non,_,I.lset (its':=KQ++[u]) hH e (by simp) (r.append (.cons ru .nil)) ?_,rfl,q⟩
 rw [Qj,Pr]
 omega
def rPop:V->List V->Hp->VK->Prop:=fun x vs H Q=>∃ l xs y,x=.ref l/\vs=[]/\H l=some (.lst xs)/\xs[xs.length - 1]?=some y/\Q y (upd H l (.lst xs.dropLast))
theorem mt_pop:MtM X "list.pop" rPop:=by
 intro KK s σ H x vs v us Q I rx rv h
 obtain ⟨l,xs,y,rfl,rfl,hH,hy,q⟩:=h
 cases rx
 have hus:=rv.zero
 subst hus
 obtain ⟨z,KQ,n,r,hl,e⟩:=I.lstM hH
 obtain ⟨u,hu,ru⟩:=r.get hy
 have hy':KQ.toArray[KQ.toArray.size - 1]?=some u:=by
  show KQ.toArray[KQ.length - 1]?=some u
  rw [<- Array.getElem?_toList,<- hl]
  exact hu
 refine call_meets F.slot_list_pop ⟨_,e,rfl⟩ F.entry_list_pop (F.args_list_pop_1 _) (MeetsSeq.list_pop_last l KQ.toArray n u hy' (by rw [Qk];omega)) ⟨e,?_⟩
 refine ⟨y,_,I.lset (its':=KQ.dropLast) hH e ?_ r.dropLast ?_,ru,q⟩
 ·show KQ.toArray.eraseIdxIfInBounds (KQ.toArray.size - 1)=KQ.dropLast.toArray
  rw [Qk,List.eraseIdxIfInBounds_toArray,erase_last]
 ·rw [List.length_dropLast]
  omega
def rPopAt:V->List V->Hp->VK->Prop:=fun x vs H Q=>∃ l xs i k y,x=.ref l/\vs=[.int i]/\H l=some (.lst xs)/\-(2 ^ 63)<=i/\i<2 ^ 63/\seqIndex? i xs.length=some k/\xs[k]?=some y/\Q y (upd H l (.lst (xs.eraseIdx k)))
theorem mt_popAt:MtM X "list.pop" rPopAt:=by
 intro KK s σ H x vs v us Q I rx rv h
 obtain ⟨l,xs,i,k,y,rfl,rfl,hH,h1,h2,hk,hy,q⟩:=h
 cases rx
 obtain ⟨u,rfl,ru⟩:=rv.one
 obtain ⟨t,rfl⟩:=ru
 obtain ⟨z,KQ,n,r,hl,e⟩:=I.lstM hH
 obtain ⟨w,hw,rw'⟩:=r.get hy
 refine call_meets F.slot_list_pop ⟨_,e,rfl⟩ F.entry_list_pop (F.args_list_pop_2 _ _)
  (MeetsSeq.list_pop_at l KQ.toArray n i t k w (fitsIndex_both h1 h2) (by rw [Qk,<- hl];exact hk) (by rw [<- Array.getElem?_toList];exact hw) (by rw [Qk];omega)) ⟨e,?_⟩
 refine ⟨y,_,I.lset (its':=KQ.eraseIdx k) hH e ?_ (r.eraseIdx k) ?_,rw',q⟩
 ·show KQ.toArray.eraseIdxIfInBounds k=(KQ.eraseIdx k).toArray
  rw [List.eraseIdxIfInBounds_toArray]
 ·have:=len_erase xs k
  omega
def rRep:R2:=fun x y H Q=>∃ l k xs,x=.ref l/\y=.int k/\H l=some (.lst xs)/\-(2 ^ 63)<=k/\k<2 ^ 63/\xs.length*k.toNat<=Kg /\
 ∀ p,H p=none->Q (.ref p) (upd H p (.lst (List.replicate k.toNat xs).flatten))
theorem len_rep {α:Type} (xs:List α) (k:Nat):(List.replicate k xs).flatten.length=k*xs.length:=by
 induction k with
 | zero=>simp
 | succ k ih=>rw [QN,QY,Qj,ih,Nat.succ_mul,Nat.add_comm]
theorem op_rep:OpR X (binaryOp .Mult) rRep:=by
 intro KK s σ H x y v u Q I rx ry h
 obtain ⟨l,k,xs,rfl,rfl,hH,h1,h2,hz,q⟩:=h
 cases rx
 obtain ⟨t,rfl⟩:=ry
 obtain ⟨z,KQ,n,r,hl,e⟩:=I.lstM hH
 have hlen:KQ.toArray.size*k.toNat<=Kg:=by rw [Qk,<- hl];exact hz
 have hcap:¬ KQ.toArray.size*k.toNat > (2 ^ 63 - 1) / 8:=by
  have:(Kg:Nat)<=(2 ^ 63 - 1) / 8:=by decide
  omega
 have hfit:¬ (!Builtin.List.listFitsIndex k)=true:=by
  rw [fitsIndex_both h1 h2]
  exact Qi
 have hlong:¬ Builtin.List.listTooLong (KQ.toArray.size*k.toNat)=true:=by
  rw [notLongL hlen]
  exact Qi
 have hnew:List.foldl (fun x1 x2=>x1++x2) #[] (List.replicate (if KQ.toArray.isEmpty=true then 0 else k.toNat) KQ.toArray)=(List.replicate k.toNat KQ).flatten.toArray:=by
  have f0:∀ m:Nat,List.foldl (fun x1 x2=>x1++x2) #[] (List.replicate m KQ.toArray)=(List.replicate m KQ).flatten.toArray:=fun m=>by
   have:=wo KQ m []
   rw [Pn] at this
   exact this
  rw [f0]
  cases KQ with
  | nil=>simp
  | cons a r'=>rw [KS (by simp)]
 refine wpAny_binaryOp_repeat_ref (T:="list") (U:="int") (by decide) ⟨_,e,rfl⟩ (fun s'=>typeIs_int s' k t) noFill_list_mul F.fills_int_mul F.slot_int_rmul repeat_list F.slot_int_index.lookup
  (call_meets F.slot_int_rmul (typeIs_int s k t) F.entry_int_rmul (F.args_int_rmul_2 _ _) (int___rmul___int_list k t l KQ.toArray n)
   ⟨e,rfl,⟨_,e,rfl⟩,call_meets F.slot_list_mul ⟨_,e,rfl⟩ F.entry_list_mul (F.args_list_mul_2 _ _) (AutoListH.list___mul___list_int_3 l KQ.toArray n k t hfit hcap hlong) ⟨e,?_⟩⟩)
 rw [hnew]
 exact ⟨.ref _,_,I.lnew (t':=s.toks) (r.rep k.toNat) (by rw [len_rep,Nat.mul_comm];exact hz),rfl,q _ I.fresh⟩
end
section
variable {prog:Ki} {w:Kk} {A:Kj} {E:Ka->Kb->Prop} {s:Kb}
end
section
variable {X:Cx}
end
end L2
namespace Att
open PySem PySem.W PySem.Calls PyProof.Rows
theorem wU {P:Params} {h:Kl}:∀ (ns:List Int) (vs:List Ka),WellAll P h vs (ns.map WData.int)->IntsAre vs ns:=by
 intro ns
 induction ns with
 | nil =>
  intro vs w
  rw [PJ] at w
  cases w
  exact .nil
 | cons n ns ih =>
  intro vs w
  rw [Qr] at w
  cases w with
  | cons a b =>
   cases a
   exact .cons _ _ (ih _ b)
theorem script_of {l:OpenLaw} {n:Nat} (hn:l.most=some n) {P:Params} {h:Kl} {args:List WData} {vals:List Ka}
  (hpre:l.row.toRowW.claim.pre args=true) (hwl:WellAll P h vals args) :
  ∃ a vs ns,vals=[Value.ref a]/\args=[WData.list (ns.map WData.int)]/\h.get? a=some { cls:=.type "list",data:=.seq vs.toArray }/\IntsAre vs ns/\ns.length<=n:=by
 have hsh:WShape.hasAll [] args [.list .int]=true:=(pre_splitW hpre).1
 have hc:l.pre.holds [] { args:=args }=true:=(pre_splitW hpre).2
 obtain ⟨d,r,rfl,h1,h2⟩:=hasAllW_cons hsh
 obtain rfl:=hasAllW_nil h2
 obtain ⟨xs,rfl,h3⟩:=hasW_list h1
 obtain ⟨ns,rfl⟩:=items_int h3
 have hlen:ns.length<=n:=by
  unfold OpenLaw.pre at hc
  have h4:(WTm.not (.lt (.lit (.int (n:Int))) (.len (.arg 0)))).holds [] { args:=[.list (ns.map .int)] }=true:=by
   have h4:=(holds_andW hc).1
   rw [hn] at h4
   exact h4
  have h5:=condW_of h4 (w_not (w_lt w_lit (w_len_list (w_arg rfl))))
  rw [Qg] at h5
  refine Nat.le_of_not_lt fun q=>?_
  have q':(n:Int)<((ns.length:Nat):Int):=by omega
  first
   | (rw [KU q'] at h5;exact absurd h5 (by decide))
   | (simp at h5;omega)
 cases hwl with
 | cons w1 w2 =>
  cases w2
  cases w1 with
  | list ho hall=>exact ⟨_,_,ns,rfl,rfl,ho,wU ns _ hall,hlen⟩
theorem post_true (l:OpenLaw) (args:List WData):l.row.toRowW.claim.post args (.bool true) args=true :=
 postW_of (r:=l.row.toRowW) (X:=(true == true))
  (show WShape.has [] (.bool true) .bool=true by first | rfl | decide | simp [WShape.has,WShape.arms,WShape.armsAll])
  (show (WTm.eq .res (.lit (.bool true))).value [] { args:=args,res:=some (.bool true),after:=args }=some (.bool (true == true)) from w_eq_bool (w_res rfl) w_lit) rfl
theorem attach_call {l:OpenLaw} {n:Nat} {q:Ki} {loose:List Kw} {XP:(Kw->Option Ka)->Kl->Prop} {YP:Kk->Kl->Prop} {d:DefRec}
  (hn:l.most=some n) (hdf:d.params.defaults=[])
  (call:∀ (w:Kk) (s₀ s₁:Kb) (mg mb:Kw->Option Ka) (fa:Kc) (o:KA) (pm cd doc:Ka) (a:Kc) (vs:List Ka) (ns:List Int),
   Ground q loose [] XP w s₀ mg mb s₁.heap->YP w s₁.heap ->
   s₁.heap.get? fa=some o->o.data=.func (docDef d.name d.params d.body d.scope pm cd doc)->s₁.heap.CodeRec cd d.name->mg d.name=some (.ref fa) ->
   s₁.heap.get? a=some { cls:=.type "list",data:=.seq vs.toArray }->IntsAre vs ns->ns.length<=n->s₁.gens=#[] ->
   codeAny (Ky l.prog w) callerA (.call (.ref fa) ⟨[.ref a],[]⟩) (fun r s'=>r=.ok (.ret (.bool true))/\OldK s₁.heap s'.heap/\s'.os=s₁.os/\AllBare s'.gens) s₁) :
  WalkO q loose XP YP l.row.toRowW d [] (fun f vs=>PySem.call f vs):=by
 intro w s₀ s₁ mg mb G Y fa o pm cd doc dV kV ho hd hcd hD hmg hg args vals as hpre hlay hrd hwl hlo
 obtain rfl:dV=.none:=Dflts.none hD hdf
 obtain rfl:kV=.none:=Dflts.noKw hD
 obtain ⟨a,vs,ns,rfl,rfl,hobj,hints,hlen⟩:=script_of hn hpre hwl
 refine enter_call (codeAny_mono (call w s₀ s₁ mg mb fa o pm cd doc a vs ns G Y ho (fd_plain hd) hcd hmg hobj hints hlen hg) fun r s' hq=>?_)
 obtain ⟨rfl,h2,h3,h4⟩:=hq
 exact ⟨.inl ⟨.bool true,.bool true,[],rfl,fun _=>rfl,.bool true,post_true l _,fun _=>⟨List.Pairwise.nil,fun _ hm=>(nomatch hm)⟩⟩,h2,h3,h4⟩
section
variable {prog:Ki} {w:Kk} {A:Kj} {E:Ka->Kb->Prop} {s:Kb} {K:KC}
end
end Att
namespace L2
open PySem PySem.Spec PyProof.Rows
theorem vals_ints:∀ {vs:List Ka} {ns:List Int},IntsAre vs ns->zP (ns.map V.int) vs
 | _,_,.nil=>.nil
 | _,_,.cons n t h=>.cons ⟨t,rfl⟩ (vals_ints h)
def Only (H:Hp):Prop:=∀ b,H b=none\/∃ o xs,H b=some (.frz o (.lst xs))
theorem law_call {P:Ki} {w:Kk} {K:KC} {mg mb:Kw->Option Ka} {CX:CXT} {k:Nat} {fa a:Kc} {fd:Kh} {x:Kw} {sp:Sp} {s₁:Kb} {vs:List Ka} {ns:List Int}
  (KX:K.In s₁.heap) (hns:s₁.heap.Ns Kf mg) (hb:s₁.heap.Ns builtinsNs mb) (hbb:∀ x:Kw,x≠"__name__"->mb x=bootBuiltins x) (hlim:s₁.heap.NoLimit) (hseer:s₁.heap.NoSeer) (htree:P.given.tree=none) (hg:s₁.gens=#[])
  (ha:s₁.heap.get? a=some { cls:=.type "list",data:=.seq vs.toArray }) (hi:IntsAre vs ns) (hl:ns.length<=Kg) (hr:Room k callerA)
  (F:∀ base:Kl,K.In base->base.Ns Kf mg->FnOk P w K mg base CX k fa fd [x] sp) (hbind:∀ (s:Kb) (u:Ka),BindsTo s fd ⟨[u],[]⟩ [(x,u)])
  (hsp:∀ H:Hp,Only H->SqL K H a (ns.map V.int)->sp [.ref a] H (fun v _=>v=.bl true) fun _ _ _=>False)
  (hCX:∀ H e s',CX [] H s₁ (fun _ _ _=>False) e s'->False) :
  codeAny (Ky P w) callerA (.call (.ref fa) ⟨[.ref a],[]⟩) (fun r s'=>r=.ok (.ret (.bool true))/\OldK s₁.heap s'.heap/\s'.os=s₁.os/\AllBare s'.gens) s₁:=by
 have rv:=vals_ints hi
 have lenV:=hi.length
 have core:∀ H:Hp,Only H->SqL K H a (ns.map V.int)->HOk P w H s₁.heap->(∀ b,H b≠none->b=a)->(H a≠none->K.lookup a=none) ->
   codeAny (Ky P w) callerA (.call (.ref fa) ⟨[.ref a],[]⟩) (fun r s'=>r=.ok (.ret (.bool true))/\OldK s₁.heap s'.heap/\s'.os=s₁.os/\AllBare s'.gens) s₁:=by
  intro H hO hS hok hA hK
  have base_of:∀ {b:Kc} {o:KA},s₁.heap.get? b=some o->H b=none->(hidT s₁.heap H).get? b=some o:=fun e n=>hidT_get e n
  have noA:∀ {b:Kc} {o:KA} {es:Array DictEntry} {ep:Nat},s₁.heap.get? b=some o->o.data=.dict es ep->H b=none:=fun {b o es ep} e d=>by
   cases q:H b with
   | none=>rfl
   | some u =>
    have e':b=a:=hA b (by rw [q];simp)
    subst e'
    rw [ha] at e;cases e
    have d':Data.seq vs.toArray _=Data.dict es ep:=d
    cases d'
  have nsK:∀ {b:Kc} {m:Kw->Option Ka},s₁.heap.Ns b m->(hidT s₁.heap H).Ns b m:=fun {b m} ⟨o,es,ep,e,d,r⟩=>⟨o,es,ep,base_of e (noA e d),d,r⟩
  have hKb:K.In (hidT s₁.heap H):=fun b o e=>base_of (KX b o e) (by
   cases q:H b with
   | none=>rfl
   | some u =>
    have e':b=a:=hA b (by rw [q];simp)
    subst e'
    rw [hK (by rw [q];simp)] at e;cases e)
  have hM:Mod K mg (hidT s₁.heap H):=⟨hKb,nsK hns,⟨mb,nsK hb,hbb⟩,let ⟨mc,h1,h2⟩:=hlim;⟨mc,nsK h1,h2⟩,(by
   obtain ⟨⟨mc,x1,x2⟩,⟨mm,x3,x4⟩,⟨mb',x5,x6⟩,⟨mg',bm,ob,x7,x8,x9,x10,x11⟩⟩:=hseer
   refine ⟨⟨mc,nsK x1,x2⟩,⟨mm,nsK x3,x4⟩,⟨mb',nsK x5,x6⟩,⟨mg',bm,ob,nsK x7,x8,base_of x9 ?_,x10,x11⟩⟩
   cases q:H bm with
   | none=>rfl
   | some u =>
    have e':bm=a:=hA bm (by rw [q];simp)
    subst e'
    rw [ha] at x9;cases x9
    simp at x10)⟩
  have e0:Env0 P w K mg (hidT s₁.heap H) callerA [] s₁ H:=⟨rfl,hM,fun b o e=>of_hidT e,Nat.le_of_eq (hidT_size _ _),trivial,fun b hb=>absurd (show b∈([]:List Kc) from hb) (by simp),hok,.of_eq hg,htree⟩
  refine codeAny_mono ((F _ hKb (nsK hns)).run callerA [] s₁ H ⟨[.ref a],[]⟩ [.ref a] [.ref a] _ _ hr e0 (hbind s₁ (.ref a)) (.cons rfl .nil) (hsp H hO hS)) fun r s' h=>?_
  cases r with
  | error e=>exact (hCX H e s' h).elim
  | ok fl =>
   cases fl with
   | next=>exact False.elim h
   | brk=>exact False.elim h
   | cont=>exact False.elim h
   | ret u =>
    obtain ⟨v,H',os,bare,un,hok',r',q⟩:=h
    have q':v=.bl true:=q
    subst q'
    obtain rfl:u=Value.bool true:=r'
    refine ⟨rfl,OldK.of_keep fun b o e=>?_,os,bare⟩
    cases q:H b with
    | none=>exact un.keep b o e q (by intro z;exact absurd (show b∈([]:List Kc) from z) (by simp)) (by simp)
    | some u =>
     rcases hO b with z | ⟨ob,xs,z⟩
     ·rw [q] at z;cases z
     ·have z2:=un.frzs b ob _ z
      obtain ⟨e1,_⟩:=hok b _ z
      obtain ⟨e2,_⟩:=hok' b _ z2
      rw [e] at e1;cases e1
      exact e2
 cases hk:K.lookup a with
 | some o =>
  have e:=KX a o hk
  rw [ha] at e
  cases e
  refine core (fun _=>none) (fun _=>.inl rfl) (.inr ⟨_,vs.toArray,_,hk,rfl,rfl,rfl,by rw [Qk,lenV];exact hl,by simpa using rv⟩) (fun b u z=>by have z':(none:Option HO)=some u:=z;cases z') (fun b z=>absurd rfl z) fun z=>absurd rfl z
 | none =>
  refine core (fun b=>if b=a then some (.frz { cls:=.type "list",data:=.seq vs.toArray } (.lst (ns.map V.int))) else none) (fun b=>?_) (.inl (.inr ⟨{ cls:=.type "list",data:=.seq vs.toArray },KR rfl⟩)) (fun b u z=>?_) (fun b z=>?_) fun _=>hk
  ·by_cases hb:b=a
   ·exact .inr ⟨_,_,KR hb⟩
   ·exact .inl (KS hb)
  ·by_cases hb:b=a
   ·have z':=(KR hb).symm.trans z
    cases z'
    subst hb
    exact ⟨ha,by rw [Qg];exact hl,vs,_,rv,ha⟩
   ·have z':=(KS hb).symm.trans z
    cases z'
  ·by_cases hb:b=a
   ·exact hb
   ·exact absurd (KS hb) z
end L2
namespace L2
open PySem PySem.Spec PyProof.Rows
theorem walk_of {l:PySem.W.OpenLaw} {n k:Nat} {q:Ki} {loose:List Kw} {XP:(Kw->Option Ka)->Kl->Prop} {YP:Kk->Kl->Prop} {d:DefRec} {K:Params->KC} {CX:Kk->CXT} {sp:Kk->Sp} {x:Kw}
  (hn:l.most=some n) (hn2:n<=Kg) (hdf:d.params.defaults=[]) (hr:Room k callerA) (himp:importsNone q=true) (htree:l.prog.given.tree=none)
  (hY:∀ (w:Kk) (h:Kl),YP w h->(K w.params).In h)
  (F:∀ (w:Kk) (mg:Kw->Option Ka) (fa:Kc) (h:Kl),(K w.params).In h->h.Ns Kf mg->mg d.name=some (.ref fa) ->
   ∃ fd:Kh,(∀ (s:Kb) (u:Ka),BindsTo s fd ⟨[u],[]⟩ [(x,u)]) /\
    ∀ base:Kl,(K w.params).In base->base.Ns Kf mg->FnOk l.prog w (K w.params) mg base (CX w) k fa fd [x] (sp w))
  (hsp:∀ (w:Kk) (H:Hp) (a:Kc) (ns:List Int),ns.length<=n->Only H->SqL (K w.params) H a (ns.map V.int)->sp w [.ref a] H (fun v _=>v=.bl true) fun _ _ _=>False)
  (hCX:∀ (w:Kk) (H:Hp) (s:Kb) (e:Ka) (s':Kb),CX w [] H s (fun _ _ _=>False) e s'->False) :
  PySem.W.WalkO q loose XP YP l.row.toRowW d [] (fun f vs=>PySem.call f vs):=by
 refine Att.attach_call hn hdf fun w s₀ s₁ mg mb fa o pm cd doc a vs ns G Y ho hd hcd hmg hobj hints hlen hg=>?_
 have KX:=hY w _ Y
 obtain ⟨fd,hb,hF⟩:=F w mg fa _ KX G.T.g hmg
 exact law_call KX G.T.g G.T.b G.T.builtins G.T.nolimit (G.T.seer himp) htree hg hobj hints (Qw hlen hn2) hr hF hb (fun H hO hS=>hsp w H a ns hlen hO hS) fun H e s'=>hCX w H s₁ e s'
end L2
namespace L2
open PySem PySem.Spec PyProof.Rows
def yQ (s:Kx):Arguments:=match s with
 | .FunctionDef _ a _ _ _ _ _ _ _ _=>a
 | _=>{ posonlyargs:=[],args:=[],vararg:=none,kwonlyargs:=[],kw_defaults:=[],kwarg:=none,defaults:=[] }
def Zk (s:Kx):List Kx:=match s with
 | .FunctionDef _ _ b _ _ _ _ _ _ _=>b
 | _=>[]
def zF (s:Kx):Scope:=match s with
 | .FunctionDef _ _ _ _ _ _ sc _ _ _=>sc
 | _=>{ kind:=.function,names:=[],isGenerator:=false,isCoroutine:=false }
abbrev CX0:CXT:=fun _ _ _ _ _ _=>False
abbrev E0:XK:=fun _ _ _=>False
theorem WZ {X:Cx}:JF CX0 X E0:=fun _ _ _ _ _ _ _ h=>h.elim
structure Fun (K:KC) (x qual:Kw) (st:Kx) (f:Kc) (fd:Kh):Prop where
 ex:∃ (oc:Ka) (od:Option Kc) (kV doc pm:Ka) (an:Option Kc) (cdv ct:Ka) (osl:Array (Option Ka)),
  fd=fnOf x qual (yQ st) (Zk st) (zF st) .none kV doc pm an cdv ct/\K.lookup f=some ⟨oc,od,.func fd,osl⟩/\codeIn K cdv qual=true
 kp:keepIn K (.ref f)=true
section
variable {P:Ki} {w:Kk} {K:KC} {mg:Kw->Option Ka} {base:Kl}
theorem Fun.ok {x qual:Kw} {st:Kx} {f:Kc} {fd:Kh} {N ps:List Kw} {k:Nat} {sp:Sp} (F:Fun K x qual st f fd) (S:FnScope N ps (zF st)) (len:∀ vs H Q E,sp vs H Q E->vs.length=ps.length)
  (hbody:∀ (cdv:Ka) (A:Kj) (outer:List Env) (s:Kb) (H:Hp) (vs:List V) (Q:VK) (E:XK),Room k (A.deeper (envOfC qual (zF st) s.heap.objs.size f cdv))->sp vs H Q E ->
   ∃ t,PSs (Jh CX0 P w K mg base N qual (zF st) f cdv A outer s H E).nox (Zk st) t/\t { nx:=fun _ H'=>Q .non H',rt:=Q } (yi N vs) H):FnOk P w K mg base CX0 (k+1) f fd ps sp:=by
 obtain ⟨oc,od,kV,doc,pm,an,cdv,ct,osl,rfl,lk,hcd⟩:=F.ex
 refine fn_of lk hcd S len fun A outer s H vs Q E hr hsp=>?_
 obtain ⟨t,h,q⟩:=hbody cdv A outer s H vs Q E hr hsp
 exact ⟨t,h.nox,q⟩
theorem Fun.binds {x qual:Kw} {st:Kx} {f:Kc} {fd:Kh} {ps:List Kw} (F:Fun K x qual st f fd)
  (h:∀ (kV doc pm:Ka) (an:Option Kc) (cdv ct:Ka) (us:List Ka),us.length=ps.length->bindArgs (fnOf x qual (yQ st) (Zk st) (zF st) .none kV doc pm an cdv ct) ⟨us,[]⟩=pure (ps.zip us)):yR K fd ps []:=by
 obtain ⟨oc,od,kV,doc,pm,an,cdv,ct,osl,rfl,lk,hcd⟩:=F.ex
 exact .all (h kV doc pm an cdv ct)
theorem fun_mk {x qual:Kw} {st:Kx} {f:Kc} {oc:Ka} {od an:Option Kc} {osl:Array (Option Ka)} {kV doc pm cdv ct:Ka} (l:K.lookup f=some ⟨oc,od,.func (fnOf x qual (yQ st) (Zk st) (zF st) .none kV doc pm an cdv ct),osl⟩)
  (c:codeIn K cdv qual=true) (k:keepIn K (.ref f)=true):Fun K x qual st f (fnOf x qual (yQ st) (Zk st) (zF st) .none kV doc pm an cdv ct):=⟨⟨oc,od,kV,doc,pm,an,cdv,ct,osl,rfl,l,c⟩,k⟩
end
theorem hu_of {A:Kj} {k:Nat} (hr:Room k A):A.units+1<cLine:=Pa (Nat.add_le_add_left (by decide:1<=64) _) hr.units
section
variable {X:Cx}
theorem pv (i:Nat) {x:Kw} {pos:KB} (hN:X.N[i]?=some x:=by rfl) (hv:Vis X.env.scope x:=by first | exact Or.inl rfl | exact Or.inr (Or.inl rfl) | exact Or.inr (Or.inr rfl)) (hd:(x == ("__debug__":Kw))=false:=by decide)
  (hcd:(x == ("__classdict__":Kw))=false:=by decide):PE X (.Name x pos) (Zj i):=pe_var hN hv hd hcd
end
def zQ (H H':Hp):Prop:=∀ b o,H b=some o->H' b=some o
theorem zQ.refl (H:Hp):zQ H H:=fun _ _ h=>h
theorem zQ.trans {H H1 H2:Hp} (a:zQ H H1) (b:zQ H1 H2):zQ H H2:=fun c o h=>b c o (a c o h)
theorem zQ.free {H H':Hp} (e:zQ H H') {l:Kc} (h:H' l=Option.none):H l=Option.none:=by
 cases q:H l with
 | none=>rfl
 | some o =>
  rw [e l o q] at h
  cases h
theorem zQ.seq {K:KC} {H H':Hp} {a:Kc} {xs:List V} (e:zQ H H') (h:SqL K H a xs):SqL K H' a xs:=by
 rcases h with (h | ⟨o,h⟩) | h
 ·exact .inl (.inl (e _ _ h))
 ·exact .inl (.inr ⟨o,e _ _ h⟩)
 ·exact .inr h
end L2
set_option maxHeartbeats 4000000
namespace L2
open PySem PySem.Spec PyProof.Rows
def Yz (env:Env):List (Kw×Ku)->List (Kw×Kc)->List (Kw×Kc)
 | [],acc=>acc
 | (n,k)::r,acc=>if k == .free then (match env.cells.lookup n with | some a=>Yz env r ((n,a)::acc) | none=>Yz env r acc) else Yz env r acc
theorem closure_of {env:Env} {scope:Scope} (h:∀ x∈scope.names,x.2=.free->∃ c,env.cells.lookup x.1=some c):closureFor scope env=pure (Yz env scope.names []):=by
 suffices ∀ (names:List (Kw×Ku)) (acc:List (Kw×Kc)),(∀ x∈names,x.2=.free->∃ c,env.cells.lookup x.1=some c) ->
   (forIn names acc fun (x:Kw×Ku) cs=>(do
    if x.2 == .free then
     let a <- cellOf env x.1
     pure (ForInStep.yield ((x.1,a)::cs))
    else pure (ForInStep.yield cs):Sem (ForInStep (List (Kw×Kc)))))=pure (Yz env names acc) by
  have q:=this scope.names [] h
  unfold closureFor
  refine Eq.trans (bind_pure _) ?_
  rw [<- q]
 intro names
 induction names with
 | nil=>intro acc _;rfl
 | cons x r ih =>
  intro acc h
  obtain ⟨n,k⟩:=x
  rw [PD]
  cases hk:k == NameKind.free with
  | false =>
   simp only [hk,Pk,if_false,pure_bind]
   rw [ih acc fun y hy=>h y (Qe _ hy)]
   simp [Yz,hk]
  | true =>
   obtain ⟨c,hc⟩:=h (n,k) Qt (by simpa using hk)
   have hc':env.cells.lookup n=some c:=hc
   have e1:cellOf env n=pure c:=by unfold cellOf;rw [hc']
   simp only [hk,if_true,e1,pure_bind]
   rw [ih _ fun y hy=>h y (Qe _ hy)]
   simp [Yz,hk,hc']
theorem ja {env:Env}:∀ (names:List (Kw×Ku)) (acc:List (Kw×Kc)) (n:Kw) (c:Kc),(n,c)∈Yz env names acc->(n,c)∈acc\/(∃ k,(n,k)∈names/\k=.free/\env.cells.lookup n=some c)
 | [],_,_,_,h=>.inl h
 | (m,k)::r,acc,n,c,h=>by
  unfold Yz at h
  cases hk:k == NameKind.free with
  | false =>
   rw [hk] at h
   rcases ja r acc n c (by simpa using h) with q | ⟨k',q1,q2⟩
   ·exact .inl q
   ·exact .inr ⟨k',Qe _ q1,q2⟩
  | true =>
   rw [hk] at h
   have hk':k=.free:=by simpa using hk
   cases hc:env.cells.lookup m with
   | none =>
    rw [hc] at h
    rcases ja r acc n c (by simpa using h) with q | ⟨k',q1,q2⟩
    ·exact .inl q
    ·exact .inr ⟨k',Qe _ q1,q2⟩
   | some a =>
    rw [hc] at h
    rcases ja r _ n c (by simpa using h) with q | ⟨k',q1,q2⟩
    ·rcases Qc.mp q with e | q
     ·cases e;exact .inr ⟨k,Qt,hk',hc⟩
     ·exact .inl q
    ·exact .inr ⟨k',Qe _ q1,q2⟩
theorem j0 {env:Env}:∀ (names:List (Kw×Ku)) (acc:List (Kw×Kc)) (n:Kw),((n,NameKind.free)∈names/\(∃ c,env.cells.lookup n=some c))\/(acc.lookup n).isSome=true->((Yz env names acc).lookup n).isSome=true
 | [],_,_,h=>h.elim (fun ⟨q,_⟩=>nomatch q) id
 | (m,k)::r,acc,n,h=>by
  unfold Yz
  cases hk:k == NameKind.free with
  | false =>
   refine (j0 r acc n ?_)
   rcases h with ⟨q,c⟩ | h
   ·rcases Qc.mp q with e | q
    ·cases e;simp at hk
    ·exact .inl ⟨q,c⟩
   ·exact .inr h
  | true =>
   have hk':k=.free:=by simpa using hk
   subst hk'
   simp only [if_true]
   cases hc:env.cells.lookup m with
   | none =>
    refine (j0 r acc n ?_)
    rcases h with ⟨q,c,hc2⟩ | h
    ·rcases Qc.mp q with e | q
     ·cases e;rw [hc] at hc2;cases hc2
     ·exact .inl ⟨q,c,hc2⟩
    ·exact .inr h
   | some a =>
    refine (j0 r _ n ?_)
    by_cases e:n=m
    ·exact .inr (by simp [QQ,e])
    ·have e':(n == m)=false:=by simpa using e
     rcases h with ⟨q,c⟩ | h
     ·rcases Qc.mp q with e2 | q
      ·cases e2;exact absurd rfl e
      ·exact .inl ⟨q,c⟩
     ·exact .inr (by simpa [QQ,e'] using h)
theorem clOf_free {env:Env} {n:Kw} {names:List (Kw×Ku)} (h:((n,NameKind.free)∈names)) {c:Kc} (hc:env.cells.lookup n=some c):(Yz env names []).lookup n=some c:=by
 have q:=j0 names [] n (.inl ⟨h,c,hc⟩)
 obtain ⟨c',e⟩:=Q2.mp q
 rcases ja names [] n c' (mem_of_lookup e) with z | ⟨_,_,_,z⟩
 ·cases z
 ·rw [hc] at z;cases z;exact e
theorem newEnv_comp {M:Model} {A:Kj} {E:Ka->Kb->Prop} {s:Kb} {scope:Scope} {globals:Kc} {cl:List (Kw×Kc)} {qual:Kw} {env:Env} {Q:Env->Kb->Prop}
  (hQ:∀ h',(∀ b o,s.heap.get? b=some o->h'.get? b=some o)->h'.Ns s.heap.objs.size (fun _=>none) ->
   (∀ n c,(n,c)∈cellsFrom (s.heap.objs.size+1) scope.names cl->(n,c)∈cl\/((n,c)∈cellsFrom (s.heap.objs.size+1) scope.names []/\s.heap.objs.size<c/\h'.IsCell c none)) ->
   ((cellsFrom (s.heap.objs.size+1) scope.names []).Pairwise fun x y=>x.2≠y.2) ->
   Q (newEnv scope s.heap.objs.size globals (cellsFrom (s.heap.objs.size+1) scope.names cl) qual none .none (some env) builtinsNs) { s with heap:=h' }) :
  Ko M A (newFunctionEnv scope globals cl [] qual none .none (some env)) Q E s:=by
 unfold newFunctionEnv
 simp only [Option.isSome_some,if_true]
 refine Qa (wpAny_alloc ?_)
 refine Qa (wpAny_layCells _ (fun name kind cells=>by cases hkc:kind == NameKind.cell <;> simp [hkc]) _ _ _ _ ?_)
 have ok:=cellsFrom_ok scope.names (s.heap.push { cls:=.type "dict",data:=.dict #[] }) (s.heap.objs.size+1) [] ⟨fun _ _ hm=>(nomatch hm),List.Pairwise.nil⟩ (by rw [QJ];exact Ql _)
 rw [QJ] at ok
 rw [show ({ s with heap:=s.heap.push { cls:=.type "dict",data:=.dict #[] } }:Kb).heap.objs.size=s.heap.objs.size+1 from QJ ..]
 simp only [PL,pure_bind]
 refine Qf (hQ _ (fun b o e=>pushCells_keeps _ _ b o (Qb _ e)) ((Heap.Ns.new s.heap (.type "dict")).keeps (pushCells_keeps _ _)) ?_ ok.apart)
 have app:∀ (names:List (Kw×Ku)) (n:Nat) (acc:List (Kw×Kc)) (x:Kw×Kc),x∈cellsFrom n names (acc++cl)->x∈cl\/x∈cellsFrom n names acc:=by
  intro names
  induction names with
  | nil=>intro n acc x h;exact (QA.mp h).symm
  | cons y r ih =>
   intro n acc x h
   obtain ⟨m,k⟩:=y
   unfold cellsFrom at h ⊢
   split at h
   ·rename_i hk;rw [KR hk];exact ih (n+1) ((m,n)::acc) x h
   ·rename_i hk;rw [KS hk];exact ih n acc x h
 intro n c hm
 rcases app scope.names _ [] (n,c) hm with q | q
 ·exact .inl q
 ·obtain ⟨z1,z2⟩:=ok.empty n c q
  exact .inr ⟨q,z2,z1⟩
theorem jZ {prog:Ki} {w:Kk} {A:Kj} {R:Result->Kb->Prop} {s:Kb} {elt target iter:Kv} {ifs:List Kv} {scope:Scope} {pos:KB} {it acc:Ka} {env:Env} (I:Nat->Kb->Prop)
  (turn:∀ n s,I n s->Ko (Ky prog w) A (pyNext it) (fun r s₁=>match r with
   | none=>R (.ok .next) s₁
   | some v=>Ko (Ky prog w) A (letOwnedTupleGo target it v) (fun _ s₁'=>Ko (Ky prog w) A (assign target env v) (fun _ s₂ =>
     Ko (Ky prog w) A (forIn ifs true fun c r=>if r=true then do let ok <- isTrue c env (Kz c env);pure (ForInStep.yield ok) else pure (ForInStep.yield r)) (fun ok s₃ =>
      if ok=true then Ko (Ky prog w) A (Kz elt env) (fun x s₄ =>
       Ko (Ky prog w) A (call (.builtin "list.append") [acc,x]) (fun _ s₅=>∃ m,m<n/\I m s₅) (fun _ _=>False) s₄) (fun _ _=>False) s₃
      else ∃ m,m<n/\I m s₃) (fun _ _=>False) s₂) (fun _ _=>False) s₁') (fun _ _=>False) s₁) (fun _ _=>False) s)
  (n:Nat) (h:I n s) :
  codeAny (Ky prog w) A (.compLoop (.ListComp elt [⟨target,iter,ifs,0⟩] scope pos) 0 it acc env) R s:=by
 refine codeAny_loop rfl I (fun n s hI=>?_) n h
 show Ko _ A ((compTurn (.ListComp elt [⟨target,iter,ifs,0⟩] scope pos) 0 it acc env).onRaise (fun x=>do noteFrame x env;theTreesLotGoes x)) _ _ s
 refine wpAny_noted ?_
 rw [compTurn_list]
 refine Qa (wpAny_standAt (Qa (QR (turn n s hI) (fun r s₁ h₁=>?_) fun _ _ h'=>h'.elim)))
 cases r with
 | none=>exact Qf h₁
 | some v =>
  refine Qa (QR h₁ (fun _ s₁' h₁'=>?_) fun _ _ h'=>h'.elim)
  refine Qa (QR h₁' (fun _ s₂ h₂=>Qa (QR h₂ (fun ok s₃ h₃=>?_) fun _ _ h'=>h'.elim)) fun _ _ h'=>h'.elim)
  cases ok with
  | false=>exact Qf ⟨rfl,h₃⟩
  | true =>
   exact Qa (Qa (QR h₃ (fun x s₄ h₄=>Qa (QR h₄ (fun _ s₅ h₅=>Qf (Qf ⟨rfl,h₅⟩)) fun _ _ h'=>h'.elim)) fun _ _ h'=>h'.elim))
end L2
namespace L2
open PySem PySem.Spec PyProof.Rows
theorem yM {env:Env} {x:Kw} {k:Ku}:∀ {names:List (Kw×Ku)},
  (names.map fun (n,k)=>if (k == NameKind.free&&env.scope.kind == .function&&env.kindOf n == some .cell) then (n,NameKind.cell) else (n,k)).lookup x=some k ->
  ∃ k',names.lookup x=some k'/\(k=k'\/(k'=.free/\k=.cell))
 | [],h=>by simp at h
 | (n,k')::r,h=>by
  have ih:=@yM env x k r
  rw [Qr] at h
  by_cases hc:(k' == NameKind.free&&env.scope.kind == .function&&env.kindOf n == some .cell)=true
  ·simp only [hc,if_true] at h
   have hf:k'=.free:=by
    simp only [QK,beq_iff_eq] at hc
    exact hc.1.1
   cases hx:x == n with
   | true=>simp only [QQ,hx] at h ⊢;cases h;exact ⟨k',rfl,.inr ⟨hf,rfl⟩⟩
   | false=>simp only [QQ,hx] at h ⊢;exact ih h
  ·have hc':(k' == NameKind.free&&env.scope.kind == .function&&env.kindOf n == some .cell)=false:=by simpa using hc
   simp only [hc',Pk,if_false] at h
   cases hx:x == n with
   | true=>simp only [QQ,hx] at h ⊢;cases h;exact ⟨k,rfl,.inl rfl⟩
   | false=>simp only [QQ,hx] at h ⊢;exact ih h
theorem jM {env:Env} {x:Kw} {k':Ku}:∀ {names:List (Kw×Ku)},names.lookup x=some k' ->
  ∃ k,(names.map fun (n,k)=>if (k == NameKind.free&&env.scope.kind == .function&&env.kindOf n == some .cell) then (n,NameKind.cell) else (n,k)).lookup x=some k/\(k=k'\/(k'=.free/\k=.cell))
 | [],h=>by simp at h
 | (n,k1)::r,h=>by
  have ih:=@jM env x k' r
  rw [Qr]
  by_cases hc:(k1 == NameKind.free&&env.scope.kind == .function&&env.kindOf n == some .cell)=true
  ·simp only [hc,if_true]
   have hf:k1=.free:=by
    simp only [QK,beq_iff_eq] at hc
    exact hc.1.1
   cases hx:x == n with
   | true=>simp only [QQ,hx] at h ⊢;cases h;exact ⟨_,rfl,.inr ⟨hf,rfl⟩⟩
   | false=>simp only [QQ,hx] at h ⊢;exact ih h
  ·have hc':(k1 == NameKind.free&&env.scope.kind == .function&&env.kindOf n == some .cell)=false:=by simpa using hc
   simp only [hc',Pk,if_false]
   cases hx:x == n with
   | true=>simp only [QQ,hx] at h ⊢;cases h;exact ⟨_,rfl,.inl rfl⟩
   | false=>simp only [QQ,hx] at h ⊢;exact ih h
theorem YA {x:Kw}:∀ (names:List (Kw×Ku)) (n:Nat) (acc:List (Kw×Kc)),(∀ y∈names,y.2=.cell->y.1≠x)->(cellsFrom n names acc).lookup x=acc.lookup x
 | [],_,_,_=>rfl
 | (m,k)::r,n,acc,h=>by
  unfold cellsFrom
  split
  ·rename_i hk
   rw [YA r _ _ fun y hy=>h y (Qe _ hy)]
   have:x≠m:=fun e=>h (m,k) Qt (by simpa using hk) e.symm
   have e':(x == m)=false:=by simpa using this
   rw [QQ,e']
  ·exact YA r _ _ fun y hy=>h y (Qe _ hy)
def Zp (X:Cx) (scope:Scope) (own N':List Kw) (s₂:Kb) (H₂:Hp) (fp:List Kc) (C:Kc):Cx where
 prog:=X.prog
 w:=X.w
 K:=X.K
 mg:=X.mg
 base:=X.base
 A:=X.A
 N:=N'
 s₀:=s₂
 Ub:=H₂
 env:=compEnvC scope (cellsFrom (C+1) scope.names (Yz X.env scope.names [])) C X.env
 outer:=X.stack
 stack:=X.stack
 ex:=fp
 fn:=fun x=>own.contains x
 calm:=X.calm
 pn:=[]
 xe:=fun _ _=>False
structure CompOk (X:Cx) (scope:Scope) (own N':List Kw) (k:Nat):Prop where
 kind:scope.kind=.function
 loc:∀ y∈scope.names,y.2=.local->scope.names.lookup y.1=some .local
 cel:∀ y∈scope.names,y.2=.cell->scope.names.lookup y.1=some .cell
 free:∀ y∈scope.names,y.2=.free->X.env.scope.names.lookup y.1=some .cell\/X.env.scope.names.lookup y.1=some .free
 own:∀ y∈scope.names,y.2=.free->own.contains y.1=false
 len:N'.length=X.N.length+k
 nm:∀ (i:Nat) (x:Kw),i<X.N.length->N'[i]?=some x->scope.names.lookup x=none\/(X.N[i]?=some x/\scope.names.lookup x=some .free)
def PF (X:Cx) (ifs:List Kv) (t:TT):Prop :=
 ∀ (KK:List (Kc×KA)) (s:Kb) (σ:St) (H:Hp) (Q:Bool->Hp->Prop),Inv X KK σ H s->t σ H Q ->
  Ko (Ky X.prog X.w) X.A (forIn ifs true fun c r=>if r=true then do let ok <- isTrue c X.env (Kz c X.env);pure (ForInStep.yield ok) else pure (ForInStep.yield r)) (TP X KK σ Q) X.xe s
def tYes:TT:=fun _ H Q=>Q true H
theorem pf_nil {X:Cx}:PF X [] tYes:=fun KK s σ H Q I h=>Qf ⟨H,I,h⟩
theorem pf_one {X:Cx} {c:Kv} {t:TT} (h:PT X c t):PF X [c] t:=fun KK s σ H Q I q=>wpAny_tests_one (h KK s σ H Q I q)
def Jk (k:Nat) (wi:TI) (g:TG) (tc:TT) (te:TE):TE:=fun σ H Q=>wi σ H fun J H1=>∀ D,H1 D=none ->
 ∃ W:Nat->Nat->List V->St->Hp->Prop,(∃ m,W 0 m [] (σ++List.replicate k none) (upd H1 D (.lst [])))/\∀ i m ys σ' H',W i m ys σ' H'->H' D=some (.lst ys) /\
  ((J.stop i H'/\Q (.ref D) H')\/(J.go i H'/\∀ x H2,J.yld i H' x H2->g x σ' H2 fun σ3 H3=>tc σ3 H3 fun b H4 =>
   if b=true then te σ3 H4 fun v H5=>H5 D=some (.lst ys)/\ys.length<Kg/\∃ m',m'<m/\W (i+1) m' (ys++[v]) σ3 (upd H5 D (.lst (ys++[v])))
   else ∃ m',m'<m/\W (i+1) m' ys σ3 H4))
section
variable {X:Cx} {scope:Scope} {own N':List Kw} {k:Nat}
theorem inv_comp {KK:List (Kc×KA)} {σ:St} {H:Hp} {s:Kb} {fp:List Kc} {h':Kl} {t':Nat} {h1:Kl} {D:Kc} (c:CompOk X scope own N' k) (I:Inv X KK σ H s) (hf:∀ b∈fp,JG X KK H b) (hfl:∀ b∈fp,b<s.heap.objs.size)
  (h1sz:s.heap.objs.size<h1.objs.size) (up1:∀ b o,s.heap.get? b=some o->h1.get? b=some o) (hD:H D=none) (un1:Un (frs X.stack) fp H (upd H D (.lst [])) s.heap h1) (hok1:HOk X.prog X.w (upd H D (.lst [])) h1)
  (up:∀ b o,h1.get? b=some o->h'.get? b=some o) (ns:h'.Ns h1.objs.size (fun _=>none))
  (cs:∀ n a,(n,a)∈cellsFrom (h1.objs.size+1) scope.names (Yz X.env scope.names [])->(n,a)∈Yz X.env scope.names []\/((n,a)∈cellsFrom (h1.objs.size+1) scope.names []/\h1.objs.size<a/\h'.IsCell a none))
  (ap:(cellsFrom (h1.objs.size+1) scope.names []).Pairwise fun x y=>x.2≠y.2) :
  Inv (Zp X scope own N' s H fp h1.objs.size) [] (σ++List.replicate k none) (upd H D (.lst [])) { s with heap:=h',toks:=t' }:=by
 have hCs:s.heap.objs.size<=h1.objs.size:=Q6 h1sz
 have old:∀ n a,(n,a)∈Yz X.env scope.names []->X.env.cells.lookup n=some a:=fun n a hm=>by
  rcases ja _ _ _ _ hm with z | ⟨_,_,_,z⟩
  ·cases z
  ·exact z
 have oldlt:∀ n a,(n,a)∈Yz X.env scope.names []->@LT.lt Nat instLTNat a s.heap.objs.size:=fun n a hm=>by
  obtain ⟨v,q⟩:=I.cell n a (old n a hm)
  exact q.lt
 have inj:∀ x y a,(x,a)∈cellsFrom (h1.objs.size+1) scope.names (Yz X.env scope.names [])->(y,a)∈cellsFrom (h1.objs.size+1) scope.names (Yz X.env scope.names [])->x=y:=fun x y a hx hy=>by
  rcases cs x a hx with p | ⟨p,p1,_⟩ <;> rcases cs y a hy with q | ⟨q,q1,_⟩
  ·exact I.ok.inj x y a (old _ _ p) (old _ _ q)
  ·have:=oldlt _ _ p;omega
  ·have:=oldlt _ _ q;omega
  ·exact name_of_addr ap p q
 have freeC:∀ x a,(x,a)∈cellsFrom (h1.objs.size+1) scope.names (Yz X.env scope.names [])->(upd H D (.lst [])) a=none:=fun x a hx=>by
  rcases cs x a hx with p | ⟨p,p1,_⟩
  ·obtain ⟨v,o,ho,hd⟩:=I.cell x a (old _ _ p)
   refine un1.free a o ho (I.freeC x a (old _ _ p)) fun z=>?_
   exact (hf a z).2.2.2.2.1 x a (old _ _ p) rfl
  ·exact hok1.fresh (Q6 p1)
 have fsn:∀ b∈frs X.stack,b<s.heap.objs.size:=fun b hb=>by
  obtain ⟨_,o,ho,_⟩:=I.stack.mem hb
  exact Qm ho
 refine ⟨⟨I.ok.mod,c.kind,I.ok.glob,I.ok.blt,hCs,fun x y a h1' h2'=>inj x y a (mem_of_lookup h1') (mem_of_lookup h2'),fun x hx=>?_,fun x a hx ha=>?_,I.ok.hd,I.ok.frames,.inl rfl,fun b hb=>⟨?_,fun x a ha=>?_⟩,I.bs,Qw I.ok.bsz I.sz,fun b o e hb=>?_,fun b hb hb2=>?_,I.stack,I.stkFree,I.ok.top,I.ok.tree⟩,
  rfl,I.bare,un1.trans (Un.kept up),⟨_,ns,fun i x v e1 e2 e3=>?_⟩,fun x a ha=>?_,?_,fun x a ha=>freeC x a (mem_of_lookup ha),fun p hp=>absurd (show p∈([]:List (Kc×KA)) from hp) (by simp),hok1.kept up,?_⟩
 ·-- has
  have hx':(scope.names.map fun (n,k)=>if (k == NameKind.free&&X.env.scope.kind == .function&&X.env.kindOf n == some .cell) then (n,NameKind.cell) else (n,k)).lookup x=some .cell\/(scope.names.map fun (n,k)=>if (k == NameKind.free&&X.env.scope.kind == .function&&X.env.kindOf n == some .cell) then (n,NameKind.cell) else (n,k)).lookup x=some .free:=hx
  have hk:scope.names.lookup x=some .cell\/scope.names.lookup x=some .free:=by
   rcases hx' with z | z
   ·obtain ⟨k',e,q⟩:=yM z
    rcases q with q | ⟨q,_⟩
    ·exact .inl (by rw [e,<- q])
    ·exact .inr (by rw [e,q])
   ·obtain ⟨k',e,q⟩:=yM z
    rcases q with q | ⟨q,_⟩
    ·exact .inr (by rw [e,<- q])
    ·exact .inr (by rw [e,q])
  refine Q2.mp (PySem.W.cellsFrom_some scope.names _ _ ?_)
  rcases hk with z | z
  ·exact .inl z
  ·refine .inr (j0 _ _ _ (.inl ⟨mem_of_lookup z,?_⟩))
   rcases c.free (x,.free) (mem_of_lookup z) rfl with q | q
   ·exact I.ok.has x (.inl q)
   ·exact I.ok.has x (.inr q)
 ·-- cab
  rcases cs x a (mem_of_lookup ha) with p | ⟨p,p1,_⟩
  ·rcases ja _ _ _ _ p with z | ⟨k',z1,z2,_⟩
   ·cases z
   ·have:=c.own (x,k') z1 z2
    have hx':own.contains x=true:=hx
    rw [hx'] at this;cases this
  ·exact Qw hCs (Q6 p1)
 ·exact Qu (Qs (hfl b hb) hCs)
 ·rcases cs x a (mem_of_lookup ha) with p | ⟨p,p1,_⟩
  ·exact (hf b hb).2.2.2.2.1 x a (old _ _ p)
  ·have q:@LT.lt Nat instLTNat b s.heap.objs.size:=hfl b hb
   exact fun z=>by subst z;omega
 ·-- noex
  have hb:b∈fp:=hb
  rcases (hf b hb).2.2.2.1 with z | z
  ·exact I.ok.noex b o e z
  ·have q1:@LT.lt Nat instLTNat b X.base.objs.size:=Qm e
   have:=I.ok.bsz
   omega
 ·have hb:b∈fp:=hb
  rcases Qc.mp (I.stkSub b hb2) with z | z
  ·exact (hf b hb).2.1 z
  ·exact (hf b hb).2.2.1 z
 ·-- loc
  have hiσ:i<σ.length:=by
   by_cases hi:i<σ.length
   ·exact hi
   ·rw [QP (by omega),Pp] at e2
    split at e2 <;> cases e2
  rw [QL hiσ] at e2
  have hiN:i<X.N.length:=by rw [<- I.len];exact hiσ
  have e1:N'[i]?=some x:=e1
  have vis:scope.names.lookup x≠none:=by
   have e3:Vis (relabel scope X.env) x:=e3
   unfold Vis at e3
   rcases e3 with z | z | z <;> (obtain ⟨k',q,_⟩:=yM z;rw [q];simp)
  rcases c.nm i x hiN e1 with z | ⟨z1,z2⟩
  ·exact absurd z vis
  obtain ⟨m,hn,hl⟩:=I.loc
  have hfr:=c.free (x,.free) (mem_of_lookup z2) rfl
  obtain ⟨u,r,l⟩:=hl i x v z1 e2 (hfr.elim (fun q=>.inr (.inl q)) fun q=>.inr (.inr q))
  refine ⟨u,r,?_⟩
  rcases l with ⟨kk,_⟩ | ⟨kk,a,ea,ca⟩
  ·have kk:X.env.scope.names.lookup x=some .local:=kk
   rcases hfr with q | q
   ·have q:X.env.scope.names.lookup x=some .cell:=q
    rw [kk] at q;cases q
   ·have q:X.env.scope.names.lookup x=some .free:=q
    rw [kk] at q;cases q
  ·obtain ⟨k2,q1,q2⟩:=jM (env:=X.env) z2
   refine .inr ⟨?_,a,?_,?_⟩
   ·rcases q2 with q2 | ⟨_,q2⟩
    ·exact .inr (by subst q2;exact q1)
    ·exact .inl (by subst q2;exact q1)
   ·show (cellsFrom (h1.objs.size+1) scope.names (Yz X.env scope.names [])).lookup x=some a
    rw [YA scope.names _ _ fun y hy hk e=>by
     have:=c.cel y hy hk
     rw [e,z2] at this;cases this]
    exact clOf_free (mem_of_lookup z2) ea
   ·exact (ca.keeps up1).keeps up
 ·-- cells
  rcases cs x a (mem_of_lookup ha) with p | ⟨p,p1,p2⟩
  ·obtain ⟨v,q⟩:=I.cell x a (old _ _ p)
   exact ⟨v,(q.keeps up1).keeps up⟩
  ·exact ⟨none,p2⟩
 ·exact hok1.fresh (Ql _)
 ·show (σ++List.replicate k none).length=N'.length
  rw [Qj,List.length_replicate,I.len,c.len]
theorem Un.but {fs ex:List Kc} {H H':Hp} {h h1 h2:Kl} {C:Kc} (u:Un fs ex H H' h h1) (hs:Heap.SameBut C h1 h2) (hC:h.objs.size<=C):Un fs ex H H' h h2:=by
 have ne:∀ b o,h.get? b=some o->b≠C:=fun b o e=>Qu (Qs (Qm e) hC)
 exact ⟨fun b o e n hb hx=>(hs.2 b (ne b o e)).trans (u.keep b o e n hb hx),fun b o e n hb hx=>by
   obtain ⟨sl,q⟩:=u.slot b o e n hb hx
   exact ⟨sl,(hs.2 b (ne b o e)).trans q⟩,u.free,fun b o e hx=>by
   obtain ⟨o',q⟩:=u.there b o e hx
   exact ⟨o',(hs.2 b (ne b o e)).trans q⟩,u.tups,u.frzs,u.tbls⟩
theorem HOk.but {P:Ki} {w:Kk} {H:Hp} {h h2:Kl} {C:Kc} (ok:HOk P w H h) (hs:Heap.SameBut C h h2) (hC:H C=none):HOk P w H h2:=fun b o e =>
 (ok b o e).stay (fun c v hc q=>(hs.2 c (by
  rintro rfl
  rcases hc with rfl | hc
  ·rw [hC] at e;cases e
  ·rw [hC] at hc;cases hc)).trans q) (fun _ q=>q) fun _ _ q=>q
theorem gm {elt target iter:Kv} {ifs:List Kv} {pos:KB} {g:TG} {tc:TT} {te:TE} (c:CompOk X scope own N' k) (hc:X.calm=true)
  (hg:∀ s₂ H₂ fp C,PG (Zp X scope own N' s₂ H₂ fp C) target g) (ht:∀ s₂ H₂ fp C,PF (Zp X scope own N' s₂ H₂ fp C) ifs tc) (he:∀ s₂ H₂ fp C,PE (Zp X scope own N' s₂ H₂ fp C) elt te)
  {KK:List (Kc×KA)} {σ:St} {H:Hp} {s:Kb} {E:Ka->Kb->Prop} {Q:VK} {it:Kc} {fp:List Kc} {tn:Nat->Kl->Prop} {J:It} (I:Inv X KK σ H s) (T:w6 X.prog X.w X.K target J fp it tn) (st:tn 0 s.heap) (hf:∀ b∈fp,JG X KK H b)
  (hw:∀ D,H D=none->∃ W:Nat->Nat->List V->St->Hp->Prop,(∃ m,W 0 m [] (σ++List.replicate k none) (upd H D (.lst [])))/\∀ i m ys σ' H',W i m ys σ' H'->H' D=some (.lst ys) /\
   ((J.stop i H'/\Q (.ref D) H')\/(J.go i H'/\∀ x H2,J.yld i H' x H2->g x σ' H2 fun σ3 H3=>tc σ3 H3 fun b H4 =>
    if b=true then te σ3 H4 fun v H5=>H5 D=some (.lst ys)/\ys.length<Kg/\∃ m',m'<m/\W (i+1) m' (ys++[v]) σ3 (upd H5 D (.lst (ys++[v])))
    else ∃ m',m'<m/\W (i+1) m' ys σ3 H4)))
  {RR:Ka->Kc->Result->Kb->Prop}
  (hR:∀ D C σ' H' s',s.heap.objs.size<=C->Inv (Zp X scope own N' s H fp C) [] σ' H' s'->Q (.ref D) H'->RR (.ref D) C (.ok .next) s') :
  Ko (Ky X.prog X.w) X.A (newList []) (fun acc s₃=>Ko (Ky X.prog X.w) X.A (newFunctionEnv scope X.env.globals (Yz X.env scope.names []) [] X.env.qual none .none (some X.env)) (fun cenv s₄ =>
   codeAny (Ky X.prog X.w) X.A (.compStart (.ListComp elt [⟨target,iter,ifs,0⟩] scope pos) 0 (.ref it) acc { cenv with scope:=relabel scope X.env }) (RR acc cenv.locals) s₄) E s₃) E s:=by
 have hfl:∀ b∈fp,b<s.heap.objs.size:=fun b hb=>by
  obtain ⟨o,e,_⟩:=T.obj 0 s.heap st b hb
  exact Qm e
 refine QS ?_
 have fr:H s.heap.objs.size=none:=I.hok.fresh (Ql _)
 have up1:∀ b o,s.heap.get? b=some o->(s.heap.push { cls:=.type "list",dict:=none,data:=.seq ([]:List Ka).toArray }).get? b=some o:=fun b o e=>Qb _ e
 have ok1:HOk X.prog X.w (upd H s.heap.objs.size (.lst [])) (s.heap.push { cls:=.type "list",dict:=none,data:=.seq ([]:List Ka).toArray }) :=
  I.hok.laid up1 (Ql _) ⟨Pd _,[],0,.nil,Qq _ rfl⟩
 have un1:Un (frs X.stack) fp H (upd H s.heap.objs.size (.lst [])) s.heap (s.heap.push { cls:=.type "list",dict:=none,data:=.seq ([]:List Ka).toArray }):=Un.laid up1 (Ql _) fr
 have sz1:s.heap.objs.size<(s.heap.push { cls:=.type "list",dict:=none,data:=.seq ([]:List Ka).toArray }).objs.size:=by rw [QJ];exact Q1 _
 generalize (s.heap.push { cls:=.type "list",dict:=none,data:=.seq ([]:List Ka).toArray })=h1 at up1 ok1 un1 sz1 ⊢
 refine newEnv_comp fun h' up ns cs ap=>?_
 dsimp only at up ns cs ap ⊢
 obtain ⟨W,⟨m0,w0⟩,turn⟩:=hw _ fr
 have I4:Inv (Zp X scope own N' s H fp h1.objs.size) [] (σ++List.replicate k none) (upd H s.heap.objs.size (.lst [])) { s with heap:=h' }:=inv_comp (t':=s.toks) c I hf hfl sz1 up1 fr un1 ok1 up ns cs ap
 have st4:tn 0 h':=T.keep 0 _ _ st fun b hb o e=>up b o (up1 b o e)
 have fr4:∀ b∈fp,(upd H s.heap.objs.size (.lst [])) b=none:=fun b hb=>by
  rw [zv (Qu (hfl b hb))];exact (hf b hb).1
 generalize ha:s.heap.objs.size=D at *
 have stat:∀ {H':Hp} ,(∀ b∈fp,H' b=none)->∀ b∈fp,JG (Zp X scope own N' s H fp h1.objs.size) [] H' b:=fun hn b hb=>⟨hn b hb,(I4.ok.exf b hb).1,I4.ok.exfs b hb,.inl hb,(I4.ok.exf b hb).2,fun p hp=>absurd (show p∈([]:List (Kc×KA)) from hp) (by simp)⟩
 have loop:codeAny (Ky X.prog X.w) X.A (.compLoop (.ListComp elt [⟨target,iter,ifs,0⟩] scope pos) 0 (.ref it) (.ref D) (Zp X scope own N' s H fp h1.objs.size).env) (RR (.ref D) h1.objs.size) { s with heap:=h' }:=by
  refine jZ (fun n s'=>∃ i ys σ' H',Inv (Zp X scope own N' s H fp h1.objs.size) [] σ' H' s'/\tn i s'.heap/\(∀ b∈fp,H' b=none)/\W i n ys σ' H') ?_ m0 ⟨0,[],_,_,I4,st4,fr4,w0⟩
  rintro n s3 ⟨i,ys,σ3,H3,I3,st3,fr3,w3⟩
  obtain ⟨hD3,alt⟩:=turn i n ys σ3 H3 w3
  rcases alt with ⟨stop,qn⟩ | ⟨go,step⟩
  ·refine thn (T.done (Zp X scope own N' s H fp h1.objs.size) rfl rfl rfl hc i [] s3 σ3 H3 _ I3 (stat fr3) st3 stop) fun r s4 ⟨hr,I4'⟩=>?_
   subst hr
   exact hR D _ σ3 H3 s4 (Q6 sz1) I4' qn
  ·refine thn (T.item (Zp X scope own N' s H fp h1.objs.size) rfl rfl rfl hc i [] s3 σ3 H3 _ I3 (stat fr3) st3 go) fun r s4 ⟨u,hr,h4⟩=>?_
   subst hr
   refine thn h4 fun _ s5 ⟨x,H5,I5,r5,y5,st5,fr5⟩=>?_
   have I5':=I5.pinned (stat fr5) (T.obj _ _ st5)
   refine thn (hg s H fp h1.objs.size _ s5 σ3 H5 x u _ I5' r5 (step x H5 y5)) fun _ s6 ⟨σ6,H6,I6,q6⟩=>?_
   refine thn (ht s H fp h1.objs.size _ s6 σ6 H6 _ I6 q6) fun b s7 ⟨H7,I7,q7⟩=>?_
   have again:∀ {ys':List V} {σ8:St} {H8:Hp} {s8:Kb} {m':Nat},Inv (Zp X scope own N' s H fp h1.objs.size) ([]++WY fp s5.heap) σ8 H8 s8->m'<n->W (i+1) m' ys' σ8 H8->∃ m,m<n/\∃ i ys σ' H',Inv (Zp X scope own N' s H fp h1.objs.size) [] σ' H' s8/\tn i s8.heap/\(∀ b∈fp,H' b=none)/\W i m ys σ' H':=fun {ys' σ8 H8 s8 m'} I8 hm w8=>by
    refine ⟨m',hm,i+1,ys',σ8,H8,I8.unpinned,T.keep _ _ _ st5 fun b hb o e=>(I8.pin (b,o) (QF _ (QF _ (jp hb e)))).1,fun b hb=>?_,w8⟩
    obtain ⟨o,e,d⟩:=T.obj _ _ st5 b hb
    exact (I8.pin (b,o) (QF _ (QF _ (jp hb e)))).2.1
   cases b with
   | false =>
    obtain ⟨m',hm,w7⟩:∃ m',m'<n/\W (i+1) m' ys σ6 H7:=q7
    exact again I7 hm w7
   | true =>
    show Ko _ _ (Kz elt (Zp X scope own N' s H fp h1.objs.size).env) _ _ s7
    refine thn (he s H fp h1.objs.size _ s7 σ6 H7 _ I7 q7) fun u8 s8 ⟨v8,H8,I8,r8,hD8,hz8,m',hm,w8⟩=>?_
    refine thn (Y6 (X:=Zp X scope own N' s H fp h1.objs.size) _ s8 σ6 H8 (.ref D) [v8] (.ref D) [u8] (fun _ H9=>H9=upd H8 D (.lst (ys++[v8]))) I8 rfl (.cons r8 .nil) ⟨D,ys,v8,rfl,rfl,hD8,hz8,rfl⟩) fun _ s9 ⟨_,H9,I9,_,e9⟩=>?_
    subst e9
    exact again I9 hm w8
 exact codeAny_compStart_list loop (T.self _ 0 _ _ _ st4 loop)
theorem clos_ok (c:CompOk X scope own N' k) (hX:X.Ok):closureFor scope X.env=pure (Yz X.env scope.names []):=closure_of fun x hx hk=>by
 rcases c.free x hx hk with q | q
 ·exact hX.has x.1 (.inl q)
 ·exact hX.has x.1 (.inr q)
theorem gz {KK:List (Kc×KA)} {σ σ':St} {H H':Hp} {s s':Kb} {fp:List Kc} {C:Kc} {h2:Kl} (I:Inv X KK σ H s) (hf:∀ b∈fp,JG X KK H b) (hC:s.heap.objs.size<=C) (J:Inv (Zp X scope own N' s H fp C) [] σ' H' s') (hs:Heap.SameBut C s'.heap h2) :
  Inv X KK σ H' { s' with heap:=h2 } :=
 I.call' (s':={ s' with heap:=h2 }) (ch:=fp) J.os (J.base.but hs hC) (J.hok.but hs J.free) J.bare fun b hb=>⟨(hf b hb).2.2.2.1,(hf b hb).2.1,(hf b hb).2.2.2.2.1,(hf b hb).2.2.2.2.2⟩
theorem pe_comp {elt target iter:Kv} {ifs:List Kv} {pos:KB} {wi:TI} {g:TG} {tc:TT} {te:TE} (c:CompOk X scope own N' k) (hc:X.calm=true) (hi:PI X target iter wi)
  (hg:∀ s₂ H₂ fp C,PG (Zp X scope own N' s₂ H₂ fp C) target g) (ht:∀ s₂ H₂ fp C,PF (Zp X scope own N' s₂ H₂ fp C) ifs tc) (he:∀ s₂ H₂ fp C,PE (Zp X scope own N' s₂ H₂ fp C) elt te)
  (hs:∀ x,foldedSetIterable iter X.env x=pure x:=by intro _;rfl):PE X (.ListComp elt [⟨target,iter,ifs,0⟩] scope pos) (Jk k wi g tc te):=by
 intro KK s σ H Q I h
 rw [eval_ListComp]
 refine wpAny_comprehension_free (use:=none) rfl hs (clos_ok c I.ok) c.kind c.loc ?_
 refine thn (hi KK s σ H _ I h) fun v s1 h1=>thn h1 fun itv s2 h2=>?_
 obtain ⟨it,fp,tn,J,H2,e,I2,T,st2,f2,hw⟩:=h2
 subst e
 refine gm (RR:=fun acc C=>compPost (Ky X.prog X.w) X.A X.xe none (EP X KK σ Q) acc C) c hc hg ht he I2 T st2 f2 hw ?_
 intro D C σ' H' s' hC J' q
 obtain ⟨m,hn,_⟩:=J'.loc
 exact ⟨m,hn,fun h2 hs2=>⟨.ref D,H',gz I2 f2 hC J' hs2,rfl,q⟩⟩
theorem WW {i:Nat} {x:Kw} {pos' spos:KB} {elt target iter:Kv} {ifs:List Kv} {pos:KB} {wi:TI} {g:TG} {tc:TT} {te:TE} (hN:X.N.Nodup) (hix:X.N[i]?=some x) (hx:X.env.scope.names.lookup x=some .local) (c:CompOk X scope own N' k) (hc:X.calm=true) (hi:PI X target iter wi)
  (hg:∀ s₂ H₂ fp C,PG (Zp X scope own N' s₂ H₂ fp C) target g) (ht:∀ s₂ H₂ fp C,PF (Zp X scope own N' s₂ H₂ fp C) ifs tc) (he:∀ s₂ H₂ fp C,PE (Zp X scope own N' s₂ H₂ fp C) elt te)
  (hsw:Kt (.ListComp elt [⟨target,iter,ifs,0⟩] scope pos) (some (.Name x pos')) spos.line X.env=pure true)
  (hs:∀ x,foldedSetIterable iter X.env x=pure x:=by intro _;rfl):PS X (.Assign [.Name x pos'] (.ListComp elt [⟨target,iter,ifs,0⟩] scope pos) spos) (yG (Jk k wi g tc te) (ZR i)):=by
 intro KK s σ H Dn I h
 rw [exec_Assign_Name_used _ _ _ _ hsw]
 refine Qa (wpAny_standAt (Qa ?_))
 show Ko _ X.A (do let _ <- comprehension (.ListComp elt [⟨target,iter,ifs,0⟩] scope pos) scope X.env _ (newList []) false (Kz iter X.env) (some (assign (.Name x pos') X.env))) _ _ s
 refine Qa (thn (wpAny_comprehension_free (use:=some (assign (.Name x pos') X.env)) (Q:=fun _ s'=>SP X KK Dn .next s') rfl hs (clos_ok c I.ok) c.kind c.loc ?_) fun _ s' hq=>Qf (Qf hq))
 refine thn (hi KK s σ H _ I h) fun v s1 h1=>thn h1 fun itv s2 h2=>?_
 obtain ⟨it,fp,tn,J,H2,e,I2,T,st2,f2,hw⟩:=h2
 subst e
 refine gm (Q:=fun x H1=>ZR i x σ H1 Dn.nx) (RR:=fun acc C=>compPost (Ky X.prog X.w) X.A X.xe (some (assign (.Name x pos') X.env)) (fun _ s'=>SP X KK Dn .next s') acc C) c hc hg ht he I2 T st2 f2 hw ?_
 intro D C σ' H' s' hC J' q
 obtain ⟨m,hn,_⟩:=J'.loc
 have I3:Inv X KK σ H' s':=gz I2 f2 hC J' (.refl ..)
 show Ko _ X.A (assign (.Name x pos') X.env (.ref D)) _ _ _
 refine wpAny_assign_Name (store_ok2 (v:=.ref D) I3 hN hix (.inl hx) rfl (fun s4 I4 ⟨a,sb,ha⟩=>?_) (.inr hx))
 have hLa:a=X.env.locals\/X.env.cells.lookup x=some a:=ha
 have hlt:@LT.lt Nat instLTNat a s2.heap.objs.size:=by
  rcases hLa with z | z
  ·rw [z];exact I2.lt
  ·obtain ⟨v,q⟩:=I2.cell x a z
   exact q.lt
 have hne:C≠a:=by omega
 refine ⟨m,hn.sameBut sb hne,fun h2 hs2=>⟨_,H',?_,q⟩⟩
 have hpin:∀ p∈X.pn++KK,p.1≠C:=fun p hp z=>by
  exact absurd (Qs (Qm (I2.pin p hp).1) hC) (by rw [z];exact Q3 _)
 have hcell:∀ y a,X.env.cells.lookup y=some a->a≠C:=fun y a e z=>by
  obtain ⟨v,q⟩:=I2.cell y a e
  exact absurd (Qs q.lt hC) (by rw [z];exact Q3 _)
 exact I4.turned (t':=s4.toks) (fun b o hb e=>(hs2.2 b hb).trans e) J'.free (fun z=>absurd (Qs I2.lt hC) (by rw [z];exact Q3 _)) (.inr (Qw I2.sz hC)) hcell hpin
end
end L2
namespace L2
open PySem
def itCls:Bool->String
 | true=>"list_iterator"
 | false=>"tuple_iterator"
def Zg (k:Bool) (h:Kl) (it l:Kc) (i:Nat):Prop:=∃ o,h.get? it=some o/\o.cls=.type (itCls k)/\o.data=.fields #[.ref l,.int i 0]
def SeqAt:Bool->Kl->Kc->Array Ka->Prop
 | true,h,l,xs=>h.IsList l xs
 | false,h,l,xs=>h.IsTuple l xs
theorem Zg.at {k:Bool} {h h':Kl} {it l:Kc} {i:Nat} (x:Zg k h it l i) (e:∀ o,h.get? it=some o->h'.get? it=some o):Zg k h' it l i:=let ⟨o,ho,r⟩:=x;⟨o,e o ho,r⟩
theorem Zg.but {k:Bool} {h h':Kl} {it l b:Kc} {i:Nat} (x:Zg k h it l i) (e:Heap.ExtBut b h h') (n:it≠b):Zg k h' it l i:=x.at fun o q=>e it o n q
theorem SeqAt.at {k:Bool} {h h':Kl} {l:Kc} {xs:Array Ka} (x:SeqAt k h l xs) (e:∀ o,h.get? l=some o->h'.get? l=some o):SeqAt k h' l xs:=by
 cases k with
 | true=>obtain ⟨o,ho,r⟩:=x;exact ⟨o,e o ho,r⟩
 | false=>obtain ⟨o,ho,r⟩:=x;exact ⟨o,e o ho,r⟩
theorem SeqAt.but {k:Bool} {h h':Kl} {l b:Kc} {xs:Array Ka} (x:SeqAt k h l xs) (e:Heap.ExtBut b h h') (n:l≠b):SeqAt k h' l xs:=x.at fun o q=>e l o n q
theorem SeqAt.lt {k:Bool} {h:Kl} {l:Kc} {xs:Array Ka} (x:SeqAt k h l xs):l<h.objs.size:=by
 cases k with
 | true=>obtain ⟨o,ho,r⟩:=x;exact Qm ho
 | false=>obtain ⟨o,ho,r⟩:=x;exact Qm ho
section
variable {prog:Ki} {w:Kk} {A:Kj} {E:Ka->Kb->Prop} {s:Kb}
theorem wS {it t:Kc} {i:Nat} {xs:Array Ka} {x:Ka} {Q:Ka->Kb->Prop} (hi:s.heap.IsTupleIter it t i) (hl:s.heap.IsTuple t xs) (hx:xs[i]?=some x)
  (hQ:∀ h',h'.IsTupleIter it t (i+1)->Heap.SameBut it s.heap h'->Q x { s with heap:=h' }):Ko (Ky prog w) A (Builtin.SmallTypes.nextOf (.ref it)) Q E s:=by
 obtain ⟨o,ho,hc,hd⟩:=id hi
 obtain ⟨ot,hot,_,nt,hdt⟩:=hl
 unfold Builtin.SmallTypes.nextOf
 refine Qa (QU (name:=Str.ofString "__next__") hi.typeIs F.slot_tuple_iterator_next (Q0 F.slot_tuple_iterator_next hi.typeIs F.entry_tuple_iterator_next ?_ (F.args_tuple_iterator_next_1 _)))
 show Ko _ _ (field (.ref it) 0 >>= _) _ _ s;refine Qa (QC ho hd (x:=.ref t) rfl ?_)
 show Ko _ _ (if (Value.ref t == Value.none)=true then _ else _) _ _ s;rw [KS (show ¬ ((Value.ref t == Value.none)=true) from Qi)]
 show Ko _ _ (field (.ref it) 1 >>= _) _ _ s;refine Qa (QC ho hd (x:=.int i 0) rfl ?_)
 show Ko _ _ (seqItems? (.ref t) >>= _) _ _ s;refine Qa (QX hot hdt ?_)
 simp only [Pe,hx]
 refine Qa (PK ho hd (by simp) (Qf ⟨x,rfl,Qf (hQ _ ?_ (Heap.SameBut.update ..))⟩))
 exact ⟨_,QH _ ho (Obj.isFreed_of_fields (Obj.data_mapFields hd _)),(Obj.cls_mapFields ..).trans hc,by rw [Obj.data_mapFields hd];simp [rawInt]⟩
theorem W4 {it t:Kc} {i:Nat} {xs:Array Ka} {Q:Ka->Kb->Prop} (hh:A.handled=none) (hi:s.heap.IsTupleIter it t i) (hl:s.heap.IsTuple t xs) (hx:xs[i]?=none)
  (hE:∀ h' e,Heap.ExtBut it s.heap h'->(∃ o,h'.get? e=some o/\o.cls=.type "StopIteration")->E (.ref e) { s with heap:=h' }):Ko (Ky prog w) A (Builtin.SmallTypes.nextOf (.ref it)) Q E s:=by
 obtain ⟨o,ho,hc,hd⟩:=id hi
 obtain ⟨ot,hot,_,nt,hdt⟩:=hl
 unfold Builtin.SmallTypes.nextOf
 refine Qa (QU (name:=Str.ofString "__next__") hi.typeIs F.slot_tuple_iterator_next (Q0 F.slot_tuple_iterator_next hi.typeIs F.entry_tuple_iterator_next ?_ (F.args_tuple_iterator_next_1 _)))
 show Ko _ _ (field (.ref it) 0 >>= _) _ _ s;refine Qa (QC ho hd (x:=.ref t) rfl ?_)
 show Ko _ _ (if (Value.ref t == Value.none)=true then _ else _) _ _ s;rw [KS (show ¬ ((Value.ref t == Value.none)=true) from Qi)]
 show Ko _ _ (field (.ref it) 1 >>= _) _ _ s;refine Qa (QC ho hd (x:=.int i 0) rfl ?_)
 show Ko _ _ (seqItems? (.ref t) >>= _) _ _ s;refine Qa (QX hot hdt ?_)
 simp only [Pe,hx]
 refine Qa (PQ (Qa (PK ho hd (by simp) ?_)))
 show Ko _ _ (newExc (.type "StopIteration") [] >>= _) _ _ _;refine Qa ?_
 simp only [newExc,newTuple];refine Qa (QS ?_ (by size_fits))
 refine Qa (m:=firstArgMember _ _) (wpAny_of_eq (a:=Value.none) (by first | rfl | (simp only [firstArgMember];rfl)) ?_);refine QS ?_ (by size_fits)
 simp only [raiseNew];refine Qa (wpAny_handled ?_);first | rw [show A.in1.handled=none from hh] | rw [hh]
 refine Qa (Qf (wpAny_throw ?_));exact hE _ _ (((Heap.SameBut.update ..).extBut.push _).push _) ⟨_,Qq _ rfl,rfl⟩
theorem yD {k:Bool} {it l:Kc} {i:Nat} {xs:Array Ka} {x:Ka} {Q:Ka->Kb->Prop} (hi:Zg k s.heap it l i) (hl:SeqAt k s.heap l xs) (hx:xs[i]?=some x)
  (hQ:∀ h',Zg k h' it l (i+1)->Heap.SameBut it s.heap h'->Q x { s with heap:=h' }):Ko (Ky prog w) A (Builtin.SmallTypes.nextOf (.ref it)) Q E s:=by
 cases k with
 | true=>exact wpAny_nextOf_list_item hi hl hx hQ
 | false=>exact wS hi hl hx hQ
theorem jn {k:Bool} {it l:Kc} {i:Nat} {xs:Array Ka} {Q:Ka->Kb->Prop} (hh:A.handled=none) (hi:Zg k s.heap it l i) (hl:SeqAt k s.heap l xs) (hx:xs[i]?=none)
  (hE:∀ h' e,Heap.ExtBut it s.heap h'->(∃ o,h'.get? e=some o/\o.cls=.type "StopIteration")->E (.ref e) { s with heap:=h' }):Ko (Ky prog w) A (Builtin.SmallTypes.nextOf (.ref it)) Q E s:=by
 cases k with
 | true=>exact wpAny_nextOf_list_end hh hi hl hx hE
 | false=>exact W4 hh hi hl hx hE
def itObj (k:Bool) (l:Kc):KA:={ cls:=.type (itCls k),data:=.fields #[.ref l,.int 0 0] }
theorem WV {k:Bool} {l:Kc} {xs:Array Ka} {Q:Ka->Kb->Prop} (hl:SeqAt k s.heap l xs) (hQ:Q (.ref s.heap.objs.size) { s with heap:=s.heap.push (itObj k l) }):Ko (Ky prog w) A (pyIter (.ref l)) Q E s:=by
 cases k with
 | true=>exact wpAny_pyIter_list hl hQ
 | false=>exact P9 hl hQ
structure ZApart (z TI TO i1 i2:Kc):Prop where
 TIz:TI≠z
 TOz:TO≠z
 i1z:i1≠z
 i2z:i2≠z
 TITO:TI≠TO
 TIi1:TI≠i1
 TIi2:TI≠i2
 TOi1:TO≠i1
 TOi2:TO≠i2
 i12:i1≠i2
def J1 (z TI TO i1 i2 l:Kc):Prop:=l≠z/\l≠TO/\l≠i1/\l≠i2
variable {z TI TO i1 i2 l1 l2:Kc} {j1 j2:Bool} {k1 k2:Nat} {xs ys:Array Ka} {x y a b:Ka}
theorem zipn_item {Q:Ka->Kb->Prop} (D:ZApart z TI TO i1 i2) (n1:J1 z TI TO i1 i2 l1) (n2:J1 z TI TO i1 i2 l2) (hz:IsZip s.heap z TI TO .none) (hTI:IsPair s.heap TI (.ref i1) (.ref i2)) (hTO:IsPair s.heap TO a b)
  (h1:Zg j1 s.heap i1 l1 k1) (h2:Zg j2 s.heap i2 l2 k2) (hl1:SeqAt j1 s.heap l1 xs) (hl2:SeqAt j2 s.heap l2 ys) (hx:xs[k1]?=some x) (hy:ys[k2]?=some y)
  (hQ:∀ h',IsZip h' z TI TO (rawInt s.heap.objs.size)->IsPair h' TO x y->Zg j1 h' i1 l1 (k1+1)->Zg j2 h' i2 l2 (k2+1)->IsPair h' s.heap.objs.size x y->h'.objs.size=s.heap.objs.size+1 ->
   (∀ c o,c≠z->c≠TO->c≠i1->c≠i2->s.heap.get? c=some o->h'.get? c=some o)->Q (.ref s.heap.objs.size) { s with heap:=h' }) :
  Ko (Ky prog w) A (Builtin.«zip.__next__» ⟨[.ref z],[]⟩) (fun fin s'=>∃ v,fin=.done (.ret v)/\Q v s') E s:=by
 obtain ⟨p1,p2,p3,p4⟩:=n1
 obtain ⟨q1,q2,q3,q4⟩:=n2
 show Ko _ _ (field (.ref z) 2 >>= _) _ _ _;refine Qa (QC hz rfl (x:=.bool false) rfl ?_)
 show Ko _ _ (field (.ref z) 3 >>= _) _ _ _;refine Qa (QC hz rfl (x:=.ref TI) rfl ?_)
 refine Qa (QX hTI rfl ?_)
 show Ko _ _ (Builtin.SmallTypes.ownedTupleIsFree (.ref z) >>= _) _ _ _;refine Qa ?_
 unfold Builtin.SmallTypes.ownedTupleIsFree
 refine Qa (QC hz rfl (x:=.none) rfl (Qf ?_))
 simp only [if_true]
 refine Qa (PQ ?_)
 refine Qa (QC hz rfl (x:=.ref TO) rfl ?_)
 refine Qa (Q8 hz (by simp) fun g1 hz1 s1=>?_)
 replace hz1:IsZip g1 z TI TO .ellipsis:=hz1
 refine Qa ?_
 simp only [List.zipIdx_cons,List.zipIdx_nil,PD,PL]
 refine Qa (Qa (P7 ?_))
 show Ko _ _ (Builtin.SmallTypes.nextOf (.ref i1) >>= _) _ _ _
 refine Qa (yD (h1.but s1.extBut D.i1z) (hl1.but s1.extBut p1) hx fun g2 u2 s2=>Qf ?_)
 have t2:IsPair g2 TO a b:=s2.extBut _ _ D.TOi1 (s1.extBut _ _ D.TOz hTO)
 refine Qa (QX t2 rfl ?_)
 refine Qa (P0 t2 fun g3 t3 s3=>?_)
 replace t3:IsPair g3 TO x b:=t3
 refine Qa (wpAny_letGo (Qf ?_))
 refine Qa (Qa (P7 ?_))
 show Ko _ _ (Builtin.SmallTypes.nextOf (.ref i2) >>= _) _ _ _
 refine Qa (yD (((h2.but s1.extBut D.i2z).but s2.extBut D.i12.symm).but s3.extBut D.TOi2.symm) (((hl2.but s1.extBut q1).but s2.extBut q3).but s3.extBut q2) hy fun g4 u4 s4=>Qf ?_)
 have t4:IsPair g4 TO x b:=s4.extBut _ _ D.TOi2 t3
 refine Qa (QX t4 rfl ?_)
 refine Qa (P0 t4 fun g5 t5 s5=>?_)
 replace t5:IsPair g5 TO x y:=t5
 refine Qa (wpAny_letGo (Qf (Qf ?_)))
 refine Qa (QX t5 rfl ?_)
 refine Qa (wpAny_newTuple ?_)
 have sz:g5.objs.size=s.heap.objs.size:=by rw [s5.1,s4.1,s3.1,s2.1,s1.1]
 have hz5:IsZip g5 z TI TO .ellipsis:=s5.extBut _ _ D.TOz.symm (s4.extBut _ _ D.i2z.symm (s3.extBut _ _ D.TOz.symm (s2.extBut _ _ D.i1z.symm hz1)))
 have k5:∀ c o,c≠z->c≠TO->c≠i1->c≠i2->s.heap.get? c=some o->g5.get? c=some o:=fun c o c1 c2 c3 c4 e=>s5.extBut _ _ c2 (s4.extBut _ _ c4 (s3.extBut _ _ c2 (s2.extBut _ _ c3 (s1.extBut _ _ c1 e))))
 have v1:Zg j1 g5 i1 l1 (k1+1):=((u2.but s3.extBut D.TOi1.symm).but s4.extBut D.i12).but s5.extBut D.TOi1.symm
 have v2:Zg j2 g5 i2 l2 (k2+1):=u4.but s5.extBut D.TOi2.symm
 have zlt:z<g5.objs.size:=Qm hz5
 show Ko _ _ (Builtin.SmallTypes.ownedTupleHandOut (.ref z) (.ref g5.objs.size) >>= _) _ _ _;refine Qa ?_
 unfold Builtin.SmallTypes.ownedTupleHandOut
 have hz6:IsZip (g5.push { cls:=.type "tuple",data:=.seq #[x,y] }) z TI TO .ellipsis:=Qb _ hz5
 refine Qa (Q8 hz6 (by simp) fun g7 hz7 s7=>?_)
 replace hz7:IsZip g7 z TI TO (rawInt g5.objs.size):=hz7
 refine Q8 hz7 (by simp) fun g8 hz8 s8=>?_
 replace hz8:IsZip g8 z TI TO (rawInt g5.objs.size):=hz8
 have up:∀ c o,c≠z->g5.get? c=some o->g8.get? c=some o:=fun c o c1 e=>s8.extBut _ _ c1 (s7.extBut _ _ c1 (Qb _ e))
 have T8:IsPair g8 g5.objs.size x y:=s8.extBut _ _ (QE zlt) (s7.extBut _ _ (QE zlt) (Qq _ rfl))
 have e8:g8.objs.size=g5.objs.size+1:=by rw [s8.1,s7.1,QJ]
 rw [sz] at hz8 T8 e8
 refine Qf ⟨_,rfl,?_⟩
 show Q (.ref g5.objs.size) _
 rw [sz]
 exact hQ g8 hz8 (up _ _ D.TOz t5) (v1.at fun o e=>up _ o D.i1z e) (v2.at fun o e=>up _ o D.i2z e) T8 e8 fun c o c1 c2 c3 c4 e=>up c o c1 (k5 c o c1 c2 c3 c4 e)
theorem zipn_end {Q:Fin->Kb->Prop} (hh:A.handled=none) (D:ZApart z TI TO i1 i2) (n1:J1 z TI TO i1 i2 l1) (n2:J1 z TI TO i1 i2 l2) (hz:IsZip s.heap z TI TO .none) (hTI:IsPair s.heap TI (.ref i1) (.ref i2)) (hTO:IsPair s.heap TO a b)
  (h1:Zg j1 s.heap i1 l1 k1) (h2:Zg j2 s.heap i2 l2 k2) (hl1:SeqAt j1 s.heap l1 xs) (hl2:SeqAt j2 s.heap l2 ys) (hend:xs[k1]?=none\/ys[k2]?=none)
  (hE:∀ h' e,(∀ c o,c≠z->c≠TO->c≠i1->c≠i2->s.heap.get? c=some o->h'.get? c=some o)->(∃ o,h'.get? e=some o/\o.cls=.type "StopIteration")->E (.ref e) { s with heap:=h' }) :
  Ko (Ky prog w) A (Builtin.«zip.__next__» ⟨[.ref z],[]⟩) Q E s:=by
 obtain ⟨p1,p2,p3,p4⟩:=n1
 obtain ⟨q1,q2,q3,q4⟩:=n2
 show Ko _ _ (field (.ref z) 2 >>= _) _ _ _;refine Qa (QC hz rfl (x:=.bool false) rfl ?_)
 show Ko _ _ (field (.ref z) 3 >>= _) _ _ _;refine Qa (QC hz rfl (x:=.ref TI) rfl ?_)
 refine Qa (QX hTI rfl ?_)
 show Ko _ _ (Builtin.SmallTypes.ownedTupleIsFree (.ref z) >>= _) _ _ _;refine Qa ?_
 unfold Builtin.SmallTypes.ownedTupleIsFree
 refine Qa (QC hz rfl (x:=.none) rfl (Qf ?_))
 simp only [if_true]
 refine Qa (PQ ?_)
 refine Qa (QC hz rfl (x:=.ref TO) rfl ?_)
 refine Qa (Q8 hz (by simp) fun g1 hz1 s1=>?_)
 replace hz1:IsZip g1 z TI TO .ellipsis:=hz1
 refine Qa ?_
 simp only [List.zipIdx_cons,List.zipIdx_nil,PD,PL]
 refine Qa (Qa (P7 ?_))
 show Ko _ _ (Builtin.SmallTypes.nextOf (.ref i1) >>= _) _ _ _
 cases hx:xs[k1]? with
 | none =>
  refine Qa (jn hh (h1.but s1.extBut D.i1z) (hl1.but s1.extBut p1) hx fun g2 e s2 he=>?_)
  obtain ⟨oe,hoe,hce⟩:=he
  have hz2:IsZip g2 z TI TO .ellipsis:=s2 _ _ D.i1z.symm hz1
  have ez:e≠z:=fun x=>by subst x;rw [hz2] at hoe;cases hoe;simp at hce
  exact Q8 hz2 (by simp) fun g3 _ s3=>hE g3 e (fun c o c1 _ c3 _ x=>s3.extBut _ _ c1 (s2 _ _ c3 (s1.extBut _ _ c1 x))) ⟨oe,s3.extBut _ _ ez hoe,hce⟩
 | some x =>
  have hy:ys[k2]?=none:=by rcases hend with h | h;rw [hx] at h;cases h;exact h
  refine Qa (yD (h1.but s1.extBut D.i1z) (hl1.but s1.extBut p1) hx fun g2 u2 s2=>Qf ?_)
  have t2:IsPair g2 TO a b:=s2.extBut _ _ D.TOi1 (s1.extBut _ _ D.TOz hTO)
  refine Qa (QX t2 rfl ?_)
  refine Qa (P0 t2 fun g3 t3 s3=>?_)
  refine Qa (wpAny_letGo (Qf ?_))
  refine Qa (Qa (P7 ?_))
  show Ko _ _ (Builtin.SmallTypes.nextOf (.ref i2) >>= _) _ _ _
  refine Qa (jn hh (((h2.but s1.extBut D.i2z).but s2.extBut D.i12.symm).but s3.extBut D.TOi2.symm) (((hl2.but s1.extBut q1).but s2.extBut q3).but s3.extBut q2) hy fun g4 e s4 he=>?_)
  obtain ⟨oe,hoe,hce⟩:=he
  have hz4:IsZip g4 z TI TO .ellipsis:=s4 _ _ D.i2z.symm (s3.extBut _ _ D.TOz.symm (s2.extBut _ _ D.i1z.symm hz1))
  have ez:e≠z:=fun x=>by subst x;rw [hz4] at hoe;cases hoe;simp at hce
  exact Q8 hz4 (by simp) fun g5 _ s5=>hE g5 e (fun c o c1 c2 c3 c4 x=>s5.extBut _ _ c1 (s4 _ _ c4 (s3.extBut _ _ c2 (s2.extBut _ _ c3 (s1.extBut _ _ c1 x))))) ⟨oe,s5.extBut _ _ ez hoe,hce⟩
theorem jy {Q:Option Ka->Kb->Prop} (D:ZApart z TI TO i1 i2) (n1:J1 z TI TO i1 i2 l1) (n2:J1 z TI TO i1 i2 l2) (hz:IsZip s.heap z TI TO .none) (hTI:IsPair s.heap TI (.ref i1) (.ref i2)) (hTO:IsPair s.heap TO a b)
  (h1:Zg j1 s.heap i1 l1 k1) (h2:Zg j2 s.heap i2 l2 k2) (hl1:SeqAt j1 s.heap l1 xs) (hl2:SeqAt j2 s.heap l2 ys) (hx:xs[k1]?=some x) (hy:ys[k2]?=some y)
  (hQ:∀ h',IsZip h' z TI TO (rawInt s.heap.objs.size)->IsPair h' TO x y->Zg j1 h' i1 l1 (k1+1)->Zg j2 h' i2 l2 (k2+1)->IsPair h' s.heap.objs.size x y->h'.objs.size=s.heap.objs.size+1 ->
   (∀ c o,c≠z->c≠TO->c≠i1->c≠i2->s.heap.get? c=some o->h'.get? c=some o)->Q (some (.ref s.heap.objs.size)) { s with heap:=h' }):Ko (Ky prog w) A (pyNext (.ref z)) Q E s:=by
 have hT:s.TypeIs (.ref z) "zip":=⟨_,hz,rfl⟩
 unfold pyNext
 exact Qa (PN (QU (name:=Str.ofString "__next__") hT F.slot_zip_next (Q0 F.slot_zip_next hT F.entry_zip_next
  (zipn_item D n1 n2 hz hTI hTO h1 h2 hl1 hl2 hx hy fun h' a1 a2 a3 a4 a5 a6 a7=>Qf (hQ h' a1 a2 a3 a4 a5 a6 a7)) (F.args_zip_next_1 _))))
theorem jN {Q:Option Ka->Kb->Prop} (hh:A.handled=none) (D:ZApart z TI TO i1 i2) (n1:J1 z TI TO i1 i2 l1) (n2:J1 z TI TO i1 i2 l2) (hz:IsZip s.heap z TI TO .none) (hTI:IsPair s.heap TI (.ref i1) (.ref i2)) (hTO:IsPair s.heap TO a b)
  (h1:Zg j1 s.heap i1 l1 k1) (h2:Zg j2 s.heap i2 l2 k2) (hl1:SeqAt j1 s.heap l1 xs) (hl2:SeqAt j2 s.heap l2 ys) (hend:xs[k1]?=none\/ys[k2]?=none)
  (hQ:∀ h',(∀ c o,c≠z->c≠TO->c≠i1->c≠i2->s.heap.get? c=some o->h'.get? c=some o)->Q none { s with heap:=h' }):Ko (Ky prog w) A (pyNext (.ref z)) Q E s:=by
 have hT:s.TypeIs (.ref z) "zip":=⟨_,hz,rfl⟩
 unfold pyNext
 refine Qa (PN (QU (name:=Str.ofString "__next__") hT F.slot_zip_next (Q0 F.slot_zip_next hT F.entry_zip_next (zipn_end hh D n1 n2 hz hTI hTO h1 h2 hl1 hl2 hend fun h' e hk he=>?_) (F.args_zip_next_1 _))))
 obtain ⟨o,ho,hc⟩:=he
 refine Qa (wpAny_isInstance (T:="StopIteration") (b:=true) ⟨o,ho,hc⟩ isSubtype_stop ?_)
 exact Qf (hQ _ hk)
end
abbrev zH1 (j:Bool) (h:Kl) (l1:Kc):Kl:=h.push (itObj j l1)
abbrev zH2 (j1 j2:Bool) (h:Kl) (l1 l2:Kc):Kl:=(zH1 j1 h l1).push (itObj j2 l2)
abbrev zH3 (j1 j2:Bool) (h:Kl) (l1 l2:Kc):Kl:=(zH2 j1 j2 h l1 l2).push { cls:=.type "tuple",data:=.seq #[.ref h.objs.size,.ref (zH1 j1 h l1).objs.size] }
abbrev zH4 (j1 j2:Bool) (h:Kl) (l1 l2:Kc):Kl:=(zH3 j1 j2 h l1 l2).push { cls:=.type "tuple",data:=.seq #[.none,.none] }
abbrev zH5 (j1 j2:Bool) (h:Kl) (l1 l2:Kc):Kl:=(zH4 j1 j2 h l1 l2).push { cls:=.type "zip",data:=.fields #[.none,.bool false,.bool false,.ref (zH2 j1 j2 h l1 l2).objs.size,.ref (zH3 j1 j2 h l1 l2).objs.size] }
theorem zip_new (j1 j2:Bool) (l1 l2:Kc) (xs ys:Array Ka) :
  Meets (Builtin.«zip.__new__» ⟨[.type "zip",.ref l1,.ref l2],[]⟩) (fun _ R s=>SeqAt j1 s.heap l1 xs/\SeqAt j2 s.heap l2 ys/\R (.ok (.ret (.ref (zH4 j1 j2 s.heap l1 l2).objs.size))) { s with heap:=zH5 j1 j2 s.heap l1 l2 }) :=
 .of_wp fun prog w A R s h=>by
  obtain ⟨hp,g,d,tk,os⟩:=s
  obtain ⟨hl1,hl2,h⟩:=h
  have hsub:=sub_zip
  have L1:SeqAt j1 (Shared.heap ⟨hp,g,d,tk,os⟩) l1 xs:=hl1
  have L2:SeqAt j2 (Shared.heap ⟨hp.push (itObj j1 l1),g,d,tk,os⟩) l2 ys:=hl2.at fun o e=>Qb _ e
  wp_walk using WV L1,WV L2
  exact ⟨_,rfl,h⟩
section
variable {prog:Ki} {w:Kk} {A:Kj} {E:Ka->Kb->Prop} {s:Kb}
theorem J0 {j1 j2:Bool} {l1 l2:Kc} {xs ys:Array Ka} {Q:Ka->Kb->Prop} (hl1:SeqAt j1 s.heap l1 xs) (hl2:SeqAt j2 s.heap l2 ys)
  (h:∀ h',IsZip h' (s.heap.objs.size+4) (s.heap.objs.size+2) (s.heap.objs.size+3) .none->IsPair h' (s.heap.objs.size+2) (.ref s.heap.objs.size) (.ref (s.heap.objs.size+1)) ->
   IsPair h' (s.heap.objs.size+3) .none .none->Zg j1 h' s.heap.objs.size l1 0->Zg j2 h' (s.heap.objs.size+1) l2 0->h'.objs.size=s.heap.objs.size+5 ->
   (∀ c o,s.heap.get? c=some o->h'.get? c=some o)->Q (.ref (s.heap.objs.size+4)) { s with heap:=h' }):Ko (Ky prog w) A (call (.type "zip") [.ref l1,.ref l2]) Q E s:=by
 refine callType_new F.called_zip (by decide) (F.typeCall_zip_2 _ _) (F.newCall_zip_2 _ _) (fun obj=>F.args_object_init_3 obj _ _) F.entry_zip_new (zip_new j1 j2 l1 l2 xs ys) ⟨hl1,hl2,?_⟩
 have z1:(zH1 j1 s.heap l1).objs.size=s.heap.objs.size+1:=QJ ..
 have z2:(zH2 j1 j2 s.heap l1 l2).objs.size=s.heap.objs.size+2:=by rw [QJ,z1]
 have z3:(zH3 j1 j2 s.heap l1 l2).objs.size=s.heap.objs.size+3:=by rw [QJ,z2]
 have z4:(zH4 j1 j2 s.heap l1 l2).objs.size=s.heap.objs.size+4:=by rw [QJ,z3]
 have z5:(zH5 j1 j2 s.heap l1 l2).objs.size=s.heap.objs.size+5:=by rw [QJ,z4]
 have g5:(zH5 j1 j2 s.heap l1 l2).get? (zH4 j1 j2 s.heap l1 l2).objs.size=some _:=Qq _ rfl
 have g4:(zH5 j1 j2 s.heap l1 l2).get? (zH3 j1 j2 s.heap l1 l2).objs.size=some _:=Qb _ (Qq _ rfl)
 have g3:(zH5 j1 j2 s.heap l1 l2).get? (zH2 j1 j2 s.heap l1 l2).objs.size=some _:=Qb _ (Qb _ (Qq _ rfl))
 have g2:(zH5 j1 j2 s.heap l1 l2).get? (zH1 j1 s.heap l1).objs.size=some (itObj j2 l2):=Qb _ (Qb _ (Qb _ (Qq _ rfl)))
 have g1:(zH5 j1 j2 s.heap l1 l2).get? s.heap.objs.size=some (itObj j1 l1):=Qb _ (Qb _ (Qb _ (Qb _ (Qq _ rfl))))
 show _/\_
 rw [z2,z3,z4] at g5
 rw [z1,z2] at g3
 rw [z3] at g4
 rw [z1] at g2
 rw [z4]
 exact ⟨⟨_,g5,rfl⟩,h _ g5 g3 g4 ⟨_,g1,rfl,rfl⟩ ⟨_,g2,rfl,rfl⟩ z5 fun c o x=>Qb _ (Qb _ (Qb _ (Qb _ (Qb _ x))))⟩
end
end L2
namespace L2
open PySem
open AutoSeq1 (wpAny_loadPart')
section
variable {prog:Ki} {w:Kk} {A:Kj} {E:Ka->Kb->Prop} {s:Kb}
end
end L2
namespace L2
open PySem PySem.Spec PyProof.Rows
def Sq (k:Bool) (K:KC) (H:Hp) (a:Kc) (xs:List V):Prop:=match k with | true=>SqL K H a xs | false=>SqT K H a xs
theorem Inv.seq {X:Cx} {KK:List (Kc×KA)} {σ:St} {H:Hp} {s:Kb} {k:Bool} {a:Kc} {xs:List V} (I:Inv X KK σ H s) (h:Sq k X.K H a xs):∃ KQ:List Ka,zP xs KQ/\SeqAt k s.heap a KQ.toArray/\xs.length<=Kg:=by
 cases k with
 | true=>obtain ⟨KQ,r,p,z⟩:=I.list h;exact ⟨KQ,r,p.isList,z⟩
 | false=>obtain ⟨KQ,r,p,z⟩:=I.tuple h;exact ⟨KQ,r,p,z⟩
theorem Inv.seq_inj {X:Cx} {KK:List (Kc×KA)} {σ:St} {H:Hp} {s:Kb} {k:Bool} {a:Kc} {xs ys:List V} (I:Inv X KK σ H s) (h:Sq k X.K H a xs) (h':Sq k X.K H a ys):xs=ys:=by
 cases k with
 | true=>exact I.list_inj h h'
 | false=>exact I.tuple_inj h h'
def Itz (j1 j2:Bool) (K:KC) (a b:Kc):It :=
  ⟨fun i H=>∃ xs ys x y,Sq j1 K H a xs/\Sq j2 K H b ys/\xs[i]?=some x/\ys[i]?=some y,
   fun i H v H'=>∃ p x y,v=.ref p/\H p=none/\H'=upd H p (.tup [x,y])/\(∀ xs,Sq j1 K H a xs->xs[i]?=some x)/\∀ ys,Sq j2 K H b ys->ys[i]?=some y,
   fun i H=>∃ xs ys,Sq j1 K H a xs/\Sq j2 K H b ys/\(xs.length<=i\/ys.length<=i)⟩
def tnZip (j1 j2:Bool) (z TI TO i1 i2 l1 l2:Kc) (i:Nat) (h:Kl):Prop:=IsZip h z TI TO .none/\IsPair h TI (.ref i1) (.ref i2)/\(∃ a b,IsPair h TO a b)/\Zg j1 h i1 l1 i/\Zg j2 h i2 l2 i
theorem Jf {X:Cx} {KK:List (Kc×KA)} {σ:St} {H:Hp} {s:Kb} {k:Bool} {a b:Kc} {xs:List V} (I:Inv X KK σ H s) (h:Sq k X.K H a xs) (hb:JG X KK H b):a≠b:=by
 intro e
 subst e
 obtain ⟨h0,h1,h2,h3,h4,h5⟩:=hb
 have key:∀ u,Rd H a u->False:=fun u r=>by
  rcases r with r | ⟨o,r⟩ <;> (rw [h0] at r;cases r)
 have mod:∀ o,X.K.lookup a=some o->False:=fun o e=>by
  obtain ⟨o',e',_⟩:∃ o',X.base.get? a=some o'/\True:=⟨_,I.ok.mod.kin a o e,trivial⟩
  rcases h3 with z | z
  ·exact I.ok.noex a o' e' z
  ·have q1:@LT.lt Nat instLTNat a X.base.objs.size:=Qm e'
   have:=I.ok.bsz
   omega
 cases k with
 | true =>
  rcases h with h | ⟨o,_,_,e,_⟩
  ·exact key _ h
  ·exact mod o e
 | false =>
  rcases h with h | ⟨o,_,_,e,_⟩
  ·exact key _ h
  ·exact mod o e
theorem turn_zip {P:Ki} {w:Kk} {K:KC} {elts:List Kv} {kk:Nat} {pp:KB} {j1 j2:Bool} {z TI TO i1 i2 l1 l2:Kc} (D:ZApart z TI TO i1 i2) :
  w6 P w K (.Tuple elts kk pp) (Itz j1 j2 K l1 l2) [z,TI,TO,i1,i2] z (tnZip j1 j2 z TI TO i1 i2 l1 l2) where
 mem:=by simp
 obj:=fun i h st b hb=>by
  obtain ⟨a1,a2,⟨_,_,a3⟩,⟨o4,a4,_,d4⟩,⟨o5,a5,_,d5⟩⟩:=st
  simp only [Qc,Qn,or_false] at hb
  rcases hb with rfl | rfl | rfl | rfl | rfl
  ·exact ⟨_,a1,fun v q=>by cases (show Data.fields _=Data.cell v from q)⟩
  ·exact ⟨_,a2,fun v q=>by cases (show Data.seq _ _=Data.cell v from q)⟩
  ·exact ⟨_,a3,fun v q=>by cases (show Data.seq _ _=Data.cell v from q)⟩
  ·exact ⟨_,a4,fun v q=>by rw [d4] at q;cases q⟩
  ·exact ⟨_,a5,fun v q=>by rw [d5] at q;cases q⟩
 keep:=fun i h h' st k=>by
  obtain ⟨a1,a2,⟨a,b,a3⟩,a4,a5⟩:=st
  exact ⟨k z (by simp) _ a1,k TI (by simp) _ a2,⟨a,b,k TO (by simp) _ a3⟩,a4.at fun o e=>k i1 (by simp) o e,a5.at fun o e=>k i2 (by simp) o e⟩
 item:=by
  intro X hP hw hK hc i KK s σ H E I hf st hg
  subst hP hw hK
  obtain ⟨xs,ys,x,y,hq1,hq2,hx,hy⟩:=hg
  obtain ⟨its1,r1,p1,_⟩:=I.seq hq1
  obtain ⟨its2,r2,p2,_⟩:=I.seq hq2
  obtain ⟨u1,e1,ru1⟩:=r1.get hx
  obtain ⟨u2,e2,ru2⟩:=r2.get hy
  obtain ⟨a1,a2,⟨a,b,a3⟩,a4,a5⟩:=st
  have fz:=hf z (by simp)
  have fO:=hf TO (by simp)
  have f1:=hf i1 (by simp)
  have f2:=hf i2 (by simp)
  have fI:=hf TI (by simp)
  refine jy D ⟨Jf I hq1 fz,Jf I hq1 fO,Jf I hq1 f1,Jf I hq1 f2⟩ ⟨Jf I hq2 fz,Jf I hq2 fO,Jf I hq2 f1,Jf I hq2 f2⟩ a1 a2 a3 a4 a5 p1 p2 (x:=u1) (y:=u2) (by simpa using e1) (by simpa using e2) fun h' b1 b2 b3 b4 b5 b6 hk=>?_
  refine ⟨.ref s.heap.objs.size,rfl,wpAny_letOwnedTupleGo_zip b1 fun h2 c1 sb=>?_⟩
  have hlt:∀ c∈[z,TI,TO,i1,i2],c<s.heap.objs.size:=fun c hc=>by
   obtain ⟨⟨_,_⟩,q⟩:(∃ o,s.heap.get? c=some o)/\True:=⟨by
    simp only [Qc,Qn,or_false] at hc
    rcases hc with rfl | rfl | rfl | rfl | rfl
    ·exact ⟨_,a1⟩
    ·exact ⟨_,a2⟩
    ·exact ⟨_,a3⟩
    ·exact ⟨_,a4.choose_spec.1⟩
    ·exact ⟨_,a5.choose_spec.1⟩,trivial⟩
   rename_i o ho
   exact Qm ho
  have fr:H s.heap.objs.size=none:=I.hok.fresh (Ql _)
  have k2:∀ c o,c∉[z,TO,i1,i2]->s.heap.get? c=some o->h2.get? c=some o:=fun c o hc e=>by
   simp only [Qc,Qn,or_false,not_or] at hc
   exact (sb.2 c hc.1).trans (hk c o hc.1 hc.2.1 hc.2.2.1 hc.2.2.2 e)
  have T2:h2.get? s.heap.objs.size=some { cls:=.type "tuple",data:=.seq #[u1,u2] }:=(sb.2 _ (QE (hlt z (by simp)))).trans b5
  have hch:∀ b∈[z,TO,i1,i2],(b∈X.ex\/X.s₀.heap.objs.size<=b)/\b≠X.env.locals/\(∀ x c,X.env.cells.lookup x=some c->c≠b)/\∀ p∈X.pn++KK,p.1≠b:=fun b hb=>by
   have fb:JG X KK H b:=hf b (by simp only [Qc,Qn,or_false] at hb ⊢;rcases hb with rfl | rfl | rfl | rfl <;> simp)
   exact ⟨fb.2.2.2.1,fb.2.1,fb.2.2.2.2.1,fb.2.2.2.2.2⟩
  have hnone:∀ b∈[z,TO,i1,i2],H b=none:=fun b hb=>(hf b (by simp only [Qc,Qn,or_false] at hb ⊢;rcases hb with rfl | rfl | rfl | rfl <;> simp)).1
  have ntr:∀ b u,H b=some u->b∉[z,TO,i1,i2]:=fun b u e hb=>by rw [hnone b hb] at e;cases e
  have Hok:HOk X.prog X.w (upd H s.heap.objs.size (.tup [x,y])) h2:=fun c o e=>by
   by_cases hcs:c=s.heap.objs.size
   ·subst hcs
    rw [zu] at e
    cases e
    exact ⟨by show 2<=Kg;decide,[u1,u2],.cons ru1 (.cons ru2 .nil),⟨_,T2,rfl,_,rfl⟩⟩
   ·rw [zv hcs] at e
    refine (I.hok c o e).stay (fun d v hd q=>k2 d v ?_ q) (fun d q=>?_) fun d xs q=>?_
    ·rcases hd with rfl | hd
     ·exact ntr _ _ e
     ·exact ntr _ _ hd
    ·rw [zv (Z0 q fr)];exact q
    ·rw [zv (Z0 q fr)];exact q
  have nsz:∀ c o,s.heap.get? c=some o->c≠s.heap.objs.size:=fun c o e=>Qu (Qm e)
  have thr:∀ c∈[z,TO,i1,i2],∃ o,h2.get? c=some o:=fun c hc=>by
   simp only [Qc,Qn,or_false] at hc
   rcases hc with rfl | rfl | rfl | rfl
   ·exact ⟨_,c1⟩
   ·exact ⟨_,(sb.2 _ D.TOz).trans b2⟩
   ·obtain ⟨o,ho,_⟩:=b3;exact ⟨_,(sb.2 _ D.i1z).trans ho⟩
   ·obtain ⟨o,ho,_⟩:=b4;exact ⟨_,(sb.2 _ D.i2z).trans ho⟩
  have I2:Inv X KK σ (upd H s.heap.objs.size (.tup [x,y])) { s with heap:=h2,toks:=s.toks }:=by
   refine I.step (g':=s.gens) (d':=s.drawn) (ch:=[z,TO,i1,i2]) hch (fun b o _ _ hb e _=>k2 b o hb e) (fun b o _ _ hb e _=>⟨o.slots,k2 b o hb e⟩) (fun b o _ e n=>by rw [zv (nsz b o e)];exact n) (fun b o hb e=>⟨o,k2 b o hb e⟩)
    (fun b xs e=>by rw [zv (Z0 e fr)];exact e) (fun b o u e=>by rw [zv (Z0 e fr)];exact e) (fun b ps e=>⟨#[],by rw [zv (Z0 e fr),e];simp⟩) (fun m hm=>?_) Hok I.bare
   obtain ⟨o,es,ep,ho,r⟩:=hm
   refine ⟨o,es,ep,k2 _ o (fun hb=>(hch _ hb).2.1 rfl) ho,r⟩
  refine ⟨.ref s.heap.objs.size,_,I2,rfl,⟨_,x,y,rfl,fr,rfl,fun zs hz=>by rw [I.seq_inj hz hq1];exact hx,fun zs hz=>by rw [I.seq_inj hz hq2];exact hy⟩,⟨c1,?_,⟨_,_,(sb.2 _ D.TOz).trans b2⟩,b3.at fun o e=>(sb.2 _ D.i1z).trans e,b4.at fun o e=>(sb.2 _ D.i2z).trans e⟩,fun b hb=>?_⟩
  ·exact k2 TI _ (by simp only [Qc,Qn,or_false,not_or];exact ⟨D.TIz,D.TITO,D.TIi1,D.TIi2⟩) a2
  ·rw [zv (Qu (hlt b hb))];exact (hf b hb).1
 done:=by
  intro X hP hw hK hc i KK s σ H E I hf st hg
  subst hP hw hK
  obtain ⟨xs,ys,hq1,hq2,hend⟩:=hg
  obtain ⟨its1,r1,p1,_⟩:=I.seq hq1
  obtain ⟨its2,r2,p2,_⟩:=I.seq hq2
  obtain ⟨a1,a2,⟨a,b,a3⟩,a4,a5⟩:=st
  have fz:=hf z (by simp)
  have fO:=hf TO (by simp)
  have f1:=hf i1 (by simp)
  have f2:=hf i2 (by simp)
  have l1':=r1.length
  have l2':=r2.length
  refine jN (I.ok.hd hc) D ⟨Jf I hq1 fz,Jf I hq1 fO,Jf I hq1 f1,Jf I hq1 f2⟩ ⟨Jf I hq2 fz,Jf I hq2 fO,Jf I hq2 f1,Jf I hq2 f2⟩ a1 a2 a3 a4 a5 p1 p2 (hend.imp (fun q=>by simp;omega) fun q=>by simp;omega) fun h' hk=>⟨rfl,?_⟩
  have hch:∀ b∈[z,TO,i1,i2],(b∈X.ex\/X.s₀.heap.objs.size<=b)/\b≠X.env.locals/\(∀ x c,X.env.cells.lookup x=some c->c≠b)/\∀ p∈X.pn++KK,p.1≠b:=fun b hb=>by
   have fb:JG X KK H b:=hf b (by simp only [Qc,Qn,or_false] at hb ⊢;rcases hb with rfl | rfl | rfl | rfl <;> simp)
   exact ⟨fb.2.2.2.1,fb.2.1,fb.2.2.2.2.1,fb.2.2.2.2.2⟩
  have hnone:∀ b∈[z,TO,i1,i2],H b=none:=fun b hb=>(hf b (by simp only [Qc,Qn,or_false] at hb ⊢;rcases hb with rfl | rfl | rfl | rfl <;> simp)).1
  have ntr:∀ b u,H b=some u->b∉[z,TO,i1,i2]:=fun b u e hb=>by rw [hnone b hb] at e;cases e
  have k2:∀ c o,c∉[z,TO,i1,i2]->s.heap.get? c=some o->h'.get? c=some o:=fun c o hc e=>by
   simp only [Qc,Qn,or_false,not_or] at hc
   exact hk c o hc.1 hc.2.1 hc.2.2.1 hc.2.2.2 e
  refine I.step (g':=s.gens) (d':=s.drawn) (t':=s.toks) (ch:=[z,TO,i1,i2]) hch (fun b o _ _ hb e _=>k2 b o hb e) (fun b o _ _ hb e _=>⟨o.slots,k2 b o hb e⟩) (fun b o _ e n=>n) (fun b o hb e=>⟨o,k2 b o hb e⟩)
   (fun b xs e=>e) (fun b o u e=>e) (fun b ps e=>⟨#[],by rw [e];simp⟩) (fun m hm=>?_) (fun c o e=>?_) I.bare
  ·obtain ⟨o,es,ep,ho,r⟩:=hm
   exact ⟨o,es,ep,k2 _ o (fun hb=>(hch _ hb).2.1 rfl) ho,r⟩
  ·refine (I.hok c o e).stay (fun d v hd q=>k2 d v ?_ q) (fun d q=>q) fun d xs q=>q
   rcases hd with rfl | hd
   ·exact ntr _ _ e
   ·exact ntr _ _ hd
 self:=fun _ _ _ _ _ st h=>wpAny_pyIter_zip st.1 h
theorem zapart_new (n:Nat):ZApart (n+4) (n+2) (n+3) n (n+1):=by
 constructor <;> exact (show ∀ a b:Nat,a≠b->a≠b from fun _ _ h=>h) _ _ (by omega)
section
variable {X:Cx}
def iZip (j1 j2:Bool) (K:KC) (ta:TA):TI:=fun σ H R=>ta σ H fun vs H1=>∃ a b,vs=[.ref a,.ref b]/\(∃ xs,Sq j1 K H1 a xs)/\(∃ ys,Sq j2 K H1 b ys)/\R (Itz j1 j2 K a b) H1
theorem pi_zip (j1 j2:Bool) {elts:List Kv} {kk:Nat} {pp:KB} {a b:Kv} {ta:TA} {p pos:KB} (hg:Gl X "zip") (hm:X.mg "zip"=none) (ha:PA X [a,b] ta) (hs:Ke [a,b] X.env=[(false,Kz a X.env),(false,Kz b X.env)]:=by rfl) (hs2:Ke [b] X.env=[(false,Kz b X.env)]:=by rfl) :
  PI X (.Tuple elts kk pp) (.Call (.Name "zip" p) [a,b] [] pos) (iZip j1 j2 X.K ta):=by
 intro KK s σ H R I h
 refine Call_ (jT I hg hm boot_zip (KI (thn (ha pos KK s σ H _ I h) fun us s1 ⟨vs,H1,I1,r1,q1⟩=>?_) (by rw [hs,hs2]) (by rw [hs2];rfl)))
 obtain ⟨a,b,e,⟨xs,hx⟩,⟨ys,hy⟩,q⟩:=q1
 subst e
 cases r1 with
 | cons r rr =>
  cases rr with
  | cons r' rr =>
   cases rr
   cases r
   cases r'
   obtain ⟨its1,_,p1,_⟩:=I1.seq hx
   obtain ⟨its2,_,p2,_⟩:=I1.seq hy
   refine J0 p1 p2 fun h' c1 c2 c3 c4 c5 c6 up=>wpAny_pyIter_zip c1 ?_
   have I2:Inv X KK σ H1 { s1 with heap:=h' }:=I1.kept (t':=s1.toks) up
   refine ⟨s1.heap.objs.size+4,[s1.heap.objs.size+4,s1.heap.objs.size+2,s1.heap.objs.size+3,s1.heap.objs.size,s1.heap.objs.size+1],_,_,H1,rfl,I2,turn_zip (j1:=j1) (j2:=j2) (TI:=s1.heap.objs.size+2) (TO:=s1.heap.objs.size+3) (i1:=s1.heap.objs.size) (i2:=s1.heap.objs.size+1) (zapart_new _),⟨c1,c2,⟨_,_,c3⟩,c4,c5⟩,fun b hb=>?_,q⟩
   have hb':@LE.le Nat instLENat s1.heap.objs.size b:=by
    simp only [Qc,Qn,or_false] at hb
    rcases hb with rfl | rfl | rfl | rfl | rfl
    ·exact Q7 _ 4
    ·exact Q7 _ 2
    ·exact Q7 _ 3
    ·exact Ql _
    ·exact Q7 _ 1
   have:=I1.fpOk (H':=H1) hb' (I1.hok.fresh hb')
   exact this
end
end L2
namespace M
open PySem PySem.Spec L2
open PySem.W (Frag)
inductive D where
 | non | bl (b:Bool) | int (i:Int) | str (x:Kw) | tup (xs:List D) | lst (xs:List D) | dict (ks:List Key) (vs:List D)
  | scr (ns:List Int)
  | adr (a:Kc)
  | kset (ks:List (List Int))
  | tk (ns:List Int)
  | pin (a:Kc) (d:D)
def KL (K:KC) (a:Kc) (xs:List V):Prop :=
 ∃ (o:KA) (KQ:Array Ka) (n:Nat),K.lookup a=some o/\o.cls=.type "list"/\o.dict=none/\o.data=.seq KQ n/\KQ.size<=Kg/\zP xs KQ.toList
def RL (K:KC) (H:Hp) (B:Kc->Prop) (a:Kc) (xs:List V):Prop:=Rd H a (.lst xs)/\¬ B a
def RS (K:KC) (H:Hp) (a:Kc) (xs:List V):Prop:=(∃ o,H a=some (.frz o (.lst xs)))\/KL K a xs
theorem RS.sq {K:KC} {H:Hp} {a:Kc} {xs:List V} (h:RS K H a xs):SqL K H a xs:=by
 rcases h with h | h
 ·exact .inl (.inr h)
 ·exact .inr h
theorem RL.sq {K:KC} {H:Hp} {B:Kc->Prop} {a:Kc} {xs:List V} (h:RL K H B a xs):SqL K H a xs:=.inl h.1
mutual
def Rep (K:KC) (H:Hp) (B:Kc->Prop):D->V->Prop
 | .non,v=>v=.non
 | .bl b,v=>v=.bl b
 | .int i,v=>v=.int i
 | .str x,v=>v=.str x
 | .tup ds,v=>∃ a xs,v=.ref a/\SqT K H a xs/\zm K H B ds xs
 | .lst ds,v=>∃ a xs,v=.ref a/\RL K H B a xs/\zm K H B ds xs
 | .dict ks ds,v=>∃ a KP,v=.ref a/\(H a=some (.dK KP)/\¬ B a)/\KP.map (·.1)=ks/\zm K H B ds (KP.map (·.2))
 | .scr ns,v=>∃ a,v=.ref a/\RS K H a (ns.map V.int)
 | .adr a,v=>v=.ref a
 | .kset _,v=>∃ a,v=.ref a
 | .tk ns,v=>∃ a,v=.ref a/\H a=some (.tup (ns.map V.int))
 | .pin a d,v=>v=.ref a/\Rep K H B d v
def zm (K:KC) (H:Hp) (B:Kc->Prop):List D->List V->Prop
 | [],vs=>vs=[]
 | d::ds,vs=>∃ v r,vs=v::r/\Rep K H B d v/\zm K H B ds r
end
mutual
def D.flat:D->Bool
 | .tup ds=>YR ds
 | .lst _=>false
 | .dict _ _=>false
 | .kset _=>false
 | .pin _ d=>d.flat
 | _=>true
def YR:List D->Bool
 | []=>true
 | d::ds=>d.flat&&YR ds
end
section
variable {K:KC} {H H':Hp} {B B':Kc->Prop}
theorem SqT.same {a:Kc} {xs:List V} (e:zQ H H') (h:SqT K H a xs):SqT K H' a xs:=by
 rcases h with (h | ⟨o,h⟩) | h
 ·exact .inl (.inl (e _ _ h))
 ·exact .inl (.inr ⟨o,e _ _ h⟩)
 ·exact .inr h
theorem Rd.same {a:Kc} {u:HO} (e:zQ H H') (h:Rd H a u):Rd H' a u:=by
 rcases h with h | ⟨o,h⟩
 ·exact .inl (e _ _ h)
 ·exact .inr ⟨o,e _ _ h⟩
structure Goes (H H':Hp) (B B':Kc->Prop):Prop where
 tup:∀ a xs,Rd H a (.tup xs)->Rd H' a (.tup xs)
 lst:∀ a xs,Rd H a (.lst xs)->¬ B a->Rd H' a (.lst xs)/\¬ B' a
 dct:∀ a KP,H a=some (.dK KP)->¬ B a->H' a=some (.dK KP)/\¬ B' a
 frz:∀ a o u,H a=some (.frz o u)->H' a=some (.frz o u)
 tkt:∀ a xs,H a=some (.tup xs)->H' a=some (.tup xs)
mutual
theorem Rep.goes (g:Goes H H' B B'):∀ (d:D) (v:V),Rep K H B d v->Rep K H' B' d v
 | .non,v,h=>by simpa [Rep] using h
 | .bl b,v,h=>by simpa [Rep] using h
 | .int i,v,h=>by simpa [Rep] using h
 | .str x,v,h=>by simpa [Rep] using h
 | .tup ds,v,h=>by
  simp only [Rep] at h ⊢
  obtain ⟨a,xs,e,hq,hr⟩:=h
  refine ⟨a,xs,e,?_,zm.goes g ds xs hr⟩
  rcases hq with hq | hq
  ·exact .inl (g.tup a xs hq)
  ·exact .inr hq
 | .lst ds,v,h=>by
  simp only [Rep] at h ⊢
  obtain ⟨a,xs,e,hq,hr⟩:=h
  exact ⟨a,xs,e,g.lst a xs hq.1 hq.2,zm.goes g ds xs hr⟩
 | .dict ks ds,v,h=>by
  simp only [Rep] at h ⊢
  obtain ⟨a,KP,e,⟨hq,hb⟩,hk,hr⟩:=h
  exact ⟨a,KP,e,g.dct a KP hq hb,hk,zm.goes g ds _ hr⟩
 | .scr ns,v,h=>by
  simp only [Rep] at h ⊢
  obtain ⟨a,e,hq⟩:=h
  refine ⟨a,e,?_⟩
  rcases hq with ⟨o,hq⟩ | hq
  ·exact .inl ⟨o,g.frz a o _ hq⟩
  ·exact .inr hq
 | .adr a,v,h=>by simpa [Rep] using h
 | .kset ks,v,h=>by simpa [Rep] using h
 | .tk ns,v,h=>by
  simp only [Rep] at h ⊢
  obtain ⟨a,e,q⟩:=h
  exact ⟨a,e,g.tkt a _ q⟩
 | .pin a d,v,h=>by
  simp only [Rep] at h ⊢
  exact ⟨h.1,Rep.goes g d v h.2⟩
theorem zm.goes (g:Goes H H' B B'):∀ (ds:List D) (vs:List V),zm K H B ds vs->zm K H' B' ds vs
 | [],vs,h=>by simpa [zm] using h
 | d::ds,vs,h=>by
  simp only [zm] at h ⊢
  obtain ⟨v,r,e,h1,h2⟩:=h
  exact ⟨v,r,e,Rep.goes g d v h1,zm.goes g ds r h2⟩
end
theorem Goes.less (h:∀ a,B' a->B a) (e:zQ H H'):Goes H H' B B' :=
 ⟨fun _ _ q=>Rd.same e q,fun a _ q n=>⟨Rd.same e q,fun z=>n (h a z)⟩,fun a _ q n=>⟨e _ _ q,fun z=>n (h a z)⟩,fun _ _ _ q=>e _ _ q,fun _ _ q=>e _ _ q⟩
theorem Goes.same (e:zQ H H'):Goes H H' B B:=.less (fun _ z=>z) e
theorem Goes.fresh {a:Kc} (hn:H a=none) (e:zQ H H'):Goes H H' B (fun b=>B b\/b=a) :=
  ⟨fun _ _ q=>Rd.same e q,fun b xs q n=>⟨Rd.same e q,fun z=>z.elim n fun z=>by subst z;rcases q with q | ⟨o,q⟩ <;> (rw [hn] at q;cases q)⟩,
   fun b _ q n=>⟨e _ _ q,fun z=>z.elim n fun z=>by subst z;rw [hn] at q;cases q⟩,fun _ _ _ q=>e _ _ q,fun _ _ q=>e _ _ q⟩
theorem Goes.write {a:Kc} {o u:HO} (hB:B a) (ha:H a=some u) (hm:Mut (some u)):Goes H (upd H a o) B B:=by
 have nt:∀ b w,H b=some w->(¬ ∃ z:Mut (some w),True)->b≠a:=fun b w q z e=>by subst e;rw [ha] at q;cases q;exact z ⟨hm,trivial⟩
 refine ⟨fun b xs q=>?_,fun b xs q n=>?_,fun b KP q n=>?_,fun b ob w q=>by rw [zv (nt b _ q fun ⟨z,_⟩=>z)];exact q,fun b xs q=>by rw [zv (nt b _ q fun ⟨z,_⟩=>z)];exact q⟩
 ·rcases q with q | ⟨ob,q⟩
  ·exact .inl (by rw [zv (nt b _ q fun ⟨z,_⟩=>z)];exact q)
  ·exact .inr ⟨ob,by rw [zv (nt b _ q fun ⟨z,_⟩=>z)];exact q⟩
 ·have hne:b≠a:=fun e=>n (by rw [e];exact hB)
  refine ⟨?_,n⟩
  rcases q with q | ⟨ob,q⟩
  ·exact .inl (by rw [zv hne];exact q)
  ·exact .inr ⟨ob,by rw [zv hne];exact q⟩
 ·have hne:b≠a:=fun e=>n (by rw [e];exact hB)
  exact ⟨by rw [zv hne];exact q,n⟩
mutual
theorem Rep.flat:∀ (d:D) (v:V),d.flat=true->Rep K H B d v->Rep K H B' d v
 | .non,v,_,h=>by simpa [Rep] using h
 | .bl b,v,_,h=>by simpa [Rep] using h
 | .int i,v,_,h=>by simpa [Rep] using h
 | .str x,v,_,h=>by simpa [Rep] using h
 | .tup ds,v,f,h=>by
  simp only [Rep] at h ⊢
  simp only [D.flat] at f
  obtain ⟨a,xs,e,hq,hr⟩:=h
  exact ⟨a,xs,e,hq,zm.flat ds xs f hr⟩
 | .lst ds,v,f,h=>by simp [D.flat] at f
 | .dict ks ds,v,f,h=>by simp [D.flat] at f
 | .scr ns,v,f,h=>by simpa [Rep] using h
 | .adr a,v,f,h=>by simpa [Rep] using h
 | .kset ks,v,f,h=>by simp [D.flat] at f
 | .tk ns,v,f,h=>by simpa [Rep] using h
 | .pin a d,v,f,h=>by
  simp only [Rep] at h ⊢
  simp only [D.flat] at f
  exact ⟨h.1,Rep.flat d v f h.2⟩
theorem zm.flat:∀ (ds:List D) (vs:List V),YR ds=true->zm K H B ds vs->zm K H B' ds vs
 | [],vs,_,h=>by simpa [zm] using h
 | d::ds,vs,f,h=>by
  simp only [zm] at h ⊢
  simp only [YR,QK] at f
  obtain ⟨v,r,e,h1,h2⟩:=h
  exact ⟨v,r,e,Rep.flat d v f.1 h1,zm.flat ds r f.2 h2⟩
end
theorem zm.length:∀ {ds:List D} {vs:List V},zm K H B ds vs->vs.length=ds.length
 | [],vs,h=>by simp only [zm] at h;subst h;rfl
 | d::ds,vs,h=>by
  simp only [zm] at h
  obtain ⟨v,r,e,h1,h2⟩:=h
  subst e
  simp [zm.length h2]
theorem zm.get:∀ {ds:List D} {vs:List V} {i:Nat} {d:D},zm K H B ds vs->ds[i]?=some d->∃ v,vs[i]?=some v/\Rep K H B d v
 | [],vs,i,d,h,e=>by simp at e
 | d::ds,vs,0,d',h,e=>by
  simp only [zm] at h
  obtain ⟨v,r,ev,h1,h2⟩:=h
  simp at e;subst e;subst ev
  exact ⟨v,rfl,h1⟩
 | d::ds,vs,i+1,d',h,e=>by
  simp only [zm] at h
  obtain ⟨v,r,ev,h1,h2⟩:=h
  subst ev
  obtain ⟨v',q1,q2⟩:=zm.get (i:=i) (d:=d') h2 (by simpa using e)
  exact ⟨v',by simpa using q1,q2⟩
theorem zm.append:∀ {ds es:List D} {vs ws:List V},zm K H B ds vs->zm K H B es ws->zm K H B (ds++es) (vs++ws)
 | [],es,vs,ws,h,h'=>by simp only [zm] at h;subst h;exact h'
 | d::ds,es,vs,ws,h,h'=>by
  simp only [zm] at h
  obtain ⟨v,r,ev,h1,h2⟩:=h
  subst ev
  simp only [Pw,zm]
  exact ⟨v,r++ws,rfl,h1,zm.append h2 h'⟩
theorem zm.nil:zm K H B [] []:=by simp [zm]
theorem zm.cons {d:D} {ds:List D} {v:V} {vs:List V} (h:Rep K H B d v) (h':zm K H B ds vs):zm K H B (d::ds) (v::vs):=by
 simp only [zm];exact ⟨v,vs,rfl,h,h'⟩
theorem zm.one {d:D} {v:V} (h:Rep K H B d v):zm K H B [d] [v]:=.cons h .nil
theorem zm.set:∀ {ds:List D} {vs:List V} {d:D} {v:V} (i:Nat),zm K H B ds vs->Rep K H B d v->zm K H B (ds.set i d) (vs.set i v)
 | [],vs,d,v,i,h,_=>by simp only [zm] at h;subst h;simp [zm]
 | d'::ds,vs,d,v,0,h,h'=>by
  simp only [zm] at h
  obtain ⟨v',r,ev,h1,h2⟩:=h
  subst ev
  exact .cons h' h2
 | d'::ds,vs,d,v,i+1,h,h'=>by
  simp only [zm] at h
  obtain ⟨v',r,ev,h1,h2⟩:=h
  subst ev
  exact .cons h1 (zm.set i h2 h')
theorem zm.take:∀ {ds:List D} {vs:List V} (n:Nat),zm K H B ds vs->zm K H B (ds.take n) (vs.take n)
 | [],vs,n,h=>by simp only [zm] at h;subst h;simp [zm]
 | d::ds,vs,0,h=>by simp [zm]
 | d::ds,vs,n+1,h=>by
  simp only [zm] at h
  obtain ⟨v',r,ev,h1,h2⟩:=h
  subst ev
  exact .cons h1 (zm.take n h2)
theorem zm.drop:∀ {ds:List D} {vs:List V} (n:Nat),zm K H B ds vs->zm K H B (ds.drop n) (vs.drop n)
 | [],vs,n,h=>by simp only [zm] at h;subst h;simp [zm]
 | d::ds,vs,0,h=>h
 | d::ds,vs,n+1,h=>by
  simp only [zm] at h
  obtain ⟨v',r,ev,h1,h2⟩:=h
  subst ev
  exact zm.drop n h2
theorem zm.rep {ds:List D} {vs:List V} (h:zm K H B ds vs):∀ k:Nat,zm K H B (List.replicate k ds).flatten (List.replicate k vs).flatten
 | 0=>.nil
 | k+1=>by
  rw [QN,QN,QY,QY]
  exact .append h (zm.rep h k)
theorem zm.ints {ns:List Int}:zm K H B (ns.map D.int) (ns.map V.int):=by
 induction ns with
 | nil=>exact .nil
 | cons n r ih=>exact .cons (by simp [Rep]) ih
theorem zm.ints':∀ {ns:List Int} {vs:List V},zm K H B (ns.map D.int) vs->vs=ns.map V.int
 | [],vs,h=>by simpa [zm] using h
 | n::r,vs,h=>by
  simp only [Qr,zm,Rep] at h
  obtain ⟨v,r',e,h1,h2⟩:=h
  subst e;subst h1
  rw [zm.ints' h2];rfl
end
abbrev Ev:=List (Option D)
def Bl (Uc:Kc->Prop) (os:List Nat) (σ:St) (a:Kc):Prop:=Uc a\/∃ i,i∈os/\σ[i]?=some (some (.ref a))
def BB (st:Bool) (Uc:Kc->Prop) (os:List Nat) (σ:St):Kc->Prop:=match st with | true=>Bl Uc os σ | false=>Uc
def Own (K:KC) (H:Hp) (B:Kc->Prop):HO->D->Prop
 | .lst xs,.lst ds=>zm K H B ds xs
 | .dK KP,.dict ks ds=>KP.map (·.1)=ks/\zm K H B ds (KP.map (·.2))
 | .dT KP,.kset ks=>KP=ks.map fun k=>(k.map Sum.inl,V.bl true)
 | _,_=>False
theorem Own.goes {K:KC} {H H':Hp} {B B':Kc->Prop} (g:Goes H H' B B') {o:HO} {d:D} (h:Own K H B o d):Own K H' B' o d:=by
 cases o <;> cases d <;> simp only [Own] at h ⊢
 ·exact zm.goes g _ _ h
 ·exact ⟨h.1,zm.goes g _ _ h.2⟩
 ·exact h
theorem Own.mut {K:KC} {H:Hp} {B:Kc->Prop} {o:HO} {d:D} (h:Own K H B o d):Mut (some o):=by
 cases o <;> cases d <;> simp only [Own] at h <;> trivial
structure Md (K:KC) (Ub:Hp) (Uc:Kc->Prop) (os:List Nat) (σ:St) (H:Hp) (ρ:Ev):Prop where
 grow:zQ Ub H
 blk:∀ a,Uc a->∃ o,H a=some o
 len:σ.length=ρ.length
 sh:∀ (i:Nat) d,ρ[i]?=some (some d)->i∉os->∃ v,σ[i]?=some (some v)/\Rep K H (Bl Uc os σ) d v
 own:∀ (i:Nat),i∈os->∃ a o d,σ[i]?=some (some (.ref a))/\ρ[i]?=some (some d)/\H a=some o/\(Ub a=none/\¬ Uc a)/\Own K H (Bl Uc os σ) o d
 sep:∀ (i j:Nat) a,i∈os->j∈os->σ[i]?=some (some (.ref a))->σ[j]?=some (some (.ref a))->i=j
section
variable {K:KC} {Ub H H':Hp} {Uc:Kc->Prop} {os os':List Nat} {σ:St} {ρ:Ev}
theorem Md.up (m:Md K Ub Uc os σ H ρ) (e:zQ H H'):Md K Ub Uc os σ H' ρ where
 grow:=m.grow.trans e
 blk:=fun a h=>let ⟨o,q⟩:=m.blk a h;⟨o,e _ _ q⟩
 len:=m.len
 sh:=fun i d q n=>by obtain ⟨v,h1,h2⟩:=m.sh i d q n;exact ⟨v,h1,Rep.goes (.same e) _ _ h2⟩
 own:=fun i hi=>by
  obtain ⟨a,o,d,h1,h2,h3,h4,h5⟩:=m.own i hi
  exact ⟨a,o,d,h1,h2,e _ _ h3,h4,h5.goes (.same e)⟩
 sep:=m.sep
theorem Md.tracked (m:Md K Ub Uc os σ H ρ) {a:Kc} (h:Bl Uc os σ a):∃ o,H a=some o:=by
 rcases h with h | ⟨i,hi,e⟩
 ·exact m.blk a h
 ·obtain ⟨a',o,d,h1,_,h3,_⟩:=m.own i hi
  rw [e] at h1;cases h1
  exact ⟨o,h3⟩
theorem Md.ntracked (m:Md K Ub Uc os σ H ρ) {a:Kc} (h:H a=none):¬ Bl Uc os σ a:=fun z=>by
 obtain ⟨o,q⟩:=m.tracked z;rw [h] at q;cases q
theorem Md.freeze (m:Md K Ub Uc os σ H ρ) (hs:∀ i∈os',i∈os):Md K Ub Uc os' σ H ρ:=by
 have less:∀ a,Bl Uc os' σ a->Bl Uc os σ a:=fun a z=>z.elim .inl fun ⟨i,h1,h2⟩=>.inr ⟨i,hs i h1,h2⟩
 have g:Goes H H (Bl Uc os σ) (Bl Uc os' σ):=.less less (.refl H)
 refine ⟨m.grow,m.blk,m.len,fun i d q n=>?_,fun i hi=>?_,fun i j a h1 h2=>m.sep i j a (hs i h1) (hs j h2)⟩
 ·by_cases hi:i∈os
  ·obtain ⟨a,o,d',h1,h2,h3,h4,h5⟩:=m.own i hi
   rw [q] at h2;cases h2
   refine ⟨_,h1,?_⟩
   have nb:¬ Bl Uc os' σ a:=fun z=>by
    rcases z with z | ⟨j,hj,e⟩
    ·exact h4.2 z
    ·exact n ((m.sep i j a hi (hs j hj) h1 e)▸hj)
   cases o <;> cases d <;> simp only [Own] at h5
   ·simp only [Rep];exact ⟨a,_,rfl,⟨.inl h3,nb⟩,zm.goes g _ _ h5⟩
   ·simp only [Rep];exact ⟨a,_,rfl,⟨h3,nb⟩,h5.1,zm.goes g _ _ h5.2⟩
   ·simp only [Rep];exact ⟨a,rfl⟩
  ·obtain ⟨v,h1,h2⟩:=m.sh i d q hi
   exact ⟨v,h1,Rep.goes g _ _ h2⟩
 ·obtain ⟨a,o,d,h1,h2,h3,h4,h5⟩:=m.own i (hs i hi)
  exact ⟨a,o,d,h1,h2,h3,h4,h5.goes g⟩
theorem zc {α:Type} {l:List α} {i j:Nat} {x:α} (h:j≠i):(l.set i x)[j]?=l[j]?:=by
 rw [List.getElem?_set];simp [Ne.symm h]
theorem yB {α:Type} {l:List α} {i:Nat} {x y:α} (h:(l.set i x)[i]?=some y):y=x:=by
 rw [List.getElem?_set] at h
 by_cases hi:i<l.length
 ·simp [hi] at h;exact h.symm
 ·simp [hi] at h
theorem zL {α:Type} {l:List α} {i:Nat} {x:α} (h:i<l.length):(l.set i x)[i]?=some x:=by simp [h]
theorem Md.put (m:Md K Ub Uc os σ H ρ) {i:Nat} {v:V} {d:D} (hs:∀ j∈os',j∈os/\j≠i) (hs2:∀ j∈os,j∈os'\/j=i) (h:Rep K H (Bl Uc os σ) d v):Md K Ub Uc os' (σ.set i (some v)) H (ρ.set i (some d)):=by
 have less:∀ a,Bl Uc os' (σ.set i (some v)) a->Bl Uc os σ a:=fun a z=>z.elim .inl fun ⟨j,h1,h2⟩=>.inr ⟨j,(hs j h1).1,by rw [zc (hs j h1).2] at h2;exact h2⟩
 have g:Goes H H (Bl Uc os σ) (Bl Uc os' (σ.set i (some v))):=.less less (.refl H)
 refine ⟨m.grow,m.blk,by rw [Qp,Qp];exact m.len,fun j e q n=>?_,fun j hj=>?_,fun j k a h1 h2=>?_⟩
 ·by_cases hj:j=i
  ·subst hj
   have:=yB q
   cases this
   have hi:j<ρ.length:=by have:=(Qh.mp q).1;rwa [Qp] at this
   exact ⟨v,zL (by rw [m.len];exact hi),Rep.goes g _ _ h⟩
  ·rw [zc hj] at q
   obtain ⟨w',h1,h2⟩:=m.sh j e q (fun z=>(hs2 j z).elim n hj)
   exact ⟨w',by rw [zc hj];exact h1,Rep.goes g _ _ h2⟩
 ·obtain ⟨a,o,e,h1,h2,h3,h4,h5⟩:=m.own j (hs j hj).1
  exact ⟨a,o,e,by rw [zc (hs j hj).2];exact h1,by rw [zc (hs j hj).2];exact h2,h3,h4,h5.goes g⟩
 ·rw [zc (hs j h1).2,zc (hs k h2).2]
  exact m.sep j k a (hs j h1).1 (hs k h2).1
theorem Md.putNew (m:Md K Ub Uc os σ H ρ) {i:Nat} {a:Kc} {o:HO} {d:D} (hi:i<ρ.length) (hs:∀ j∈os',j=i\/(j∈os/\j≠i)) (hs2:∀ j∈os,j∈os'\/j=i) (hm:i∈os') (e:zQ H H') (hn:H a=none) (ho:H' a=some o)
  (h:Own K H' (fun b=>Bl Uc os σ b\/b=a) o d):Md K Ub Uc os' (σ.set i (some (.ref a))) H' (ρ.set i (some d)):=by
 have hil:i<σ.length:=by rw [m.len];exact hi
 have less:∀ b,Bl Uc os' (σ.set i (some (.ref a))) b->Bl Uc os σ b\/b=a:=fun b z=>by
  rcases z with z | ⟨j,h1,h2⟩
  ·exact .inl (.inl z)
  ·rcases hs j h1 with rfl | ⟨q1,q2⟩
   ·rw [zL hil] at h2;cases h2;exact .inr rfl
   ·rw [zc q2] at h2;exact .inl (.inr ⟨j,q1,h2⟩)
 have g:Goes H H' (Bl Uc os σ) (Bl Uc os' (σ.set i (some (.ref a)))):=by
  have g1:=Goes.fresh (B:=Bl Uc os σ) hn e
  exact ⟨g1.tup,fun b xs q n=>⟨(g1.lst b xs q n).1,fun z=>(g1.lst b xs q n).2 (less b z)⟩,fun b xs q n=>⟨(g1.dct b xs q n).1,fun z=>(g1.dct b xs q n).2 (less b z)⟩,g1.frz,g1.tkt⟩
 have h0:Ub a=none/\¬ Uc a:=⟨m.grow.free hn,fun z=>by obtain ⟨u,q⟩:=m.blk a z;rw [hn] at q;cases q⟩
 refine ⟨m.grow.trans e,fun b h=>(let ⟨u,q⟩:=m.blk b h;⟨u,e _ _ q⟩),by rw [Qp,Qp];exact m.len,fun j c q n=>?_,fun j hj=>?_,fun j k b h1 h2=>?_⟩
 ·have hj:j≠i:=fun z=>n (z▸hm)
  rw [zc hj] at q
  obtain ⟨w',h1,h2⟩:=m.sh j c q (fun z=>(hs2 j z).elim n hj)
  exact ⟨w',by rw [zc hj];exact h1,Rep.goes g _ _ h2⟩
 ·rcases hs j hj with rfl | ⟨q1,q2⟩
  ·exact ⟨a,o,d,zL hil,zL hi,ho,h0,h.goes (.less less (.refl H'))⟩
  ·obtain ⟨b,u,c,h1,h2,h3,h4,h5⟩:=m.own j q1
   exact ⟨b,u,c,by rw [zc q2];exact h1,by rw [zc q2];exact h2,e _ _ h3,h4,h5.goes g⟩
 ·have nown:∀ l,l∈os->σ[l]?=some (some (.ref a))->False:=fun l hl q=>by
   obtain ⟨b,u,c,h1,h2,h3,_⟩:=m.own l hl
   rw [q] at h1;cases h1
   rw [hn] at h3;cases h3
  intro e1 e2
  rcases hs j h1 with rfl | ⟨q1,q2⟩
  ·rcases hs k h2 with rfl | ⟨q3,q4⟩
   ·rfl
   ·rw [zL hil] at e1;cases e1
    rw [zc q4] at e2
    exact (nown k q3 e2).elim
  ·rcases hs k h2 with rfl | ⟨q3,q4⟩
   ·rw [zL hil] at e2;cases e2
    rw [zc q2] at e1
    exact (nown j q1 e1).elim
   ·rw [zc q2] at e1;rw [zc q4] at e2
    exact m.sep j k b q1 q3 e1 e2
theorem Md.write (m:Md K Ub Uc os σ H ρ) {i:Nat} {a:Kc} {o:HO} {d:D} (hi:i∈os) (hs:σ[i]?=some (some (.ref a)))
  (h:Own K H (Bl Uc os σ) o d):Md K Ub Uc os σ (upd H a o) (ρ.set i (some d)):=by
 obtain ⟨a',o',d',h1,h2,h3,h4,h5⟩:=m.own i hi
 rw [hs] at h1;cases h1
 have hB:Bl Uc os σ a:=.inr ⟨i,hi,hs⟩
 have g:Goes H (upd H a o) (Bl Uc os σ) (Bl Uc os σ):=.write hB h3 h5.mut
 have hil:i<ρ.length:=(Qh.mp h2).1
 refine ⟨fun b u q=>?_,fun b hb=>?_,by rw [Qp];exact m.len,fun j c q n=>?_,fun j hj=>?_,m.sep⟩
 rotate_left
 ·by_cases z:b=a
  ·subst z;exact ⟨_,zu⟩
  ·rw [zv z];exact m.blk b hb
 rotate_left
 rotate_left
 ·by_cases hb:b=a
  ·subst hb;rw [h4.1] at q;cases q
  ·rw [zv hb];exact m.grow _ _ q
 ·have hj:j≠i:=fun z=>n (z▸hi)
  rw [zc hj] at q
  obtain ⟨w',q1,q2⟩:=m.sh j c q n
  exact ⟨w',q1,Rep.goes g _ _ q2⟩
 ·by_cases hji:j=i
  ·subst hji
   exact ⟨a,o,d,hs,zL hil,zu,h4,h.goes g⟩
  ·obtain ⟨b,u,c,q1,q2,q3,q4,q5⟩:=m.own j hj
   have hb:b≠a:=fun z=>hji (m.sep j i a hj hi (z▸q1) hs)
   exact ⟨b,u,c,q1,by rw [zc hji];exact q2,by rw [zv hb];exact q3,q4,q5.goes g⟩
theorem Md.get (m:Md K Ub Uc os σ H ρ) {i:Nat} {d:D} (q:ρ[i]?=some (some d)):∃ v,σ[i]?=some (some v)/\Rep K H Uc d v:=by
 obtain ⟨v,h1,h2⟩:=(m.freeze (os':=[]) (fun _ z=>nomatch z)).sh i d q (by simp)
 exact ⟨v,h1,Rep.goes (.less (fun a z=>.inl z) (.refl H)) _ _ h2⟩
def jH (H:Hp) (os:List Nat) (σ:St):Hp:=fun a=>open Classical in if ∃ i,i∈os/\σ[i]?=some (some (.ref a)) then none else H a
theorem unown_of {a:Kc} {o:HO} (h:jH H os σ a=some o):H a=some o/\¬ ∃ i,i∈os/\σ[i]?=some (some (.ref a)):=by
 unfold jH at h
 split at h
 ·cases h
 ·rename_i z;exact ⟨h,z⟩
theorem Y1 {a:Kc} (h:¬ ∃ i,i∈os/\σ[i]?=some (some (.ref a))):jH H os σ a=H a:=by
 unfold jH;rw [KS h]
theorem unown_own {a:Kc} (h:∃ i,i∈os/\σ[i]?=some (some (.ref a))):jH H os σ a=none:=by
 unfold jH;rw [KR h]
theorem Md.sub (m:Md K Ub Uc os σ H ρ):zQ Ub (jH H os σ):=fun a o q=>by
 have:¬ ∃ i,i∈os/\σ[i]?=some (some (.ref a)):=fun ⟨i,hi,e⟩=>by
  obtain ⟨a',o',d,h1,_,_,h4,_⟩:=m.own i hi
  rw [e] at h1;cases h1
  rw [h4.1] at q;cases q
 rw [Y1 this];exact m.grow _ _ q
theorem Md.deep (m:Md K Ub Uc os σ H ρ):Md K (jH H os σ) Uc os σ H ρ :=
 ⟨fun a o q=>(unown_of q).1,m.blk,m.len,m.sh,fun i hi=>by
  obtain ⟨a,o,d,h1,h2,h3,h4,h5⟩:=m.own i hi
  exact ⟨a,o,d,h1,h2,h3,⟨unown_own ⟨i,hi,h1⟩,h4.2⟩,h5⟩,m.sep⟩
theorem Md.shallow {H₁:Hp} (m:Md K H₁ Uc os σ H ρ) (e:zQ Ub H₁):Md K Ub Uc os σ H ρ :=
 ⟨e.trans m.grow,m.blk,m.len,m.sh,fun i hi=>by
  obtain ⟨a,o,d,h1,h2,h3,h4,h5⟩:=m.own i hi
  exact ⟨a,o,d,h1,h2,h3,⟨e.free h4.1,h4.2⟩,h5⟩,m.sep⟩
theorem Md.goDown (m:Md K Ub Uc os σ H ρ):Goes H (jH H os σ) (Bl Uc os σ) Uc:=by
 have nt:∀ a xs,Rd H a (.tup xs)->¬ ∃ i,i∈os/\σ[i]?=some (some (.ref a)):=fun a xs q ⟨i,hi,e⟩=>by
  obtain ⟨a',o',d,h1,_,h3,_,h5⟩:=m.own i hi
  rw [e] at h1;cases h1
  rcases q with q | ⟨ob,q⟩ <;> (rw [q] at h3;cases h3;cases d <;> simp only [Own] at h5)
 refine ⟨fun a xs q=>?_,fun a xs q n=>?_,fun a KP q n=>?_,fun a ob w q=>?_,fun a xs q=>(Y1 (H:=H) (nt a xs (.inl q))).trans q⟩
 rotate_left 3
 ·refine (Y1 (H:=H) ?_).trans q
  rintro ⟨i,hi,e⟩
  obtain ⟨a',o',d,h1,_,h3,_,h5⟩:=m.own i hi
  rw [e] at h1;cases h1
  rw [q] at h3;cases h3;cases d <;> simp only [Own] at h5
 ·have z:=Y1 (H:=H) (nt a xs q)
  rcases q with q | ⟨ob,q⟩
  ·exact .inl (z.trans q)
  ·exact .inr ⟨ob,z.trans q⟩
 ·have z:=Y1 (H:=H) (fun z=>n (.inr z))
  refine ⟨?_,fun b=>n (.inl b)⟩
  rcases q with q | ⟨ob,q⟩
  ·exact .inl (z.trans q)
  ·exact .inr ⟨ob,z.trans q⟩
 ·exact ⟨(Y1 (H:=H) (fun z=>n (.inr z))).trans q,fun b=>n (.inl b)⟩
theorem Md.goUp (m:Md K Ub Uc os σ H ρ):Goes Ub H Uc (Bl Uc os σ):=by
 have nb:∀ a o,Ub a=some o->¬ Uc a->¬ Bl Uc os σ a:=fun a o q n z=>z.elim n fun ⟨i,hi,e⟩=>by
  obtain ⟨a',o',d,h1,_,_,h4,_⟩:=m.own i hi
  rw [e] at h1;cases h1
  rw [h4.1] at q;cases q
 refine ⟨fun a xs q=>Rd.same m.grow q,fun a xs q n=>⟨Rd.same m.grow q,?_⟩,fun a KP q n=>⟨m.grow _ _ q,nb a _ q n⟩,fun a o u q=>m.grow _ _ q,fun a xs q=>m.grow _ _ q⟩
 rcases q with q | ⟨ob,q⟩ <;> exact nb a _ q n
theorem Md.upB (m:Md K Ub Uc os σ H ρ) {a:Kc} {o u:HO} (hB:Uc a) (h0:Ub a=none) (ha:H a=some u) (hm:Mut (some u)):Md K Ub Uc os σ (upd H a o) ρ:=by
 have g:Goes H (upd H a o) (Bl Uc os σ) (Bl Uc os σ):=.write (.inl hB) ha hm
 refine ⟨fun b v q=>?_,fun b hb=>?_,m.len,fun i d q n=>?_,fun i hi=>?_,m.sep⟩
 ·by_cases hb:b=a
  ·subst hb;rw [h0] at q;cases q
  ·rw [zv hb];exact m.grow _ _ q
 ·by_cases z:b=a
  ·subst z;exact ⟨_,zu⟩
  ·rw [zv z];exact m.blk b hb
 ·obtain ⟨v,h1,h2⟩:=m.sh i d q n
  exact ⟨v,h1,Rep.goes g _ _ h2⟩
 ·obtain ⟨b,w',d,h1,h2,h3,h4,h5⟩:=m.own i hi
  have hne:b≠a:=fun z=>h4.2 (by rw [z];exact hB)
  exact ⟨b,w',d,h1,h2,by rw [zv hne];exact h3,h4,h5.goes g⟩
end
def EOk (K:KC) (st:Bool) (os:List Nat) (t:TE) (f:Ev->Option D):Prop :=
 ∀ (Ub:Hp) (Uc:Kc->Prop) (σ:St) (H:Hp) (ρ:Ev) (d:D) (Q:VK),Md K Ub Uc os σ H ρ->f ρ=some d->(∀ v H',zQ H H'->Rep K H' (BB st Uc os σ) d v->Q v H')->t σ H Q
def FOk (K:KC) (os:List Nat) (t:TE) (f:Ev->Option D):Prop :=
 ∀ (Ub:Hp) (Uc:Kc->Prop) (σ:St) (H:Hp) (ρ:Ev) (d:D) (Q:VK),Md K Ub Uc os σ H ρ->f ρ=some d->(∀ a o H',zQ H H'->H a=none->H' a=some o->Own K H' (fun b=>Bl Uc os σ b\/b=a) o d->Q (.ref a) H')->t σ H Q
def COk (K:KC) (k:Bool) (os:List Nat) (t:TE) (f:Ev->Option (List D)):Prop :=
 ∀ (Ub:Hp) (Uc:Kc->Prop) (σ:St) (H:Hp) (ρ:Ev) (ds:List D) (Q:VK),Md K Ub Uc os σ H ρ->f ρ=some ds->(∀ a xs H',zQ H H'->Sq k K H' a xs->zm K H' (Bl Uc os σ) ds xs->Q (.ref a) H')->t σ H Q
def TOk (K:KC) (os:List Nat) (t:TT) (f:Ev->Option Bool):Prop :=
 ∀ (Ub:Hp) (Uc:Kc->Prop) (σ:St) (H:Hp) (ρ:Ev) (b:Bool) (Q:Bool->Hp->Prop),Md K Ub Uc os σ H ρ->f ρ=some b->(∀ H',zQ H H'->Q b H')->t σ H Q
def AOk (K:KC) (st:Bool) (os:List Nat) (t:TA) (f:Ev->Option (List D)):Prop :=
 ∀ (Ub:Hp) (Uc:Kc->Prop) (σ:St) (H:Hp) (ρ:Ev) (ds:List D) (Q:List V->Hp->Prop),Md K Ub Uc os σ H ρ->f ρ=some ds->(∀ vs H',zQ H H'->zm K H' (BB st Uc os σ) ds vs->Q vs H')->t σ H Q
structure SE (X:Cx) (st:Bool) (os:List Nat) (e:Kv) (t:TE) (f:Ev->Option D):Prop where
 pe:PE X e t
 ok:EOk X.K st os t f
structure SF (X:Cx) (os:List Nat) (e:Kv) (t:TE) (f:Ev->Option D):Prop where
 pe:PE X e t
 ok:FOk X.K os t f
structure SC (X:Cx) (k:Bool) (os:List Nat) (e:Kv) (t:TE) (f:Ev->Option (List D)):Prop where
 pe:PE X e t
 ok:COk X.K k os t f
structure SB (X:Cx) (os:List Nat) (e:Kv) (t:TT) (f:Ev->Option Bool):Prop where
 pt:PT X e t
 ok:TOk X.K os t f
structure SW (X:Cx) (os:List Nat) (e:Kv) (t:TT) (f:Ev->Option Bool):Prop where
 pw:PW X e t
 ok:TOk X.K os t f
structure SA (X:Cx) (st:Bool) (os:List Nat) (es:List Kv) (t:TA) (f:Ev->Option (List D)):Prop where
 pa:PA X es t
 ok:AOk X.K st os t f
section
variable {K:KC} {Ub H H':Hp} {Uc:Kc->Prop} {os:List Nat} {σ:St} {ρ:Ev} {st:Bool}
theorem Md.bb (m:Md K Ub Uc os σ H ρ) (st:Bool):∀ a,BB st Uc os σ a->∃ o,H a=some o:=fun a h=>by
 cases st with
 | true=>exact m.tracked h
 | false=>exact m.tracked (.inl h)
theorem bb_le (st:Bool):∀ a,BB st Uc os σ a->Bl Uc os σ a:=fun a h=>by
 cases st with
 | true=>exact h
 | false=>exact .inl h
theorem Rep.bb {d:D} {v:V} (h:Rep K H (Bl Uc os σ) d v):Rep K H (BB st Uc os σ) d v:=Rep.goes (.less (bb_le st) (.refl H)) _ _ h
theorem Rep.up {B:Kc->Prop} {d:D} {v:V} (e:zQ H H') (h:Rep K H B d v):Rep K H' B d v:=Rep.goes (.same e) _ _ h
theorem zm.up {B:Kc->Prop} {d:List D} {v:List V} (e:zQ H H') (h:zm K H B d v):zm K H' B d v:=zm.goes (.same e) _ _ h
theorem Own.rep {B:Kc->Prop} {a:Kc} {o:HO} {d:D} (h:Own K H (fun b=>B b\/b=a) o d) (ha:H a=some o) (nb:¬ B a):Rep K H B d (.ref a):=by
 have g:Goes H H (fun b=>B b\/b=a) B:=.less (fun _ z=>.inl z) (.refl H)
 cases o <;> cases d <;> simp only [Own] at h
 ·simp only [Rep];exact ⟨a,_,rfl,⟨.inl ha,nb⟩,zm.goes g _ _ h⟩
 ·simp only [Rep];exact ⟨a,_,rfl,⟨ha,nb⟩,h.1,zm.goes g _ _ h.2⟩
 ·simp only [Rep];exact ⟨a,rfl⟩
theorem zx {a:Kc} {o:HO} (h:H a=none):zQ H (upd H a o):=fun b u q=>by
 rw [zv (fun z=>by subst z;rw [h] at q;cases q)];exact q
end
def asK:Bool->D->Option (List D)
 | true,.lst ds=>some ds
 | true,.scr ns=>some (ns.map .int)
 | false,.tup ds=>some ds
 | _,_=>none
def asB:D->Option Bool
 | .bl b=>some b
 | _=>none
def zb (i:Nat):Ev->Option D:=fun ρ=>ρ[i]?.join
def fC (d:D):Ev->Option D:=fun _=>some d
def f1 (g:D->Option D) (fa:Ev->Option D):Ev->Option D:=fun ρ=>(fa ρ).bind g
def f2 (g:D->D->Option D) (fa fb:Ev->Option D):Ev->Option D:=fun ρ=>(fa ρ).bind fun x=>(fb ρ).bind fun y=>g x y
def zh (k:Bool) (fa:Ev->Option D):Ev->Option (List D):=fun ρ=>(fa ρ).bind (asK k)
def yP (fa:Ev->Option D):Ev->Option D:=fun ρ=>(fa ρ).bind fun d=>if d.flat then some d else none
def zI (fa:Ev->Option D):Ev->Option Bool:=fun ρ=>(fa ρ).bind asB
def wv (fa fb:Ev->Option Bool):Ev->Option Bool:=fun ρ=>(fa ρ).bind fun c=>if c then fb ρ else some false
def fOr (fa fb:Ev->Option Bool):Ev->Option Bool:=fun ρ=>(fa ρ).bind fun c=>if c then some true else fb ρ
def fNot (fa:Ev->Option Bool):Ev->Option Bool:=fun ρ=>(fa ρ).map (!·)
def fAndV (fa fb:Ev->Option D):Ev->Option D:=fun ρ=>((fa ρ).bind asB).bind fun c=>if c then fb ρ else some (.bl false)
def fOrV (fa fb:Ev->Option D):Ev->Option D:=fun ρ=>((fa ρ).bind asB).bind fun c=>if c then some (.bl true) else fb ρ
def fNotV (fa:Ev->Option D):Ev->Option D:=fun ρ=>((fa ρ).bind asB).map fun c=>.bl (!c)
def fIf (fc:Ev->Option Bool) (fa fb:Ev->Option D):Ev->Option D:=fun ρ=>(fc ρ).bind fun c=>if c then fa ρ else fb ρ
def zr:Ev->Option (List D):=fun _=>some []
def zf (fa:Ev->Option D) (fr:Ev->Option (List D)):Ev->Option (List D):=fun ρ=>(fa ρ).bind fun x=>(fr ρ).map (x::·)
def Jg (ds:List D):Option D:=if ds.length<=Kg then some (.lst ds) else none
def JD (ds:List D):Option D:=if ds.length<=Kg then some (.tup ds) else none
def ZJ (f:Ev->Option (List D)):Ev->Option D:=fun ρ=>(f ρ).bind Jg
def ZC (f:Ev->Option (List D)):Ev->Option D:=fun ρ=>(f ρ).bind JD
def fA (g:List D->Option D) (f:Ev->Option (List D)):Ev->Option D:=fun ρ=>(f ρ).bind g
theorem zd {α β:Type} {o:Option α} {g:α->Option β} {y:β} (h:o.bind g=some y):∃ x,o=some x/\g x=some y:=by
 cases o with
 | none=>cases h
 | some x=>exact ⟨x,rfl,h⟩
theorem map_some {α β:Type} {o:Option α} {g:α->β} {y:β} (h:o.map g=some y):∃ x,o=some x/\g x=y:=by
 cases o with
 | none=>cases h
 | some x=>exact ⟨x,rfl,by simpa using h⟩
section
variable {X:Cx} {st:Bool} {os:List Nat} {e a b c:Kv} {t ta tb tc:TE} {tA tB':TT} {f fa fb fc:Ev->Option D} {ga gb:Ev->Option Bool} {pos:KB}
theorem SF.se (h:SF X os e t f):SE X st os e t f:=⟨h.pe,fun Ub Uc σ H ρ d Q m q k=>h.ok Ub Uc σ H ρ d Q m q fun a o H' s hn ho hw =>
 k _ _ s (Rep.bb (hw.rep ho (m.ntracked hn)))⟩
theorem SE.flat (h:SE X false os e t f):SE X true os e t (yP f):=⟨h.pe,fun Ub Uc σ H ρ d Q m q k=>by
 obtain ⟨x,h1,h2⟩:=zd q
 split at h2
 ·cases h2
  rename_i hf
  exact h.ok Ub Uc σ H ρ _ Q m h1 fun v H' s r=>k v H' s (Rep.flat _ _ hf r)
 ·cases h2⟩
theorem SE.seq {k:Bool} (h:SE X true os e t f):SC X k os e t (zh k f):=⟨h.pe,fun Ub Uc σ H ρ ds Q m q kk=>by
 obtain ⟨x,h1,h2⟩:=zd q
 refine h.ok Ub Uc σ H ρ _ Q m h1 fun v H' s r=>?_
 cases k with
 | true =>
  cases x <;> simp only [asK] at h2 <;> cases h2
  ·simp only [Rep] at r
   obtain ⟨a,xs,rfl,hl,hr⟩:=r
   exact kk a xs H' s hl.sq hr
  ·simp only [Rep] at r
   obtain ⟨a,rfl,hl⟩:=r
   exact kk a _ H' s hl.sq .ints
 | false =>
  cases x <;> simp only [asK] at h2 <;> cases h2
  simp only [Rep] at r
  obtain ⟨a,xs,rfl,hl,hr⟩:=r
  exact kk a xs H' s hl hr⟩
theorem SF.seq (h:SF X os e t f):SC X true os e t (zh true f):=SE.seq (SF.se h)
theorem za (i:Nat) {x:Kw} (hi:i∉os:=by decide) (hN:X.N[i]?=some x:=by rfl) (hv:Vis X.env.scope x:=by first | exact Or.inl rfl | exact Or.inr (Or.inl rfl) | exact Or.inr (Or.inr rfl)) (hd:(x == ("__debug__":Kw))=false:=by decide)
  (hcd:(x == ("__classdict__":Kw))=false:=by decide):SE X st os (.Name x pos) (Zj i) (zb i):=⟨pv i hN hv hd hcd,fun Ub Uc σ H ρ d Q m q k=>by
 have q':ρ[i]?=some (some d):=by
  unfold zb at q
  cases z:ρ[i]? with
  | none=>rw [z] at q;cases q
  | some o=>rw [z] at q;cases o <;> simp at q;rw [q]
 obtain ⟨v,h1,h2⟩:=m.sh i d q' hi
 exact ⟨v,h1,k v H (.refl H) (Rep.bb h2)⟩⟩
theorem JN (i:Nat) {x:Kw} (hN:X.N[i]?=some x:=by rfl) (hv:Vis X.env.scope x:=by first | exact Or.inl rfl | exact Or.inr (Or.inl rfl) | exact Or.inr (Or.inr rfl)) (hd:(x == ("__debug__":Kw))=false:=by decide)
  (hcd:(x == ("__classdict__":Kw))=false:=by decide):SE X false os (.Name x pos) (Zj i) (zb i):=⟨pv i hN hv hd hcd,fun Ub Uc σ H ρ d Q m q k=>by
 have q':ρ[i]?=some (some d):=by
  unfold zb at q
  cases z:ρ[i]? with
  | none=>rw [z] at q;cases q
  | some o=>rw [z] at q;cases o <;> simp at q;rw [q]
 obtain ⟨v,h1,h2⟩:=m.get q'
 exact ⟨v,h1,k v H (.refl H) h2⟩⟩
theorem je (i:Nat) {x:Kw} (hi:i∈os:=by decide) (hN:X.N[i]?=some x:=by rfl) (hv:Vis X.env.scope x:=by first | exact Or.inl rfl | exact Or.inr (Or.inl rfl) | exact Or.inr (Or.inr rfl)) (hd:(x == ("__debug__":Kw))=false:=by decide)
  (hcd:(x == ("__classdict__":Kw))=false:=by decide):SC X true os (.Name x pos) (Zj i) (zh true (zb i)):=⟨pv i hN hv hd hcd,fun Ub Uc σ H ρ ds Q m q k=>by
 obtain ⟨a,o,d,h1,h2,h3,h4,h5⟩:=m.own i hi
 simp only [zh,zb,h2,Option.join,oB] at q
 cases o <;> cases d <;> simp only [Own] at h5 <;> simp only [id,oB,asK] at q <;> cases q
 exact ⟨_,h1,k a _ H (.refl H) (.inl (.inl h3)) h5⟩⟩
theorem zg {i:Int} {j p}:SE X st os (.Constant (.int i) j p) (tC (.int i)) (fC (.int i)):=⟨yK,fun Ub Uc σ H ρ d Q m q k=>by cases q;exact k _ H (.refl H) (by simp [Rep])⟩
theorem se_bl {i:Bool} {j p}:SE X st os (.Constant (.bool i) j p) (tC (.bl i)) (fC (.bl i)):=⟨pe_bl,fun Ub Uc σ H ρ d Q m q k=>by cases q;exact k _ H (.refl H) (by simp [Rep])⟩
theorem Zy {i:Kw} {j p}:SE X st os (.Constant (.str i) j p) (tC (.str i)) (fC (.str i)):=⟨J7,fun Ub Uc σ H ρ d Q m q k=>by cases q;exact k _ H (.refl H) (by simp [Rep])⟩
theorem YV {j p}:SE X st os (.Constant .none j p) (tC .non) (fC .non):=⟨pe_non,fun Ub Uc σ H ρ d Q m q k=>by cases q;exact k _ H (.refl H) (by simp [Rep])⟩
def ROk (K:KC) (r:R2) (g:D->D->Option D):Prop:=∀ (H:Hp) (B:Kc->Prop) (x y:V) (d1 d2 d:D) (Q:VK),(∀ a,B a->∃ o,H a=some o)->Rep K H B d1 x->Rep K H B d2 y->g d1 d2=some d ->
 (∀ v H',zQ H H'->Rep K H' B d v->Q v H')->r x y H Q
theorem EOk.op {r:R2} {g:D->D->Option D} (hr:ROk X.K r g) (ha:EOk X.K st os ta fa) (hb:EOk X.K st os tb fb):EOk X.K st os (tOp r ta tb) (f2 g fa fb):=fun Ub Uc σ H ρ d Q m q k=>by
 obtain ⟨x,h1,h2⟩:=zd q
 obtain ⟨y,h3,h4⟩:=zd h2
 refine ha Ub Uc σ H ρ x _ m h1 fun v H1 s1 r1=>?_
 refine hb Ub Uc σ H1 ρ y _ (m.up s1) h3 fun u H2 s2 r2=>?_
 exact hr H2 _ v u x y d Q ((m.up (s1.trans s2)).bb st) (r1.up s2) r2 h4 fun w' H3 s3 r3=>k w' H3 ((s1.trans s2).trans s3) r3
theorem zy {op:Operator} {r:R2} {g:D->D->Option D} (ho:OpR X (binaryOp op) r) (hr:ROk X.K r g) (ha:SE X st os a ta fa) (hb:SE X st os b tb fb):SE X st os (.BinOp a op b pos) (tOp r ta tb) (f2 g fa fb) :=
 ⟨wC ho ha.pe hb.pe,EOk.op hr ha.ok hb.ok⟩
theorem Yv {op:CmpOp} {r:R2} {g:D->D->Option D} (ho:OpR X (Km op) r) (hr:ROk X.K r g) (ha:SE X false os a ta fa) (hb:SE X false os b tb fb) (hm:behindInMarks op b=false):SE X false os (.Compare a [op] [b] pos) (tOp r ta tb) (f2 g fa fb) :=
 ⟨pe_cmpR ho ha.pe hb.pe hm,EOk.op hr ha.ok hb.ok⟩
theorem EOk.test (h:EOk X.K false os t f):TOk X.K os (YH t) (zI f):=fun Ub Uc σ H ρ b Q m q k=>by
 obtain ⟨x,h1,h2⟩:=zd q
 refine h Ub Uc σ H ρ x _ m h1 fun v H' s r=>?_
 cases x <;> simp only [asB] at h2 <;> cases h2
 simp only [Rep] at r
 exact ⟨_,r,k H' s⟩
theorem zU {op:CmpOp} {r:R2} {g:D->D->Option D} (ho:OpR X (Km op) r) (hr:ROk X.K r g) (ha:SE X false os a ta fa) (hb:SE X false os b tb fb) (hm:behindInMarks op b=false):SB X os (.Compare a [op] [b] pos) (YH (tOp r ta tb)) (zI (f2 g fa fb)) :=
 ⟨YN ho ha.pe hb.pe hm,EOk.test (EOk.op hr ha.ok hb.ok)⟩
def jY (g g':D->D->Option D) (fa fb fc:Ev->Option D):Ev->Option D:=fun ρ=>(fa ρ).bind fun x=>(fb ρ).bind fun y=>((g x y).bind asB).bind fun c=>if c then (fc ρ).bind fun z=>g' y z else some (.bl false)
theorem EOk.chain {r r':R2} {g g':D->D->Option D} (hr:ROk X.K r g) (hr':ROk X.K r' g') (ha:EOk X.K false os ta fa) (hb:EOk X.K false os tb fb) (hc:EOk X.K false os tc fc):EOk X.K false os (tChain r r' ta tb tc) (jY g g' fa fb fc):=fun Ub Uc σ H ρ d Q m q k=>by
 obtain ⟨x,h1,h2⟩:=zd q
 obtain ⟨y,h3,h4⟩:=zd h2
 obtain ⟨cc,h5,h6⟩:=zd h4
 obtain ⟨z,h7,h8⟩:=zd h5
 refine ha Ub Uc σ H ρ x _ m h1 fun v H1 s1 r1=>?_
 refine hb Ub Uc σ H1 ρ y _ (m.up s1) h3 fun u H2 s2 r2=>?_
 refine hr H2 _ v u x y z _ ((m.up (s1.trans s2)).bb false) (r1.up s2) r2 h7 fun w' H3 s3 r3=>?_
 cases z <;> simp only [asB] at h8 <;> cases h8
 simp only [Rep] at r3
 refine ⟨_,r3,?_⟩
 cases cc with
 | true =>
  rw [KR rfl] at h6 ⊢
  obtain ⟨z,h9,h10⟩:=zd h6
  refine hc Ub Uc σ H3 ρ z _ (m.up ((s1.trans s2).trans s3)) h9 fun w2 H4 s4 r4=>?_
  exact hr' H4 _ u w2 y z d Q ((m.up (((s1.trans s2).trans s3).trans s4)).bb false) (r2.up (s3.trans s4)) r4 h10 fun w3 H5 s5 r5=>k w3 H5 ((((s1.trans s2).trans s3).trans s4).trans s5) r5
 | false =>
  rw [KS Qi] at h6 ⊢
  cases h6
  exact k _ H3 ((s1.trans s2).trans s3) (by simp [Rep])
theorem sb_chain {op op':CmpOp} {r r':R2} {g g':D->D->Option D} (ho:OpR X (Km op) r) (hr:ROk X.K r g) (ho':OpR X (Km op') r') (hr':ROk X.K r' g') (ha:SE X false os a ta fa) (hb:SE X false os b tb fb) (hc:SE X false os c tc fc)
  (hm:lastMarks [op,op'] [b,c]=false:=by with_unfolding_all rfl):SB X os (.Compare a [op,op'] [b,c] pos) (YH (tChain r r' ta tb tc)) (zI (jY g g' fa fb fc)):=⟨pt_chain ho ho' ha.pe hb.pe hc.pe hm,EOk.test (EOk.chain hr hr' ha.ok hb.ok hc.ok)⟩
def UOk (K:KC) (r:V->Hp->VK->Prop) (g:D->Option D):Prop:=∀ (H:Hp) (B:Kc->Prop) (x:V) (d1 d:D) (Q:VK),(∀ a,B a->∃ o,H a=some o)->Rep K H B d1 x->g d1=some d ->
 (∀ v H',zQ H H'->Rep K H' B d v->Q v H')->r x H Q
theorem WP {op:UnaryOp} {r:V->Hp->VK->Prop} {g:D->Option D} (ho:UnR X (unaryOp op) r) (hr:UOk X.K r g) (ha:SE X st os a ta fa):SE X st os (.UnaryOp op a pos) (tUn r ta) (f1 g fa) :=
 ⟨pe_un ho ha.pe,fun Ub Uc σ H ρ d Q m q k=>by
  obtain ⟨x,h1,h2⟩:=zd q
  refine ha.ok Ub Uc σ H ρ x _ m h1 fun v H1 s1 r1=>?_
  exact hr H1 _ v x d Q ((m.up s1).bb st) r1 h2 fun w' H3 s3 r3=>k w' H3 (s1.trans s3) r3⟩
theorem sb_val (h:SE X false os e t f) (he:∀ whole,isTrue e X.env whole=(do let v <- whole;standAt e.pos;holding [v] (truthy v)):=by intro _;rfl):SB X os e (tB t) (zI f):=⟨pt_val h.pe he,EOk.test h.ok⟩
theorem sb_not (h:SB X os a tA ga):SB X os (.UnaryOp .Not a pos) (tNot tA) (fNot ga):=⟨pt_not h.pt,fun Ub Uc σ H ρ b Q m q k=>by
 obtain ⟨x,h1,h2⟩:=map_some q
 subst h2
 exact h.ok Ub Uc σ H ρ x _ m h1 fun H' s=>k H' s⟩
theorem SW.sb (h:SW X os e tA ga):SB X os e tA ga:=⟨h.pw.pt,h.ok⟩
theorem JM (h:SB X os a tA ga):SW X os (.BoolOp .And [a] pos) tA ga:=⟨pw_and1 h.pt,h.ok⟩
theorem sw_or1 (h:SB X os a tA ga):SW X os (.BoolOp .Or [a] pos) tA ga:=⟨pw_or1 h.pt,h.ok⟩
theorem Wz {zX:List Kv} (ha:SB X os a tA ga) (hb:SW X os (.BoolOp .And (b::zX) pos) tB' gb):SW X os (.BoolOp .And (a::b::zX) pos) (tAnd tA tB') (wv ga gb):=⟨pw_and ha.pt hb.pw,fun Ub Uc σ H ρ b Q m q k=>by
 obtain ⟨x,h1,h2⟩:=zd q
 refine ha.ok Ub Uc σ H ρ x _ m h1 fun H' s=>?_
 cases x with
 | true=>rw [KR rfl] at h2 ⊢;exact hb.ok Ub Uc σ H' ρ b Q (m.up s) h2 fun H2 s2=>k H2 (s.trans s2)
 | false=>rw [KS Qi] at h2 ⊢;cases h2;exact k H' s⟩
theorem sw_or {zX:List Kv} (ha:SB X os a tA ga) (hb:SW X os (.BoolOp .Or (b::zX) pos) tB' gb):SW X os (.BoolOp .Or (a::b::zX) pos) (tOr tA tB') (fOr ga gb):=⟨pw_or ha.pt hb.pw,fun Ub Uc σ H ρ b Q m q k=>by
 obtain ⟨x,h1,h2⟩:=zd q
 refine ha.ok Ub Uc σ H ρ x _ m h1 fun H' s=>?_
 cases x with
 | true=>rw [KR rfl] at h2 ⊢;cases h2;exact k H' s
 | false=>rw [KS Qi] at h2 ⊢;exact hb.ok Ub Uc σ H' ρ b Q (m.up s) h2 fun H2 s2=>k H2 (s.trans s2)⟩
theorem se_one {op} (h:SE X st os a t f):SE X st os (.BoolOp op [a] pos) t f:=⟨pe_one h.pe,h.ok⟩
theorem se_and {zX:List Kv} (ha:SE X st os a ta fa) (hb:SE X st os (.BoolOp .And (b::zX) pos) tb fb):SE X st os (.BoolOp .And (a::b::zX) pos) (tAndV ta tb) (fAndV fa fb):=⟨pe_and ha.pe hb.pe,fun Ub Uc σ H ρ d Q m q k=>by
 obtain ⟨x,h1,h2⟩:=zd q
 obtain ⟨y,h3,h4⟩:=zd h1
 refine ha.ok Ub Uc σ H ρ y _ m h3 fun v H' s r=>?_
 cases y <;> simp only [asB] at h4 <;> cases h4
 simp only [Rep] at r
 refine ⟨_,r,?_⟩
 cases x with
 | true=>rw [KR rfl] at h2 ⊢;exact hb.ok Ub Uc σ H' ρ d Q (m.up s) h2 fun v H2 s2=>k v H2 (s.trans s2)
 | false=>rw [KS Qi] at h2 ⊢;cases h2;exact k _ H' s (by simp [Rep])⟩
theorem se_if (hc:SB X os c tA ga) (ha:SE X st os a ta fa) (hb:SE X st os b tb fb):SE X st os (.IfExp c a b pos) (tIf tA ta tb) (fIf ga fa fb):=⟨pe_ifExp hc.pt ha.pe hb.pe,fun Ub Uc σ H ρ d Q m q k=>by
 obtain ⟨x,h1,h2⟩:=zd q
 refine hc.ok Ub Uc σ H ρ x _ m h1 fun H' s=>?_
 cases x with
 | true=>rw [KR rfl] at h2 ⊢;exact ha.ok Ub Uc σ H' ρ d Q (m.up s) h2 fun v H2 s2=>k v H2 (s.trans s2)
 | false=>rw [KS Qi] at h2 ⊢;exact hb.ok Ub Uc σ H' ρ d Q (m.up s) h2 fun v H2 s2=>k v H2 (s.trans s2)⟩
variable {es:List Kv} {tl:TA} {fl:Ev->Option (List D)}
theorem zk:SA X st os [] ZS zr:=⟨zY,fun Ub Uc σ H ρ ds Q m q k=>by cases q;exact k [] H (.refl H) .nil⟩
theorem ze (ha:SE X st os e t f) (hr:SA X st os es tl fl) (hs:Ke (e::es) X.env=(false,Kz e X.env)::Ke es X.env:=by rfl):SA X st os (e::es) (zW t tl) (zf f fl):=⟨zC ha.pe hr.pa hs,fun Ub Uc σ H ρ ds Q m q k=>by
 obtain ⟨x,h1,h2⟩:=zd q
 obtain ⟨y,h3,h4⟩:=map_some h2
 subst h4
 refine ha.ok Ub Uc σ H ρ x _ m h1 fun v H1 s1 r1=>?_
 refine hr.ok Ub Uc σ H1 ρ y _ (m.up s1) h3 fun vs H2 s2 r2=>?_
 exact k _ H2 (s1.trans s2) (.cons (r1.up s2) r2)⟩
theorem Zu {x1} (h:SA X st os es tl fl):SE X st os (.Tuple es x1 pos) (Wv tl) (ZC fl):=⟨jO h.pa,fun Ub Uc σ H ρ d Q m q k=>by
 obtain ⟨ds,h1,h2⟩:=zd q
 unfold JD at h2
 split at h2
 ·cases h2
  rename_i hl
  refine h.ok Ub Uc σ H ρ ds _ m h1 fun vs H1 s1 r1=>⟨by rw [r1.length];exact hl,fun p hp=>?_⟩
  refine k _ _ (s1.trans (zx hp)) ?_
  simp only [Rep]
  exact ⟨p,vs,rfl,.inl (.inl zu),r1.up (zx hp)⟩
 ·cases h2⟩
theorem ZN (h:SA X true os es tl fl):SF X os (.List es pos) (tLst tl) (ZJ fl):=⟨ji h.pa,fun Ub Uc σ H ρ d Q m q k=>by
 obtain ⟨ds,h1,h2⟩:=zd q
 unfold Jg at h2
 split at h2
 ·cases h2
  rename_i hl
  refine h.ok Ub Uc σ H ρ ds _ m h1 fun vs H1 s1 r1=>⟨by rw [r1.length];exact hl,fun p hp=>?_⟩
  exact k p _ _ (s1.trans (zx hp)) (s1.free hp) zu (zm.goes (.fresh hp (zx hp)) _ _ r1)
 ·cases h2⟩
def dIx (ds:List D) (d:D):Option D:=match d with | .int i=>atI ds i | _=>none
def fIx (fa:Ev->Option (List D)) (fb:Ev->Option D):Ev->Option D:=fun ρ=>(fa ρ).bind fun ds=>(fb ρ).bind fun i=>dIx ds i
theorem zm.atI {K:KC} {H:Hp} {B:Kc->Prop} {ds:List D} {vs:List V} {i:Int} {d:D} (h:zm K H B ds vs) (e:L2.atI ds i=some d):∃ v,L2.atI vs i=some v/\Rep K H B d v:=by
 unfold L2.atI at e ⊢
 rw [h.length]
 cases z:ixN ds.length i with
 | none=>rw [z] at e;cases e
 | some j =>
  rw [z] at e
  exact h.get e
theorem Zv {ca:Ev->Option (List D)} (ha:SC X true os a ta ca) (hb:SE X true os b tb fb) (hs:J2 b:=by intro _ _;rfl) {K':KC} (hK:X.K=K':=by rfl):SE X st os (.Subscript a b pos) (tOp (rIxL K') ta tb) (fIx ca fb):=by
 subst hK
 exact ⟨JQ jq ha.pe hb.pe hs,fun Ub Uc σ H ρ d Q m q k=>by
 obtain ⟨ds,h1,h2⟩:=zd q
 obtain ⟨y,h3,h4⟩:=zd h2
 refine ha.ok Ub Uc σ H ρ ds _ m h1 fun p xs H1 s1 hq r1=>?_
 refine hb.ok Ub Uc σ H1 ρ y _ (m.up s1) h3 fun u H2 s2 r2=>?_
 cases y <;> simp only [dIx] at h4 <;> try (cases h4)
 simp only [Rep] at r2
 obtain ⟨v,q1,q2⟩:=(r1.up s2).atI h4
 exact ⟨p,xs,_,v,rfl,r2,s2.seq hq,q1,k v H2 (s1.trans s2) (Rep.bb q2)⟩⟩
theorem zE {ca:Ev->Option (List D)} (ha:SC X false os a ta ca) (hb:SE X true os b tb fb) (hs:J2 b:=by intro _ _;rfl) {K':KC} (hK:X.K=K':=by rfl):SE X st os (.Subscript a b pos) (tOp (rIxT K') ta tb) (fIx ca fb):=by
 subst hK
 exact ⟨JQ ix_tup ha.pe hb.pe hs,fun Ub Uc σ H ρ d Q m q k=>by
 obtain ⟨ds,h1,h2⟩:=zd q
 obtain ⟨y,h3,h4⟩:=zd h2
 refine ha.ok Ub Uc σ H ρ ds _ m h1 fun p xs H1 s1 hq r1=>?_
 refine hb.ok Ub Uc σ H1 ρ y _ (m.up s1) h3 fun u H2 s2 r2=>?_
 cases y <;> simp only [dIx] at h4 <;> try (cases h4)
 simp only [Rep] at r2
 obtain ⟨v,q1,q2⟩:=(r1.up s2).atI h4
 exact ⟨p,xs,_,v,rfl,r2,SqT.same s2 hq,q1,k v H2 (s1.trans s2) (Rep.bb q2)⟩⟩
structure SO (X:Cx) (os:List Nat) (e:Option Kv) (t:TO) (f:Ev->Option (Option Int)):Prop where
 po:PO X e t
 ok:∀ (Ub:Hp) (Uc:Kc->Prop) (σ:St) (H:Hp) (ρ:Ev) (d:Option Int) (Q:Option Int->Hp->Prop),Md X.K Ub Uc os σ H ρ->f ρ=some d->(∀ H',zQ H H'->Q d H')->t σ H Q
def asI:D->Option Int
 | .int i=>some i
 | _=>none
def fNo:Ev->Option (Option Int):=fun _=>some none
def yE (f:Ev->Option D):Ev->Option (Option Int):=fun ρ=>(f ρ).bind fun d=>(asI d).map some
theorem yv:SO X os none tNoPart fNo:=⟨po_none,fun Ub Uc σ H ρ d Q m q k=>by cases q;exact k H (.refl H)⟩
theorem yu (h:SE X false os e t f):SO X os (some e) (tPart t) (yE f):=⟨po_some h.pe,fun Ub Uc σ H ρ d Q m q k=>by
 obtain ⟨x,h1,h2⟩:=zd q
 obtain ⟨i,h3,h4⟩:=map_some h2
 subst h4
 refine h.ok Ub Uc σ H ρ x _ m h1 fun v H' s r=>?_
 cases x <;> simp only [asI] at h3 <;> cases h3
 simp only [Rep] at r
 exact ⟨_,r,k H' s⟩⟩
def cutD (ds:List D) (lo hi:Option Int):List D:=(ds.drop (HT.sIx ds.length 0 lo)).take (HT.sIx ds.length ds.length hi - HT.sIx ds.length 0 lo)
theorem zm.cut {K:KC} {H:Hp} {B:Kc->Prop} {ds:List D} {vs:List V} {lo hi:Option Int} (h:zm K H B ds vs):zm K H B (cutD ds lo hi) (gj vs lo hi):=by
 unfold cutD gj
 rw [h.length]
 exact (h.drop _).take _
def wu (g:List D->D) (fa:Ev->Option (List D)) (fl fu:Ev->Option (Option Int)):Ev->Option D:=fun ρ=>(fa ρ).bind fun ds=>(fl ρ).bind fun lo=>(fu ρ).bind fun hi=>some (g (cutD ds lo hi))
theorem YK {ca:Ev->Option (List D)} {lo hi:Option Kv} {t1 t2:TO} {g1 g2:Ev->Option (Option Int)} {p2:KB} (ha:SC X true os a ta ca) (hl:SO X os lo t1 g1) (hu:SO X os hi t2 g2) {K':KC} (hK:X.K=K':=by rfl) :
  SF X os (.Subscript a (.Slice lo hi none p2) pos) (tSl (rSlL K') ta t1 t2) (wu .lst ca g1 g2):=by
 subst hK
 exact ⟨pe_slice sl_list ha.pe hl.po hu.po,fun Ub Uc σ H ρ d Q m q k=>by
 obtain ⟨ds,h1,h2⟩:=zd q
 obtain ⟨l,h3,h4⟩:=zd h2
 obtain ⟨u,h5,h6⟩:=zd h4
 cases h6
 refine ha.ok Ub Uc σ H ρ ds _ m h1 fun p xs H1 s1 hq r1=>?_
 refine hl.ok Ub Uc σ H1 ρ l _ (m.up s1) h3 fun H2 s2=>?_
 refine hu.ok Ub Uc σ H2 ρ u _ (m.up (s1.trans s2)) h5 fun H3 s3=>?_
 refine ⟨p,xs,rfl,(s2.trans s3).seq hq,fun p' hp=>?_⟩
 exact k p' _ _ (((s1.trans s2).trans s3).trans (zx hp)) ((s1.trans (s2.trans s3)).free hp) zu (zm.goes (.fresh hp (zx hp)) _ _ (zm.cut (r1.up (s2.trans s3))))⟩
end
end M
namespace L2
open PySem PySem.Spec PyProof.Rows
section
variable {X:Cx}
theorem iter_seq {k:Bool} {KK:List (Kc×KA)} {s:Kb} {σ:St} {H:Hp} {p:Kc} {xs:List V} {E:Ka->Kb->Prop} {R:Ka->Kb->Prop} (hc:X.calm=true) (I:Inv X KK σ H s) (hq:Sq k X.K H p xs)
  (h:∀ (KQ:List Ka) (s₂:Kb) (fp wr:List Kc) (S:Nat->Kl->Prop),zP xs KQ->Walks X.prog X.w X.A.in1 s.heap.objs.size fp wr KQ.toArray.size (fun i v=>KQ.toArray[i]?=some v) S->S 0 s₂.heap->(∀ b∈fp,b<s₂.heap.objs.size) ->
   (∀ h' tk,(∀ b o,b∉wr->s₂.heap.get? b=some o->h'.get? b=some o)->Inv X KK σ H { s₂ with heap:=h',toks:=tk })->R (.ref s.heap.objs.size) s₂) :
  Ko (Ky X.prog X.w) X.A.in1 (pyIter (.ref p)) R E s:=by
 obtain ⟨KQ,r,pl,hz⟩:=I.seq hq
 have hh:X.A.in1.handled=none:=I.ok.hd hc
 have hlt:p<s.heap.objs.size:=pl.lt
 have hne:p≠s.heap.objs.size:=Qu hlt
 have old:∀ (ob:KA) (h':Kl),(∀ b o,b∉[s.heap.objs.size]->(s.heap.push ob).get? b=some o->h'.get? b=some o)->∀ b o,s.heap.get? b=some o->h'.get? b=some o:=fun ob h' hk b o e =>
  hk b o (fun hm=>by
   have:b=s.heap.objs.size:=by simpa using hm
   exact absurd (this▸Qm e) (Q3 _)) (Qb _ e)
 cases k with
 | true =>
  refine wpAny_pyIter_list pl (h KQ _ [s.heap.objs.size,p] [s.heap.objs.size] _ r (Walks.list hh _ p hne KQ.toArray) ⟨⟨_,Qq _ rfl,rfl,rfl⟩,Heap.IsList.at pl fun o e=>Qb _ e⟩ ?_ fun h' tk hk=>I.kept (old _ h' hk))
  intro b hb
  rw [QJ]
  rcases Qc.mp hb with rfl | hb
  ·exact Q1 _
  ·have:b=p:=by simpa using hb
   subst this;exact Q4 hlt
 | false =>
  refine P9 pl (h KQ _ [s.heap.objs.size,p] [s.heap.objs.size] _ r (Walks.tuple hh _ p hne KQ.toArray) ⟨⟨_,Qq _ rfl,rfl,rfl⟩,Heap.IsTuple.at pl fun o e=>Qb _ e⟩ ?_ fun h' tk hk=>I.kept (old _ h' hk))
  intro b hb
  rw [QJ]
  rcases Qc.mp hb with rfl | hb
  ·exact Q1 _
  ·have:b=p:=by simpa using hb
   subst this;exact Q4 hlt
theorem vals_int {ns:List Int} {KQ:List Ka} (r:zP (ns.map V.int) KQ) {i:Nat} {v:Ka} (h:KQ.toArray[i]?=some v):∃ t,v=.int (ns.getD i 0) t:=by
 have hl:=r.length
 rw [Qg] at hl
 have h':KQ[i]?=some v:=by simpa using h
 have hi:i<ns.length:=by have:=(Qh.mp h').1;omega
 obtain ⟨u,h1,h2⟩:=r.get (i:=i) (x:=.int ns[i]) (by simp [hi])
 rw [h'] at h1;cases h1
 obtain ⟨t,rfl⟩:=h2
 exact ⟨t,by simp [List.getD,hi]⟩
theorem WX (val:Nat->Int) (a:Int):∀ n,preSum (fun i=>if i=0 then a else val (i - 1)) (n+1)=a+preSum val n
 | 0=>by simp [preSum]
 | n+1=>by rw [preSum,WX val a n,preSum];simp;omega
theorem wB:∀ (ns:List Int),preSum (fun i=>ns.getD i 0) ns.length=ns.sum
 | []=>rfl
 | a::r=>by
  have e:(fun i=>(a::r).getD i 0)=fun i=>if i=0 then a else r.getD (i - 1) 0:=by
   funext i;cases i <;> simp [List.getD]
  rw [e,Qd,WX (fun j=>r.getD j 0) a,wB r,List.sum_cons]
theorem call_sumI (k:Bool) (hc:X.calm=true):Jq X (.builtin "sum") (fun xs H Q=>∃ (p:Kc) (ns:List Int),xs=[.ref p]/\Sq k X.K H p (ns.map V.int)/\Q (.int ns.sum) H):=by
 intro KK s σ H xs us Q I r h
 obtain ⟨p,ns,rfl,hq,q⟩:=h
 obtain ⟨u,rfl,ru⟩:=vals1 r
 cases ru
 refine call_sum_walkG (iter_seq hc I hq fun KQ s₂ fp wr S rv W st hfp fin=>?_)
 refine ⟨_,fp,wr,_,_,S,fun i=>ns.getD i 0,rfl,W,st,hfp,fun i v hv=>vals_int rv hv,fun h' tk t' hk=>?_⟩
 have hl:KQ.toArray.size=ns.length:=by have:=rv.length;simpa using this.symm
 rw [hl,wB]
 exact ⟨.int ns.sum,H,fin h' tk hk,⟨_,rfl⟩,q⟩
def JJ:List String:=["int","bool","str","list","tuple","dict"]
theorem YG:∀ T∈JJ,typeOf (.type T)=pure (.type "type"):=by
 intro T h
 simp only [JJ,Qc,Qn,or_false] at h
 rcases h with rfl | rfl | rfl | rfl | rfl | rfl <;> rfl
theorem sub_tab:∀ Tx∈("NoneType"::JJ),∀ T∈JJ,isSubtype (.type Tx) (.type T)=pure (Tx == T||(Tx == "bool"&&T == "int")):=by
 intro Tx hx T h
 rw [isSubtype_type]
 simp only [JJ,Qc,Qn,or_false] at h hx
 rcases hx with rfl | rfl | rfl | rfl | rfl | rfl | rfl <;> rcases h with rfl | rfl | rfl | rfl | rfl | rfl <;> kernel_rfl
def TyN (K:KC) (H:Hp) (x:V) (n:String):Prop:=match x with
 | .non=>n="NoneType"
 | .bl _=>n="bool"
 | .int _=>n="int"
 | .str _=>n="str"
 | .ref p=>(n="list"/\∃ xs,SqL K H p xs)\/(n="tuple"/\∃ xs,SqT K H p xs)\/(n="dict"/\∃ KP,H p=some (.dK KP))
 | _=>False
theorem call_isi:Jq X (.builtin "isinstance") (fun xs H Q=>∃ x T n,xs=[x,.ty T]/\T∈JJ/\TyN X.K H x n/\Q (.bl (n == T||(n == "bool"&&T == "int"))) H):=by
 intro KK s σ H xs us Q I r h
 obtain ⟨x,T,n,rfl,hT,hn,q⟩:=h
 obtain ⟨u,u',rfl,ru,ru'⟩:=vals2 r
 obtain rfl:u'=Value.type T:=ru'
 have fin:∀ tk,EP X KK σ Q (.bool (n == T||(n == "bool"&&T == "int"))) { s with toks:=tk }:=fun tk=>⟨.bl _,H,I.tok tk,rfl,q⟩
 have nm:n∈("NoneType"::JJ):=by
  cases x with
  | non=>cases (show n=_ from hn);decide
  | bl b=>cases (show n=_ from hn);decide
  | int b=>cases (show n=_ from hn);decide
  | str b=>cases (show n=_ from hn);decide
  | ref p=>rcases hn with ⟨rfl,_⟩ | ⟨rfl,_⟩ | ⟨rfl,_⟩ <;> decide
  | _=>exact (show False from hn).elim
 have hs:=sub_tab n nm T hT
 have ty:s.TypeIs u n:=by
  cases x with
  | non=>cases (show n=_ from hn);cases ru;exact PySem.typeIs_none s
  | bl b=>cases (show n=_ from hn);cases ru;exact PySem.typeIs_bool s b
  | int b=>cases (show n=_ from hn);obtain ⟨t,rfl⟩:=ru;exact typeIs_int s b t
  | str b=>cases (show n=_ from hn);obtain ⟨t,rfl⟩:=ru;exact typeIs_str s b t
  | ref p =>
   cases ru
   rcases hn with ⟨rfl,xs,hq⟩ | ⟨rfl,xs,hq⟩ | ⟨rfl,KP,hk⟩
   ·obtain ⟨KQ,_,pl,_⟩:=I.list hq;exact pl.isList.typeIs
   ·obtain ⟨KQ,_,pl,_⟩:=I.tuple hq;exact pl.typeIs
   ·obtain ⟨_,_,_,_,o,_,_,e,ex,_⟩:=I.hok p _ hk;exact ⟨o,e,ex.1⟩
  | _=>exact (show False from hn).elim
 cases hb:(n == T||(n == "bool"&&T == "int")) with
 | true =>
  rw [hb] at hs
  have f:=fin s.toks
  rw [hb] at f
  exact call_isinstance (isinstance_true (YG T hT) hs) ⟨ty,f⟩
 | false =>
  rw [hb] at hs
  have f:=fin (s.toks+1)
  rw [hb] at f
  have hne:(Value.type n == Value.type T)=false:=by
   have e:(n == T)=false:=by cases z:(n == T) <;> simp [z] at hb ⊢
   have e':n≠T:=by simpa using e
   exact beq_eq_false_iff_ne.mpr fun z=>e' (by injection z)
  cases x with
  | non=>cases (show n=_ from hn);cases ru;exact call_isinstance (isinstance_false_none hne (YG T hT) hs) f
  | bl b=>cases (show n=_ from hn);cases ru;exact call_isinstance (isinstance_false_bool hne (YG T hT) hs) f
  | int b=>cases (show n=_ from hn);obtain ⟨t,rfl⟩:=ru;exact call_isinstance (isinstance_false_int hne (YG T hT) hs) f
  | str b=>cases (show n=_ from hn);obtain ⟨t,rfl⟩:=ru;exact call_isinstance (isinstance_false_str hne (YG T hT) hs) f
  | ref p =>
   cases ru
   rcases hn with ⟨rfl,_⟩ | ⟨rfl,_⟩ | ⟨rfl,_⟩
   ·obtain ⟨o,e,c⟩:=ty;exact call_isinstance (isinstance_false_list hne (YG T hT) hs) ⟨⟨o,e,c⟩,f⟩
   ·obtain ⟨o,e,c⟩:=ty;exact call_isinstance (isinstance_false_tuple hne (YG T hT) hs) ⟨⟨o,e,c⟩,f⟩
   ·obtain ⟨o,e,c⟩:=ty;exact call_isinstance (isinstance_false_dict hne (YG T hT) hs) ⟨⟨o,e,c⟩,f⟩
  | _=>exact (show False from hn).elim
def rCatS:R2:=fun x y H Q=>∃ l b xs zs,x=.ref l/\y=.ref b/\Rd H l (.lst xs)/\Rd H b (.lst zs)/\xs.length+zs.length<=Kg/\∀ p,H p=none->Q (.ref p) (upd H p (.lst (xs++zs)))
theorem op_catS:OpR X (binaryOp .Add) rCatS:=by
 intro KK s σ H x y v u Q I rx ry h
 obtain ⟨l,b,xs,zs,rfl,rfl,hH,hB,hz,q⟩:=h
 cases rx
 cases ry
 obtain ⟨z,KQ,n,r,e⟩:=hH.ok I.hok
 obtain ⟨z2,its2,n2,r2,e2⟩:=hB.ok I.hok
 have hl:=r.length
 have hl2:=r2.length
 refine PySem.P.add_list e e2 ?_ (by rw [Qk,Qk];omega)
 have ea:KQ.toArray++its2.toArray=(KQ++its2).toArray:=by simp
 rw [ea]
 exact ⟨.ref _,_,I.lnew (t':=s.toks) (r.append r2) (by rw [Qj];omega),rfl,q _ I.fresh⟩
theorem ye:OpR X (binaryOp .Mult) (rI IntMulOk fun i j=>.int (i*j)):=opI fun _ _ _ _ _ _ _ hc q=>mul_int q hc
def CDivB (i j:Int):Prop:=j≠0
theorem op_fdivP (hr:Room 34 X.A):OpR X (binaryOp .FloorDiv) (rI CDivB fun i j=>.int (i.fdiv j)):=by
 intro KK s σ H x y v u Q I rx ry h
 obtain ⟨i,j,rfl,rfl,hc,q⟩:=h
 obtain ⟨t,rfl⟩:=rx
 obtain ⟨t',rfl⟩:=ry
 refine floordiv_int hc ⟨.int (i.fdiv j),H,I.tok _,⟨_,rfl⟩,q⟩ (.inr ?_)
 obtain ⟨e,l,h1,h2,h3,h4,h5⟩:=I.ok.top
 exact PylongRoom.of I.nolimit (by have:=hr.dp;show X.A.depth+100<_;omega) (SeerAt.of (I.mod.seer.keeps I.bk) I.ok.tree (by rw [I.ok.frames,h1]) h2 h3 h4 h5)
end
end L2
namespace M
open PySem PySem.Spec L2
open PySem.W (Frag)
def dI (g:Int->Int->D):D->D->Option D
 | .int i,.int j=>some (g i j)
 | _,_=>none
def dIc (C:Int->Int->Prop) (g:Int->Int->D):D->D->Option D
 | .int i,.int j=>open Classical in if C i j then some (g i j) else none
 | _,_=>none
section
variable {K:KC}
theorem WT {g:Int->Int->V} {g':Int->Int->D} (h:∀ H B i j,Rep K H B (g' i j) (g i j)):ROk K (rI0 g) (dI g'):=fun H B x y d1 d2 d Q hB r1 r2 e k=>by
 cases d1 <;> cases d2 <;> simp only [dI] at e <;> cases e
 simp only [Rep] at r1 r2
 exact ⟨_,_,r1,r2,k _ H (.refl H) (h _ _ _ _)⟩
theorem rok_I {C:Int->Int->Prop} {g:Int->Int->V} {g':Int->Int->D} (h:∀ H B i j,Rep K H B (g' i j) (g i j)):ROk K (rI C g) (dIc C g'):=fun H B x y d1 d2 d Q hB r1 r2 e k=>by
 cases d1 <;> cases d2 <;> simp only [dIc] at e <;> try (cases e;done)
 split at e
 ·rename_i hc
  cases e
  simp only [Rep] at r1 r2
  exact ⟨_,_,r1,r2,hc,k _ H (.refl H) (h _ _ _ _)⟩
 ·cases e
theorem yd {H:Hp} {B:Kc->Prop} {i:Int}:Rep K H B (.int i) (.int i):=by simp [Rep]
theorem YW {H:Hp} {B:Kc->Prop} {i:Bool}:Rep K H B (.bl i) (.bl i):=by simp [Rep]
abbrev ZT:=dI fun i j=>.int (i+j)
abbrev JE:=dI fun i j=>.int (i - j)
abbrev Yn:=dIc IntMulOk fun i j=>.int (i*j)
abbrev Yi:=dIc CDiv fun i j=>.int (i / j)
abbrev dDivP:=dIc CDivB fun i j=>.int (i.fdiv j)
abbrev yf:=dIc (fun _ j=>0<j) fun i j=>.int (i % j)
abbrev dPow:=dIc CPow fun i j=>.int (i ^ j.toNat)
abbrev dLt:=dI fun i j=>.bl (decide (i<j))
abbrev dLe:=dI fun i j=>.bl (decide (i<=j))
abbrev dGt:=dI fun i j=>.bl (decide (j<i))
theorem Zd:ROk K (rI0 fun i j=>.int (i+j)) ZT:=WT fun _ _ _ _=>yd
theorem Yk:ROk K (rI0 fun i j=>.int (i - j)) JE:=WT fun _ _ _ _=>yd
theorem yc:ROk K (rI IntMulOk fun i j=>.int (i*j)) Yn:=rok_I fun _ _ _ _=>yd
theorem ZL:ROk K (rI CDiv fun i j=>.int (i / j)) Yi:=rok_I fun _ _ _ _=>yd
theorem rok_divP:ROk K (rI CDivB fun i j=>.int (i.fdiv j)) dDivP:=rok_I fun _ _ _ _=>yd
theorem Zb:ROk K (rI (fun _ j=>0<j) fun i j=>.int (i % j)) yf:=rok_I fun _ _ _ _=>yd
theorem rok_pow:ROk K (rI CPow fun i j=>.int (i ^ j.toNat)) dPow:=rok_I fun _ _ _ _=>yd
theorem rok_lt:ROk K (rI0 fun i j=>.bl (decide (i<j))) dLt:=WT fun _ _ _ _=>YW
theorem rok_le:ROk K (rI0 fun i j=>.bl (decide (i<=j))) dLe:=WT fun _ _ _ _=>YW
theorem WR:ROk K (rI0 fun i j=>.bl (decide (j<i))) dGt:=WT fun _ _ _ _=>YW
def eqS:D->D->Option Bool
 | .int i,.int j=>some (decide (i=j))
 | .bl i,.bl j=>some (decide (i=j))
 | .str i,.str j=>some (decide (i=j))
 | .non,.non=>some true
 | .non,.int _=>some false | .int _,.non=>some false | .non,.bl _=>some false | .bl _,.non=>some false | .non,.str _=>some false | .str _,.non=>some false
 | .int _,.str _=>some false | .str _,.int _=>some false | .bl _,.str _=>some false | .str _,.bl _=>some false
 | _,_=>none
def ZE (x y:D):Option D:=(eqS x y).map .bl
def Y9 (x y:D):Option D:=(eqS x y).map fun b=>.bl (!b)
theorem eqS_v {H:Hp} {B:Kc->Prop} {d1 d2:D} {x y:V} {b:Bool} (r1:Rep K H B d1 x) (r2:Rep K H B d2 y) (e:eqS d1 d2=some b):scal x y=true/\decide (x=y)=b:=by
 cases d1 <;> cases d2 <;> simp only [eqS] at e <;> cases e <;> simp only [Rep] at r1 r2 <;> subst r1 <;> subst r2 <;> simp [scal]
theorem Zc:ROk K rEq ZE:=fun H B x y d1 d2 d Q hB r1 r2 e k=>by
 obtain ⟨b,h1,rfl⟩:=map_some e
 obtain ⟨h2,h3⟩:=eqS_v r1 r2 h1
 exact ⟨h2,k _ H (.refl H) (by rw [h3];exact YW)⟩
theorem JO:ROk K rNe Y9:=fun H B x y d1 d2 d Q hB r1 r2 e k=>by
 obtain ⟨b,h1,rfl⟩:=map_some e
 obtain ⟨h2,h3⟩:=eqS_v r1 r2 h1
 exact ⟨h2,k _ H (.refl H) (by rw [h3];exact YW)⟩
def yN:D->Bool
 | .non=>true
 | _=>false
def dIsN (x y:D):Option D:=if yN y then some (.bl (yN x)) else none
def dNotN (x y:D):Option D:=if yN y then some (.bl (!yN x)) else none
theorem Wm {H:Hp} {B:Kc->Prop} {d:D} {x:V} (r:Rep K H B d x):decide (x=.non)=yN d:=by
 cases d <;> simp only [Rep] at r <;> first | (subst r;simp [yN];done) | (obtain ⟨rfl,_⟩:=r;simp [yN];done) | (obtain ⟨a,xs,rfl,_⟩:=r;simp [yN]) | (obtain ⟨a,rfl,_⟩:=r;simp [yN])
theorem rok_isN:ROk K (fun x y H Q=>y=.non/\Q (.bl (decide (x=.non))) H) dIsN:=fun H B x y d1 d2 d Q hB r1 r2 e k=>by
 unfold dIsN at e
 split at e
 ·cases e
  rename_i z
  have:=Wm r2
  rw [z] at this
  exact ⟨of_decide_eq_true this,k _ H (.refl H) (by rw [Wm r1];exact YW)⟩
 ·cases e
theorem rok_notN:ROk K (fun x y H Q=>y=.non/\Q (.bl (!decide (x=.non))) H) dNotN:=fun H B x y d1 d2 d Q hB r1 r2 e k=>by
 unfold dNotN at e
 split at e
 ·cases e
  rename_i z
  have:=Wm r2
  rw [z] at this
  exact ⟨of_decide_eq_true this,k _ H (.refl H) (by rw [Wm r1];exact YW)⟩
 ·cases e
def ww:D->Option D
 | .int i=>some (.int (-i))
 | _=>none
theorem jd:UOk K (rU fun i=>.int (-i)) ww:=fun H B x d1 d Q hB r e k=>by
 cases d1 <;> simp only [ww] at e <;> cases e
 simp only [Rep] at r
 exact ⟨_,r,k _ H (.refl H) yd⟩
def truD:D->Option Bool
 | .non=>some false
 | .bl b=>some b
 | .int i=>some (i != 0)
 | .lst ds=>some (!ds.isEmpty)
 | .tup ds=>some (!ds.isEmpty)
 | .dict ks _=>some (!ks.isEmpty)
 | .scr ns=>some (!ns.isEmpty)
 | .str _=>none
 | .adr _=>none
 | .kset _=>none
 | .tk _=>none
 | .pin _ _=>none
theorem zm.isEmpty {H:Hp} {B:Kc->Prop} {ds:List D} {vs:List V} (h:zm K H B ds vs):vs.isEmpty=ds.isEmpty:=by
 have:=h.length
 cases vs <;> cases ds <;> simp_all
end
def fTru (f:Ev->Option D):Ev->Option Bool:=fun ρ=>(f ρ).bind truD
section
variable {X:Cx} {st:Bool} {os:List Nat} {e a b c:Kv} {es:List Kv} {t ta tb tc:TE} {tl:TA} {f fa fb fc:Ev->Option D} {fl:Ev->Option (List D)} {pos p:KB} {x:Kw}
def wX (fa fb:Ev->Option (List D)):Ev->Option D:=fun ρ=>(fa ρ).bind fun x=>(fb ρ).bind fun y=>Jg (x++y)
def asL:D->Option (List D)
 | .lst ds=>some ds
 | _=>none
structure SL (X:Cx) (os:List Nat) (e:Kv) (t:TE) (f:Ev->Option (List D)):Prop where
 pe:PE X e t
 ok:∀ (Ub:Hp) (Uc:Kc->Prop) (σ:St) (H:Hp) (ρ:Ev) (ds:List D) (Q:VK),Md X.K Ub Uc os σ H ρ->f ρ=some ds->(∀ a xs H',zQ H H'->Rd H' a (.lst xs)->zm X.K H' (Bl Uc os σ) ds xs->Q (.ref a) H')->t σ H Q
def fL (f:Ev->Option D):Ev->Option (List D):=fun ρ=>(f ρ).bind asL
theorem SE.sl (h:SE X true os e t f):SL X os e t (fL f):=⟨h.pe,fun Ub Uc σ H ρ ds Q m q k=>by
 obtain ⟨x,h1,h2⟩:=zd q
 cases x <;> simp only [asL] at h2 <;> cases h2
 refine h.ok Ub Uc σ H ρ _ Q m h1 fun v H' s r=>?_
 simp only [Rep] at r
 obtain ⟨a,xs,rfl,hl,hr⟩:=r
 exact k a xs H' s hl.1 hr⟩
theorem SF.sl (h:SF X os e t f):SL X os e t (fL f):=SE.sl (SF.se h)
theorem sl_own (i:Nat) (hi:i∈os:=by decide) (hN:X.N[i]?=some x:=by rfl) (hv:Vis X.env.scope x:=by first | exact Or.inl rfl | exact Or.inr (Or.inl rfl) | exact Or.inr (Or.inr rfl)) (hd:(x == ("__debug__":Kw))=false:=by decide)
  (hcd:(x == ("__classdict__":Kw))=false:=by decide):SL X os (.Name x pos) (Zj i) (fL (zb i)):=⟨pv i hN hv hd hcd,fun Ub Uc σ H ρ ds Q m q k=>by
 obtain ⟨a,o,d,h1,h2,h3,h4,h5⟩:=m.own i hi
 simp only [fL,zb,h2,Option.join,oB] at q
 cases o <;> cases d <;> simp only [Own] at h5 <;> simp only [id,oB,asL] at q <;> cases q
 exact ⟨_,h1,k a _ H (.refl H) (.inl h3) h5⟩⟩
variable {la lb:Ev->Option (List D)}
theorem WN (ha:SL X os a ta la) (hb:SL X os b tb lb):SF X os (.BinOp a .Add b pos) (tOp rCatS ta tb) (wX la lb):=⟨wC op_catS ha.pe hb.pe,fun Ub Uc σ H ρ d Q m q k=>by
 obtain ⟨x,h1,h2⟩:=zd q
 obtain ⟨y,h3,h4⟩:=zd h2
 unfold Jg at h4
 split at h4
 ·rename_i hl
  cases h4
  refine ha.ok Ub Uc σ H ρ x _ m h1 fun p1 xs H1 s1 hq1 r1=>?_
  refine hb.ok Ub Uc σ H1 ρ y _ (m.up s1) h3 fun p2 ys H2 s2 hq2 r2=>?_
  refine ⟨p1,p2,xs,ys,rfl,rfl,Rd.same s2 hq1,hq2,by rw [r1.length,r2.length,<- Qj];exact hl,fun p' hp=>?_⟩
  exact k p' _ _ ((s1.trans s2).trans (zx hp)) ((s1.trans s2).free hp) zu (zm.goes (.fresh hp (zx hp)) _ _ ((r1.up s2).append r2))
 ·cases h4⟩
def dRep (ds:List D) (d:D):Option D:=match d with | .int k=>if -(2 ^ 63)<=k/\k<2 ^ 63/\ds.length*k.toNat<=Kg then some (.lst (List.replicate k.toNat ds).flatten) else none | _=>none
def fRep (fa:Ev->Option (List D)) (fb:Ev->Option D):Ev->Option D:=fun ρ=>(fa ρ).bind fun x=>(fb ρ).bind fun y=>dRep x y
theorem sf_rep {u:Ev->Option D} (ha:SF X os a ta u) (hb:SE X true os b tb fb):SF X os (.BinOp a .Mult b pos) (tOp rRep ta tb) (fRep (fL u) fb):=⟨wC op_rep ha.pe hb.pe,fun Ub Uc σ H ρ d Q m q k=>by
 obtain ⟨x,h1,h2⟩:=zd q
 obtain ⟨y,h3,h4⟩:=zd h2
 obtain ⟨z,h5,h6⟩:=zd h1
 cases z <;> simp only [asL] at h6 <;> cases h6
 cases y <;> simp only [dRep] at h4 <;> try (cases h4;done)
 split at h4
 ·rename_i hc
  cases h4
  refine ha.ok Ub Uc σ H ρ _ _ m h5 fun p1 o H1 s1 hn ho hw=>?_
  refine hb.ok Ub Uc σ H1 ρ _ _ (m.up s1) h3 fun v H2 s2 r2=>?_
  simp only [Rep] at r2
  cases o <;> simp only [Own] at hw
  refine ⟨p1,_,_,rfl,r2,s2 _ _ ho,hc.1,hc.2.1,by rw [zm.length hw];exact hc.2.2,fun p' hp=>?_⟩
  refine k p' _ _ ((s1.trans s2).trans (zx hp)) ((s1.trans s2).free hp) zu ?_
  have r1:zm X.K H1 (Bl Uc os σ) _ _:=zm.goes (.less (fun _ z=>.inl z) (.refl H1)) _ _ hw
  exact zm.goes (.fresh hp (zx hp)) _ _ ((r1.up s2).rep _)
 ·cases h4⟩
def spM (K:KC) (m:List D->Option D):Sp:=fun vs H Q _=>∃ (B:Kc->Prop) (ds:List D) (d:D),(∀ a,B a->∃ o,H a=some o)/\zm K H B ds vs/\m ds=some d/\∀ v H',zQ H H'->Rep K H' B d v->Q v H'
theorem se_call {k:Nat} {fn:Kc} {fd:Kh} {ps:List Kw} {m:List D->Option D} (F:FnOk X.prog X.w X.K X.mg X.base CX0 k fn fd ps (spM X.K m)) (hr:Room k X.A) (hg:Gl X x) (hm:X.mg x=some (.ref fn)) (hk:keepIn X.K (.ref fn)=true) (hb:yR X.K fd ps [])
  (ha:SA X st os (e::es) tl fl) (hdb:(x == ("__debug__":Kw))=false:=by decide) (he:Ke (e::es) X.env=(false,Kz e X.env)::Ke es X.env:=by rfl) (hpl:(Kq pos (Ke es X.env)).any (·.1)=false:=by rfl) {K':KC} (hK:X.K=K':=by rfl) :
  SE X st os (.Call (.Name x p) (e::es) [] pos) (jI (spM K' m) [] E0 tl) (fA m fl):=by
 subst hK
 exact ⟨Wj F hr hg hm hk hb .nil WZ ha.pa hdb he hpl,fun Ub Uc σ H ρ d Q M q kk=>by
 obtain ⟨ds,h1,h2⟩:=zd q
 refine ha.ok Ub Uc σ H ρ ds _ M h1 fun vs H1 s1 r1=>?_
 refine ⟨BB st Uc os σ,ds,d,(M.up s1).bb st,by rw [QZ];exact r1,h2,fun v H' s2 r2=>kk v H' (s1.trans s2) r2⟩⟩
def CaOk (K:KC) (r:List V->Hp->VK->Prop) (g:List D->Option D):Prop:=∀ (H:Hp) (B:Kc->Prop) (xs:List V) (ds:List D) (d:D) (Q:VK),(∀ a,B a->∃ o,H a=some o)->zm K H B ds xs->g ds=some d->(∀ v H',zQ H H'->Rep K H' B d v->Q v H')->r xs H Q
theorem EOk.call {r:List V->Hp->VK->Prop} {g:List D->Option D} (hr:CaOk X.K r g) (ha:AOk X.K st os tl fl):EOk X.K st os (tCB r tl) (fA g fl):=fun Ub Uc σ H ρ d Q m q k=>by
 obtain ⟨ds,h1,h2⟩:=zd q
 refine ha Ub Uc σ H ρ ds _ m h1 fun vs H1 s1 r1=>?_
 exact hr H1 _ vs ds d Q ((m.up s1).bb st) r1 h2 fun v H' s2 r2=>k v H' (s1.trans s2) r2
theorem j7 {T:String} {r:List V->Hp->VK->Prop} {g:List D->Option D} (hc:Jq X (.type T) r) (hr:CaOk X.K r g) (hg:Gl X x) (hm:X.mg x=none) (hv:bootBuiltins x=some (.type T)) (ha:SA X st os (e::es) tl fl) (hn:x≠"__name__":=by decide) (hdb:(x == ("__debug__":Kw))=false:=by decide)
  (he:Ke (e::es) X.env=(false,Kz e X.env)::Ke es X.env:=by rfl) (hpl:(Kq pos (Ke es X.env)).any (·.1)=false:=by rfl):SE X st os (.Call (.Name x p) (e::es) [] pos) (tCB r tl) (fA g fl):=⟨J8 hc hg hm hv ha.pa hn hdb he hpl,EOk.call hr ha.ok⟩
def gAbs:List D->Option D
 | [.int i]=>some (.int (if i<0 then -i else i))
 | _=>none
def wn:List D->Option D
 | [.int i]=>some (.int i)
 | [.bl k]=>some (.int (if k then 1 else 0))
 | _=>none
theorem reps1 {K:KC} {H:Hp} {B:Kc->Prop} {d:D} {vs:List V} (h:zm K H B [d] vs):∃ v,vs=[v]/\Rep K H B d v:=by
 simp only [zm] at h
 obtain ⟨v,r,rfl,h1,rfl⟩:=h
 exact ⟨v,rfl,h1⟩
theorem JZ {K:KC}:CaOk K (fun xs H Q=>(∃ i,xs=[.int i]/\Q (.int i) H)\/∃ k,xs=[.bl k]/\Q (.int (if k then 1 else 0)) H) wn:=fun H B xs ds d Q hB r e k=>by
 unfold wn at e
 split at e <;> cases e
 ·obtain ⟨v,rfl,h1⟩:=reps1 r
  simp only [Rep] at h1
  subst h1
  exact .inl ⟨_,rfl,k _ H (.refl H) yd⟩
 ·obtain ⟨v,rfl,h1⟩:=reps1 r
  simp only [Rep] at h1
  subst h1
  exact .inr ⟨_,rfl,k _ H (.refl H) yd⟩
def tyD:D->String
 | .non=>"NoneType" | .bl _=>"bool" | .int _=>"int" | .str _=>"str" | .lst _=>"list" | .tup _=>"tuple" | .dict _ _=>"dict" | .scr _=>"list" | .adr _=>"" | .kset _=>"" | .tk _=>"" | .pin _ d=>tyD d
def dIsi (T:String) (d:D):D:=.bl (tyD d == T||(tyD d == "bool"&&T == "int"))
def gg (T:String):D->Option D
 | .adr _=>none
 | .kset _=>none
 | .tk _=>none
 | .pin _ d=>gg T d
 | d=>some (dIsi T d)
def Plain:D->Prop
 | .adr _=>False
 | .kset _=>False
 | .tk _=>False
 | .pin _ d=>Plain d
 | _=>True
theorem gIsi_ {T:String}:∀ {d d':D},gg T d=some d'->Plain d/\d'=dIsi T d
 | .non,d',h | .bl _,d',h | .int _,d',h | .str _,d',h | .tup _,d',h | .lst _,d',h | .dict _ _,d',h | .scr _,d',h=>by simp only [gg] at h;cases h;exact ⟨trivial,rfl⟩
 | .adr _,d',h | .kset _,d',h | .tk _,d',h=>by simp only [gg] at h;cases h
 | .pin _ d,d',h=>by
  simp only [gg] at h
  obtain ⟨h1,h2⟩:=gIsi_ h
  exact ⟨h1,h2⟩
theorem tyN {K:KC} {H:Hp} {B:Kc->Prop}:∀ {d:D} {v:V},Plain d->Rep K H B d v->TyN K H v (tyD d)
 | .non,v,_,r=>by simp only [Rep] at r;subst r;rfl
 | .bl _,v,_,r=>by simp only [Rep] at r;subst r;rfl
 | .int _,v,_,r=>by simp only [Rep] at r;subst r;rfl
 | .str _,v,_,r=>by simp only [Rep] at r;subst r;rfl
 | .tup _,v,_,r=>by simp only [Rep] at r;obtain ⟨a,xs,rfl,hq,hr⟩:=r;exact .inr (.inl ⟨rfl,xs,hq⟩)
 | .lst _,v,_,r=>by simp only [Rep] at r;obtain ⟨a,xs,rfl,hq,hr⟩:=r;exact .inl ⟨rfl,xs,hq.sq⟩
 | .dict _ _,v,_,r=>by simp only [Rep] at r;obtain ⟨a,KP,rfl,hq,hk,hr⟩:=r;exact .inr (.inr ⟨rfl,KP,hq.1⟩)
 | .scr _,v,_,r=>by simp only [Rep] at r;obtain ⟨a,rfl,hq⟩:=r;exact .inl ⟨rfl,_,hq.sq⟩
 | .adr _,v,h,_=>h.elim
 | .kset _,v,h,_=>h.elim
 | .tk _,v,h,_=>h.elim
 | .pin _ d,v,h,r=>by simp only [Rep] at r;exact tyN (d:=d) h r.2
theorem se_isi {y:Kw} {T:String} {p':KB} (hg:Gl X "isinstance") (hm:X.mg "isinstance"=none) (hg2:Gl X y) (hm2:X.mg y=none) (hv2:bootBuiltins y=some (.type T)) (hT:T∈JJ) (ha:SE X false os a ta fa) (hn:y≠"__name__":=by decide) (hdb:(y == ("__debug__":Kw))=false:=by decide)
  (h1:Ke [a,.Name y p'] X.env=(false,Kz a X.env)::Ke [.Name y p'] X.env:=by rfl) (h2:Ke [.Name y p'] X.env=(false,Kz (.Name y p') X.env)::Ke [] X.env:=by rfl) (hpl:(Kq pos (Ke [.Name y p'] X.env)).any (·.1)=false:=by rfl) {K':KC} (hK:X.K=K':=by rfl) :
  SE X st os (.Call (.Name "isinstance" p) [a,.Name y p'] [] pos) (tCB (fun xs H Q=>∃ x T n,xs=[x,.ty T]/\T∈JJ/\TyN K' H x n/\Q (.bl (n == T||(n == "bool"&&T == "int"))) H) (zW ta (zW (tC (.ty T)) ZS))) (f1 (gg T) fa):=by
 subst hK
 exact
 ⟨Yd call_isi hg hm PyProof.Rows.boot_isinstance (zC ha.pe (zC (pe_bltn (v:=.ty T) hg2 hm2 hv2 rfl hn hdb) zY h2) h1) (by decide) (by decide) h1 hpl,fun Ub Uc σ H ρ d Q m q k=>by
  obtain ⟨x,h1,h2⟩:=zd q
  obtain ⟨h3,rfl⟩:=gIsi_ h2
  refine ha.ok Ub Uc σ H ρ x _ m h1 fun v H1 s1 r1=>?_
  exact ⟨v,T,tyD x,rfl,hT,tyN h3 r1,k _ H1 s1 YW⟩⟩
theorem EOk.callC {k:Bool} {r:List V->Hp->VK->Prop} {g:List D->Option D} {ca:Ev->Option (List D)}
  (hr:∀ (H:Hp) (B:Kc->Prop) (q:Kc) (xs:List V) (ds:List D) (d:D) (Q:VK),Sq k X.K H q xs->zm X.K H B ds xs->g ds=some d->(∀ v H',zQ H H'->Rep X.K H' B d v->Q v H')->r [.ref q] H Q)
  (ha:COk X.K k os ta ca):EOk X.K st os (tCB r (zW ta ZS)) (fA g ca):=fun Ub Uc σ H ρ d Q m q kk=>by
 obtain ⟨ds,h1,h2⟩:=zd q
 refine ha Ub Uc σ H ρ ds _ m h1 fun a xs H1 s1 hq r1=>?_
 exact hr H1 (Bl Uc os σ) a xs ds d Q hq r1 h2 fun v H' s2 r2=>kk v H' (s1.trans s2) (Rep.bb r2)
variable {ca:Ev->Option (List D)} {k:Bool}
def yX (ds:List D):Option D:=some (.int ds.length)
theorem yq (hg:Gl X "len") (hm:X.mg "len"=none) (ha:SC X k os a ta ca) (h1:Ke [a] X.env=(false,Kz a X.env)::Ke [] X.env:=by rfl) (hpl:(Kq pos (Ke [] X.env)).any (·.1)=false:=by rfl) {K':KC} (hK:X.K=K':=by rfl) :
  SE X st os (.Call (.Name "len" p) [a] [] pos) (tCB (fun xs H Q=>∃ p ys,xs=[.ref p]/\(SqL K' H p ys\/SqT K' H p ys)/\Q (.int ys.length) H) (zW ta ZS)) (fA yX ca):=by
 subst hK
 exact
 ⟨Yd jv hg hm PySem.boot_len (zC ha.pe zY h1) (by decide) (by decide) h1 hpl,EOk.callC (k:=k) (fun H B q xs ds d Q hq r e kk=>by
  cases e
  refine ⟨q,xs,rfl,?_,kk _ H (.refl H) (by rw [r.length];exact yd)⟩
  cases k with
  | true=>exact .inl hq
  | false=>exact .inr hq) ha.ok⟩
def JU:List D->Option (List Int)
 | []=>some []
 | .int i::r=>(JU r).map (i::·)
 | _::_=>none
theorem intsD_map (ns:List Int):JU (ns.map .int)=some ns:=by
 induction ns with
 | nil=>rfl
 | cons n r ih=>simp [JU,ih]
theorem W0:∀ {ds:List D} {ns:List Int},JU ds=some ns->ds=ns.map .int
 | [],ns,h=>by simp only [JU] at h;cases h;rfl
 | d::r,ns,h=>by
  cases d <;> simp only [JU] at h <;> try (cases h;done)
  obtain ⟨ms,h1,rfl⟩:=map_some h
  rw [W0 h1];rfl
def JW (ds:List D):Option D:=(JU ds).map fun ns=>.int ns.sum
theorem WQ (hc:X.calm=true) (hg:Gl X "sum") (hm:X.mg "sum"=none) (ha:SC X k os a ta ca) (h1:Ke [a] X.env=(false,Kz a X.env)::Ke [] X.env:=by rfl) (hpl:(Kq pos (Ke [] X.env)).any (·.1)=false:=by rfl) {K':KC} (hK:X.K=K':=by rfl) :
  SE X st os (.Call (.Name "sum" p) [a] [] pos) (tCB (fun xs H Q=>∃ (p:Kc) (ns:List Int),xs=[.ref p]/\Sq k K' H p (ns.map V.int)/\Q (.int ns.sum) H) (zW ta ZS)) (fA JW ca):=by
 subst hK
 exact
 ⟨Yd (call_sumI k hc) hg hm PyProof.Rows.boot_sum (zC ha.pe zY h1) (by decide) (by decide) h1 hpl,EOk.callC (k:=k) (fun H B q xs ds d Q hq r e kk=>by
  obtain ⟨ns,h1,rfl⟩:=map_some e
  rw [W0 h1] at r
  rw [r.ints'] at hq
  exact ⟨q,ns,rfl,hq,kk _ H (.refl H) yd⟩) ha.ok⟩
def jV (ds:List D):Option D:=some (.tup ds)
theorem se_tuple (hg:Gl X "tuple") (hm:X.mg "tuple"=none) (ha:SC X true os a ta ca) (h1:Ke [a] X.env=(false,Kz a X.env)::Ke [] X.env:=by rfl) (hpl:(Kq pos (Ke [] X.env)).any (·.1)=false:=by rfl) {K':KC} (hK:X.K=K':=by rfl) :
  SE X st os (.Call (.Name "tuple" p) [a] [] pos) (tCB (fun xs H Q=>∃ p ys,xs=[.ref p]/\((SqL K' H p ys/\∀ l,H l=none->Q (.ref l) (upd H l (.tup ys)))\/(SqT K' H p ys/\Q (.ref p) H))) (zW ta ZS)) (fA jV ca):=by
 subst hK
 exact
 ⟨J8 call_tuple_of hg hm PyProof.Rows.boot_tuple (zC ha.pe zY h1) (by decide) (by decide) h1 hpl,EOk.callC (k:=true) (fun H B q xs ds d Q hq r e kk=>by
  cases e
  refine ⟨q,xs,rfl,.inl ⟨hq,fun l hl=>kk _ _ (zx hl) ?_⟩⟩
  simp only [Rep]
  exact ⟨l,xs,rfl,.inl (.inl zu),r.up (zx hl)⟩) ha.ok⟩
theorem sf_list (hg:Gl X "list") (hm:X.mg "list"=none) (ha:SC X k os a ta ca) (h1:Ke [a] X.env=(false,Kz a X.env)::Ke [] X.env:=by rfl) (hpl:(Kq pos (Ke [] X.env)).any (·.1)=false:=by rfl) {K':KC} (hK:X.K=K':=by rfl) :
  SF X os (.Call (.Name "list" p) [a] [] pos) (tCB (fun xs H Q=>∃ p ys,xs=[.ref p]/\(SqL K' H p ys\/SqT K' H p ys)/\∀ l,H l=none->Q (.ref l) (upd H l (.lst ys))) (zW ta ZS)) (fA (fun ds=>some (.lst ds)) ca):=by
 subst hK
 exact
 ⟨J8 call_list_of hg hm PyProof.Rows.boot_list (zC ha.pe zY h1) (by decide) (by decide) h1 hpl,fun Ub Uc σ H ρ d Q m q kk=>by
  obtain ⟨ds,h1,h2⟩:=zd q
  cases h2
  refine ha.ok Ub Uc σ H ρ ds _ m h1 fun a xs H1 s1 hq r1=>⟨a,xs,rfl,?_,fun l hl=>?_⟩
  ·cases k with
   | true=>exact .inl hq
   | false=>exact .inr hq
  ·exact kk l _ _ (s1.trans (zx hl)) (s1.free hl) zu (zm.goes (.fresh hl (zx hl)) _ _ r1)⟩
end
def SqS (k:Bool) (K:KC) (H:Hp) (B:Kc->Prop) (a:Kc) (xs:List V):Prop:=match k with
 | true=>RL K H B a xs\/RS K H a xs
 | false=>SqT K H a xs
def Cn (s k:Bool) (K:KC) (H:Hp) (B:Kc->Prop) (a:Kc) (xs:List V):Prop:=match s with
 | true=>SqS k K H B a xs
 | false=>Sq k K H a xs
theorem Cn.sq {s k:Bool} {K:KC} {H:Hp} {B:Kc->Prop} {a:Kc} {xs:List V} (h:Cn s k K H B a xs):Sq k K H a xs:=by
 cases s with
 | false=>exact h
 | true =>
  cases k with
  | true=>exact h.elim RL.sq RS.sq
  | false=>exact h
theorem Cn.mv {k:Bool} {K:KC} {H H':Hp} {B B':Kc->Prop} {a:Kc} {xs:List V} (g:Goes H H' B B') (h:Cn true k K H B a xs):Cn true k K H' B' a xs:=by
 cases k with
 | true =>
  rcases h with h | h
  ·exact .inl (g.lst a xs h.1 h.2)
  ·rcases h with ⟨o,h⟩ | h
   ·exact .inr (.inl ⟨o,g.frz a o _ h⟩)
   ·exact .inr (.inr h)
 | false =>
  rcases h with h | h
  ·exact .inl (g.tup a xs h)
  ·exact .inr h
theorem Sq.same {k:Bool} {K:KC} {H H':Hp} {a:Kc} {xs:List V} (e:zQ H H') (h:Sq k K H a xs):Sq k K H' a xs:=by
 cases k with
 | true=>exact e.seq h
 | false=>exact SqT.same e h
theorem Cn.up {s k:Bool} {K:KC} {H H':Hp} {B:Kc->Prop} {a:Kc} {xs:List V} (e:zQ H H') (h:Cn s k K H B a xs):Cn s k K H' B a xs:=by
 cases s with
 | false=>exact Sq.same e h
 | true=>exact Cn.mv (.same e) h
structure SN (X:Cx) (s k:Bool) (os:List Nat) (e:Kv) (t:TE) (f:Ev->Option (List D)):Prop where
 pe:PE X e t
 ok:∀ (Ub:Hp) (Uc:Kc->Prop) (σ:St) (H:Hp) (ρ:Ev) (ds:List D) (Q:VK),Md X.K Ub Uc os σ H ρ->f ρ=some ds->(∀ a xs H',zQ H H'->Cn s k X.K H' (Bl Uc os σ) a xs->zm X.K H' (Bl Uc os σ) ds xs->Q (.ref a) H')->t σ H Q
def Mv (H':Hp) (ok:Hp->(Kc->Prop)->Prop):Prop:=∀ n,H' n=none->∀ Ha Hb Ba Bb,Goes Ha Hb Ba Bb->(∀ b o,b≠n->Ha b=some o->Hb b=some o)->ok Ha Ba->ok Hb Bb
theorem Cn.split {s k:Bool} {K:KC} {H:Hp} {B:Kc->Prop} {a:Kc} {xs:List V} (h:Cn s k K H B a xs):∃ P:Hp->(Kc->Prop)->Prop,P H B/\(∀ H B,P H B->Sq k K H a xs)/\Mv H P/\(s=true->∀ Ha Hb Ba Bb,Goes Ha Hb Ba Bb->P Ha Ba->P Hb Bb):=by
 cases s with
 | true=>exact ⟨fun H B=>Cn true k K H B a xs,h,fun H B q=>q.sq,fun n hn Ha Hb Ba Bb g _ q=>q.mv g,fun _ Ha Hb Ba Bb g q=>q.mv g⟩
 | false =>
  have h':Sq k K H a xs:=h
  cases k with
  | true =>
   rcases h' with h' | h'
   ·refine ⟨fun H _=>Rd H a (.lst xs),h',fun H B q=>.inl q,fun n hn Ha Hb Ba Bb g kp q=>?_,fun z=>by cases z⟩
    have hne:a≠n:=fun e=>by subst e;rcases h' with h' | ⟨o,h'⟩ <;> (rw [hn] at h';cases h')
    rcases q with q | ⟨o,q⟩
    ·exact .inl (kp _ _ hne q)
    ·exact .inr ⟨o,kp _ _ hne q⟩
   ·exact ⟨fun _ _=>True,trivial,fun _ _ _=>.inr h',fun _ _ _ _ _ _ _ _ _=>trivial,fun z=>by cases z⟩
  | false =>
   rcases h' with h' | h'
   ·refine ⟨fun H _=>Rd H a (.tup xs),h',fun H B q=>.inl q,fun n hn Ha Hb Ba Bb g kp q=>g.tup _ _ q,fun z=>by cases z⟩
   ·exact ⟨fun _ _=>True,trivial,fun _ _ _=>.inr h',fun _ _ _ _ _ _ _ _ _=>trivial,fun z=>by cases z⟩
structure IW (K:KC) (J:It) (ds:List D) (ok:Hp->(Kc->Prop)->Prop):Prop where
 go:∀ H B (i:Nat) d,ok H B->ds[i]?=some d->J.go i H
 yld:∀ H B (i:Nat) d x H',ok H B->ds[i]?=some d->J.yld i H x H'->zQ H H'/\Rep K H' B d x
 stop:∀ H B (i:Nat),ok H B->ds.length<=i->J.stop i H
def IOk (K:KC) (s:Bool) (os:List Nat) (wi:TI) (fi:Ev->Option (List D)):Prop :=
 ∀ (Ub:Hp) (Uc:Kc->Prop) (σ:St) (H:Hp) (ρ:Ev) (ds:List D) (R:It->Hp->Prop),Md K Ub Uc os σ H ρ->fi ρ=some ds ->
  (∀ (J:It) (H':Hp) (ok:Hp->(Kc->Prop)->Prop),zQ H H'->IW K J ds ok->Mv H' ok->(s=true->∀ H H' B B',Goes H H' B B'->ok H B->ok H' B')->ok H' (Bl Uc os σ)->R J H')->wi σ H R
structure SI (X:Cx) (s:Bool) (os:List Nat) (tg iter:Kv) (wi:TI) (fi:Ev->Option (List D)):Prop where
 pi:PI X tg iter wi
 ok:IOk X.K s os wi fi
section
variable {X:Cx} {s k:Bool} {os:List Nat} {e a b tg:Kv} {t ta tb:TE} {f fa fb:Ev->Option D} {fl ca cb:Ev->Option (List D)} {pos p:KB}
theorem SE.sn (h:SE X true os e t f):SN X true k os e t (zh k f):=⟨h.pe,fun Ub Uc σ H ρ ds Q m q kk=>by
 obtain ⟨x,h1,h2⟩:=zd q
 refine h.ok Ub Uc σ H ρ _ Q m h1 fun v H' s r=>?_
 cases k with
 | true =>
  cases x <;> simp only [asK] at h2 <;> cases h2
  ·simp only [Rep] at r
   obtain ⟨a,xs,rfl,hl,hr⟩:=r
   exact kk a xs H' s (.inl hl) hr
  ·simp only [Rep] at r
   obtain ⟨a,rfl,hl⟩:=r
   exact kk a _ H' s (.inr hl) .ints
 | false =>
  cases x <;> simp only [asK] at h2 <;> cases h2
  simp only [Rep] at r
  obtain ⟨a,xs,rfl,hl,hr⟩:=r
  exact kk a xs H' s hl hr⟩
theorem SC.sn (h:SC X k os e t fl):SN X false k os e t fl:=⟨h.pe,fun Ub Uc σ H ρ ds Q m q kk=>h.ok Ub Uc σ H ρ ds Q m q fun a xs H' s hq r=>kk a xs H' s hq r⟩
theorem yw (h:SN X s true os e t fl) {K':KC} (hK:X.K=K':=by rfl):SI X s os tg e (iList K' t) fl:=by
 subst hK
 exact ⟨pi_list h.pe,fun Ub Uc σ H ρ ds R m q kk=>by
 refine h.ok Ub Uc σ H ρ ds _ m q fun a xs H1 s1 hc r=>⟨a,rfl,⟨xs,hc.sq⟩,?_⟩
 obtain ⟨P,p0,psq,pmv,pst⟩:=hc.split
 refine kk _ H1 (fun H B=>P H B/\zm X.K H B ds xs) s1 ⟨fun H B i d ok e=>?_,fun H B i d x H' ok e y=>?_,fun H B i ok hl=>?_⟩ (fun n hn Ha Hb Ba Bb g kp ok=>⟨pmv n hn _ _ _ _ g kp ok.1,zm.goes g _ _ ok.2⟩) (fun hs H H' B B' g ok=>⟨pst hs _ _ _ _ g ok.1,zm.goes g _ _ ok.2⟩) ⟨p0,r⟩
 ·obtain ⟨v,h1,h2⟩:=ok.2.get e
  exact ⟨xs,v,psq _ _ ok.1,h1⟩
 ·obtain ⟨rfl,h1⟩:=y
  obtain ⟨v,h2,h3⟩:=ok.2.get e
  have:=h1 xs (psq _ _ ok.1)
  rw [h2] at this;cases this
  exact ⟨.refl _,h3⟩
 ·exact ⟨xs,psq _ _ ok.1,by rw [ok.2.length];exact hl⟩⟩
theorem si_tup (h:SN X s false os e t fl) {K':KC} (hK:X.K=K':=by rfl):SI X s os tg e (iTup K' t) fl:=by
 subst hK
 exact ⟨pi_tup h.pe,fun Ub Uc σ H ρ ds R m q kk=>by
 refine h.ok Ub Uc σ H ρ ds _ m q fun a xs H1 s1 hc r=>⟨a,rfl,⟨xs,hc.sq⟩,?_⟩
 obtain ⟨P,p0,psq,pmv,pst⟩:=hc.split
 refine kk _ H1 (fun H B=>P H B/\zm X.K H B ds xs) s1 ⟨fun H B i d ok e=>?_,fun H B i d x H' ok e y=>?_,fun H B i ok hl=>?_⟩ (fun n hn Ha Hb Ba Bb g kp ok=>⟨pmv n hn _ _ _ _ g kp ok.1,zm.goes g _ _ ok.2⟩) (fun hs H H' B B' g ok=>⟨pst hs _ _ _ _ g ok.1,zm.goes g _ _ ok.2⟩) ⟨p0,r⟩
 ·obtain ⟨v,h1,h2⟩:=ok.2.get e
  exact ⟨xs,v,psq _ _ ok.1,h1⟩
 ·obtain ⟨rfl,h1⟩:=y
  obtain ⟨v,h2,h3⟩:=ok.2.get e
  have:=h1 xs (psq _ _ ok.1)
  rw [h2] at this;cases this
  exact ⟨.refl _,h3⟩
 ·exact ⟨xs,psq _ _ ok.1,by rw [ok.2.length];exact hl⟩⟩
def yr (lo:Int) (n:Nat):List D:=(List.range n).map fun i=>.int (lo+(i:Nat))
theorem iw_range {K:KC} (lo:Int) (n:Nat):IW K (Itr lo n) (yr lo n) (fun _ _=>True):=by
 have hl:(yr lo n).length=n:=by simp [yr]
 refine ⟨fun H B i d _ e=>?_,fun H B i d x H' _ e y=>?_,fun H B i _ h=>?_⟩
 ·have:=(Qh.mp e).1
  rw [hl] at this;exact this
 ·obtain ⟨rfl,rfl⟩:=y
  have hi:i<n:=by have:=(Qh.mp e).1;rw [hl] at this;exact this
  simp [yr,hi] at e
  subst e
  exact ⟨.refl _,yd⟩
 ·rw [hl] at h;exact h
def yO (fa:Ev->Option D):Ev->Option (List D):=fun ρ=>(fa ρ).bind fun d=>(asI d).bind fun j=>if -(2 ^ 62)<=j/\j<2 ^ 62 then some (yr 0 j.toNat) else none
theorem asI_v {K:KC} {H:Hp} {B:Kc->Prop} {d:D} {v:V} {i:Int} (r:Rep K H B d v) (e:asI d=some i):v=.int i:=by
 cases d <;> simp only [asI] at e <;> cases e
 simpa [Rep] using r
theorem yl (hg:Gl X "range") (hm:X.mg "range"=none) (ha:SE X false os a ta fa) (h1:Ke [a] X.env=(false,Kz a X.env)::Ke [] X.env:=by rfl) (hs:Ke [a] X.env=[(false,Kz a X.env)]:=by rfl) :
  SI X s os tg (.Call (.Name "range" p) [a] [] pos) (iRng1 (zW ta ZS)) (yO fa):=⟨pi_range1 hg hm (zC ha.pe zY h1) hs,fun Ub Uc σ H ρ ds R m q kk=>by
 obtain ⟨x,h1,h2⟩:=zd q
 obtain ⟨j,h3,h4⟩:=zd h2
 split at h4
 ·cases h4
  rename_i hb
  refine ha.ok Ub Uc σ H ρ x _ m h1 fun v H1 s1 r=>?_
  have:=asI_v r h3
  subst this
  exact ⟨j,rfl,hb.1,hb.2,kk _ H1 _ s1 (iw_range 0 _) (fun _ _ _ _ _ _ _ _ _=>trivial) (fun _ _ _ _ _ _ _=>trivial) trivial⟩
 ·cases h4⟩
def zipD (xs ys:List D):List D:=List.zipWith (fun x y=>.tup [x,y]) xs ys
def fZip (ca cb:Ev->Option (List D)):Ev->Option (List D):=fun ρ=>(ca ρ).bind fun xs=>(cb ρ).map fun ys=>zipD xs ys
theorem si_zip {j1 j2:Bool} {elts:List Kv} {kk:Nat} {pp:KB} (hg:Gl X "zip") (hm:X.mg "zip"=none) (ha:SN X s j1 os a ta ca) (hb:SN X s j2 os b tb cb) (h1:Ke [a,b] X.env=(false,Kz a X.env)::Ke [b] X.env:=by rfl) (h2:Ke [b] X.env=(false,Kz b X.env)::Ke [] X.env:=by rfl)
  (hs:Ke [a,b] X.env=[(false,Kz a X.env),(false,Kz b X.env)]:=by rfl) (hs2:Ke [b] X.env=[(false,Kz b X.env)]:=by rfl) {K':KC} (hK:X.K=K':=by rfl) :
  SI X s os (.Tuple elts kk pp) (.Call (.Name "zip" p) [a,b] [] pos) (iZip j1 j2 K' (zW ta (zW tb ZS))) (fZip ca cb):=by
 subst hK
 exact ⟨pi_zip j1 j2 hg hm (zC ha.pe (zC hb.pe zY h2) h1) hs hs2,fun Ub Uc σ H ρ ds R m q kk=>by
 obtain ⟨dx,h1,h2⟩:=zd q
 obtain ⟨dy,h3,rfl⟩:=map_some h2
 refine ha.ok Ub Uc σ H ρ dx _ m h1 fun a xs H1 s1 hc1 r1=>?_
 refine hb.ok Ub Uc σ H1 ρ dy _ (m.up s1) h3 fun b ys H2 s2 hc2 r2=>?_
 have hc1':=hc1.up s2
 have r1':=r1.up s2
 refine ⟨a,b,rfl,⟨xs,hc1'.sq⟩,⟨ys,hc2.sq⟩,?_⟩
 obtain ⟨P,p0,psq,pmv,pst⟩:=hc1'.split
 obtain ⟨P2,p02,psq2,pmv2,pst2⟩:=hc2.split
 refine kk _ H2 (fun H B=>(P H B/\zm X.K H B dx xs)/\P2 H B/\zm X.K H B dy ys) (s1.trans s2) ⟨fun H B i d ok e=>?_,fun H B i d x H' ok e y=>?_,fun H B i ok hl=>?_⟩
  (fun n hn Ha Hb Ba Bb g kp ok=>⟨⟨pmv n hn _ _ _ _ g kp ok.1.1,zm.goes g _ _ ok.1.2⟩,pmv2 n hn _ _ _ _ g kp ok.2.1,zm.goes g _ _ ok.2.2⟩) (fun hs H H' B B' g ok=>⟨⟨pst hs _ _ _ _ g ok.1.1,zm.goes g _ _ ok.1.2⟩,pst2 hs _ _ _ _ g ok.2.1,zm.goes g _ _ ok.2.2⟩) ⟨⟨p0,r1'⟩,p02,r2⟩
 ·have:=(Qh.mp e).1
  simp only [zipD,P4] at this
  obtain ⟨u,h5,_⟩:=ok.1.2.get (i:=i) (d:=dx[i]) (by simp [show i<dx.length by omega])
  obtain ⟨v,h6,_⟩:=ok.2.2.get (i:=i) (d:=dy[i]) (by simp [show i<dy.length by omega])
  exact ⟨xs,ys,u,v,psq _ _ ok.1.1,psq2 _ _ ok.2.1,h5,h6⟩
 ·have hi:=(Qh.mp e).1
  simp only [zipD,P4] at hi
  obtain ⟨u,h5,h5'⟩:=ok.1.2.get (i:=i) (d:=dx[i]) (by simp [show i<dx.length by omega])
  obtain ⟨v,h6,h6'⟩:=ok.2.2.get (i:=i) (d:=dy[i]) (by simp [show i<dy.length by omega])
  obtain ⟨q',x1,y1,rfl,hn,rfl,hx,hy⟩:=y
  have e1:=hx xs (psq _ _ ok.1.1)
  have e2:=hy ys (psq2 _ _ ok.2.1)
  rw [h5] at e1;cases e1
  rw [h6] at e2;cases e2
  have e3:d=.tup [dx[i],dy[i]]:=by
   simp only [zipD] at e
   rw [Ps] at e
   simp [show i<dx.length by omega,show i<dy.length by omega] at e
   exact e.symm
  subst e3
  refine ⟨zx hn,?_⟩
  simp only [Rep]
  exact ⟨q',_,rfl,.inl (.inl zu),(zm.cons h5' (.one h6')).up (zx hn)⟩
 ·simp only [zipD,P4] at hl
  exact ⟨xs,ys,psq _ _ ok.1.1,psq2 _ _ ok.2.1,by rw [ok.1.2.length,ok.2.2.length];omega⟩⟩
end
def GOk (K:KC) (os:List Nat) (g:TG) (u:D->Ev->Option Ev):Prop:=∀ (Ub:Hp) (Uc:Kc->Prop) (σ:St) (H:Hp) (ρ ρ':Ev) (d:D) (v:V) (Q:St->Hp->Prop),Md K Ub Uc os σ H ρ->Rep K H (Bl Uc os σ) d v->u d ρ=some ρ' ->
 (∀ σ',σ'.length=σ.length->(∀ i∈os,σ'[i]?=σ[i]?)->Md K Ub Uc os σ' H ρ'->Q σ' H)->g v σ H Q
structure SG (X:Cx) (os:List Nat) (tg:Kv) (g:TG) (u:D->Ev->Option Ev):Prop where
 pg:PG X tg g
 ok:GOk X.K os g u
structure SGs (X:Cx) (os:List Nat) (ts:List Kv) (g:TGs) (n:Nat) (u:List D->Ev->Option Ev):Prop where
 pg:PGs X ts g
 len:∀ ds ρ ρ',u ds ρ=some ρ'->ds.length=n
 ok:∀ (Ub:Hp) (Uc:Kc->Prop) (σ:St) (H:Hp) (ρ ρ':Ev) (ds:List D) (vs:List V) (Q:St->Hp->Prop),Md X.K Ub Uc os σ H ρ->zm X.K H (Bl Uc os σ) ds vs->u ds ρ=some ρ' ->
  (∀ σ',σ'.length=σ.length->(∀ i∈os,σ'[i]?=σ[i]?)->Md X.K Ub Uc os σ' H ρ'->Q σ' H)->g vs σ H Q
def zR (i:Nat):D->Ev->Option Ev:=fun d ρ=>some (ρ.set i (some d))
def uNil:List D->Ev->Option Ev
 | [],ρ=>some ρ
 | _::_,_=>none
def jx (u:D->Ev->Option Ev) (us:List D->Ev->Option Ev):List D->Ev->Option Ev
 | [],_=>none
 | d::ds,ρ=>(u d ρ).bind fun ρ'=>us ds ρ'
def uTup (us:List D->Ev->Option Ev):D->Ev->Option Ev:=fun d ρ=>(asK false d).bind fun ds=>us ds ρ
def uLst (us:List D->Ev->Option Ev):D->Ev->Option Ev:=fun d ρ=>(asK true d).bind fun ds=>us ds ρ
section
variable {X:Cx} {os:List Nat} {pos:KB}
theorem bl_eq {Uc:Kc->Prop} {σ σ':St} (h:∀ i∈os,σ'[i]?=σ[i]?):Bl Uc os σ'=Bl Uc os σ:=by
 funext a
 unfold Bl
 apply propext
 constructor
 ·rintro (z | ⟨i,hi,e⟩)
  ·exact .inl z
  ·exact .inr ⟨i,hi,by rw [<- h i hi];exact e⟩
 ·rintro (z | ⟨i,hi,e⟩)
  ·exact .inl z
  ·exact .inr ⟨i,hi,by rw [h i hi];exact e⟩
theorem sg_name {i:Nat} {x:Kw} (hN:X.N.Nodup) (hi:X.N[i]?=some x) (hx:Loc X.env.scope x) (ho:i∉os:=by decide) (hf:X.fn x=true\/X.env.scope.names.lookup x=some .local:=by first | exact .inl rfl | exact .inr rfl | assumption):SG X os (.Name x pos) (ZR i) (zR i) :=
 ⟨pg_name hN hi hx hf,fun Ub Uc σ H ρ ρ' d v Q m r e k=>by
  cases e
  refine k _ (by rw [Qp]) (fun j hj=>zc fun z=>ho (z▸hj)) (m.put (fun j hj=>⟨hj,fun z=>ho (z▸hj)⟩) (fun j hj=>.inl hj) r)⟩
theorem sgs_nil:SGs X os [] gNil 0 uNil:=⟨pgs_nil,fun ds ρ ρ' e=>(by cases ds <;> first | rfl | cases e),fun Ub Uc σ H ρ ρ' ds vs Q m r e k=>by
 cases ds with
 | nil=>cases e;simp only [zm] at r;exact ⟨r,k σ rfl (fun _ _=>rfl) m⟩
 | cons a r=>cases e⟩
theorem Y4 {e:Kv} {es:List Kv} {t:TG} {u:TGs} {n:Nat} {f:D->Ev->Option Ev} {fs:List D->Ev->Option Ev} (h1:SG X os e t f) (h2:SGs X os es u n fs)
  (hs:(assignEach (e::es) X.env).map (·.2)=assign e X.env::(assignEach es X.env).map (·.2):=by rfl):SGs X os (e::es) (gCons t u) (n+1) (jx f fs):=⟨pgs_cons h1.pg h2.pg hs,fun ds ρ ρ' e=>(by
 cases ds with
 | nil=>cases e
 | cons a r =>
  obtain ⟨x,_,q⟩:=zd e
  rw [Qd,h2.len _ _ _ q]),fun Ub Uc σ H ρ ρ' ds vs Q m r e k=>by
 cases ds with
 | nil=>cases e
 | cons d ds =>
  obtain ⟨ρ1,q1,q2⟩:=zd e
  simp only [zm] at r
  obtain ⟨v,vr,rfl,r1,r2⟩:=r
  refine ⟨v,vr,rfl,h1.ok Ub Uc σ H ρ ρ1 d v _ m r1 q1 fun σ1 l1 a1 m1=>?_⟩
  refine h2.ok Ub Uc σ1 H ρ1 ρ' ds vr _ m1 (by rw [bl_eq a1];exact r2) q2 fun σ2 l2 a2 m2=>?_
  exact k σ2 (l2.trans l1) (fun i hi=>(a2 i hi).trans (a1 i hi)) m2⟩
theorem sg_tup {es:List Kv} {k:Nat} {t:TGs} {n:Nat} {fs:List D->Ev->Option Ev} (hc:X.calm=true) (h:SGs X os es t n fs) (hn:(assignEach es X.env).length=n:=by rfl) (hst:(assignEach es X.env).findIdx? (·.1)=none:=by rfl) {K':KC} (hK:X.K=K':=by rfl) :
  SG X os (.Tuple es k pos) (gTup K' n t) (uTup fs):=by
 subst hK
 exact ⟨pg_tup hc h.pg hn hst,fun Ub Uc σ H ρ ρ' d v Q m r e kk=>by
 obtain ⟨ds,q1,q2⟩:=zd e
 cases d <;> simp only [asK] at q1 <;> cases q1
 simp only [Rep] at r
 obtain ⟨a,xs,rfl,hq,hr⟩:=r
 exact ⟨a,xs,rfl,hq,by rw [hr.length,h.len _ _ _ q2],h.ok Ub Uc σ H ρ ρ' ds xs Q m hr q2 kk⟩⟩
end
def yn (u:D->Ev->Option Ev) (c:Ev->Option Bool) (e:Ev->Option D):List D->Ev->Option (List D)
 | [],_=>some []
 | d::ds,ρ=>(u d ρ).bind fun ρ1=>(c ρ1).bind fun b=>if b then (e ρ1).bind fun x=>(yn u c e ds ρ1).map (x::·) else yn u c e ds ρ1
def Z4 (k:Nat) (fi:Ev->Option (List D)) (u:D->Ev->Option Ev) (c:Ev->Option Bool) (e:Ev->Option D):Ev->Option D:=fun ρ=>(fi ρ).bind fun ds=>(yn u c e ds (ρ++List.replicate k none)).bind Jg
structure SPF (X:Cx) (os:List Nat) (ifs:List Kv) (t:TT) (f:Ev->Option Bool):Prop where
 pf:PF X ifs t
 ok:TOk X.K os t f
def YF:Ev->Option Bool:=fun _=>some true
theorem yZ {X:Cx} {os:List Nat}:SPF X os [] tYes YF:=⟨pf_nil,fun Ub Uc σ H ρ b Q m q k=>by cases q;exact k H (.refl H)⟩
theorem Wb {X:Cx} {os:List Nat} {c:Kv} {t:TT} {f:Ev->Option Bool} (h:SB X os c t f):SPF X os [c] t f:=⟨pf_one h.pt,h.ok⟩
section
variable {K:KC} {os:List Nat}
theorem ZX {α:Type} {l r:List α} {i:Nat} {x:α} (h:l[i]?=some x):(l++r)[i]?=some x:=by
 rw [QL (Qh.mp h).1];exact h
theorem Md.extend {Ub H:Hp} {Uc:Kc->Prop} {σ:St} {ρ:Ev} (m:Md K Ub Uc os σ H ρ) (k:Nat) {D':Kc} (hn:H D'=none) :
  Md K Ub (fun b=>Uc b\/b=D') os (σ++List.replicate k none) (upd H D' (.lst [])) (ρ++List.replicate k none):=by
 have hs:zQ H (upd H D' (.lst [])):=zx hn
 have osl:∀ i∈os,(σ++List.replicate k none)[i]?=σ[i]?:=fun i hi=>by
  obtain ⟨a,o,d,h1,_⟩:=m.own i hi
  rw [ZX h1,h1]
 have nown:∀ i∈os,σ[i]?≠some (some (.ref D')):=fun i hi e=>by
  obtain ⟨a,o,d,h1,_,h3,_⟩:=m.own i hi
  rw [e] at h1;cases h1;rw [hn] at h3;cases h3
 have less:∀ b,Bl (fun b=>Uc b\/b=D') os (σ++List.replicate k none) b->Bl Uc os σ b\/b=D':=fun b z=>by
  rcases z with (z | z) | ⟨i,hi,e⟩
  ·exact .inl (.inl z)
  ·exact .inr z
  ·rw [osl i hi] at e;exact .inl (.inr ⟨i,hi,e⟩)
 have g:Goes H (upd H D' (.lst [])) (Bl Uc os σ) (Bl (fun b=>Uc b\/b=D') os (σ++List.replicate k none)):=by
  have g1:=Goes.fresh (B:=Bl Uc os σ) hn hs
  exact ⟨g1.tup,fun b xs q n=>⟨(g1.lst b xs q n).1,fun z=>(g1.lst b xs q n).2 (less b z)⟩,fun b xs q n=>⟨(g1.dct b xs q n).1,fun z=>(g1.dct b xs q n).2 (less b z)⟩,g1.frz,g1.tkt⟩
 refine ⟨m.grow.trans hs,fun a z=>?_,by rw [Qj,Qj,m.len];simp,fun i d q n=>?_,fun i hi=>?_,fun i j a h1 h2 e1 e2=>?_⟩
 ·rcases z with z | rfl
  ·obtain ⟨o,q⟩:=m.blk a z;exact ⟨o,hs _ _ q⟩
  ·exact ⟨_,zu⟩
 ·by_cases hl:i<ρ.length
  ·rw [QL hl] at q
   obtain ⟨v,h1,h2⟩:=m.sh i d q n
   exact ⟨v,ZX h1,Rep.goes g _ _ h2⟩
  ·rw [QP (by omega),Pp] at q
   split at q <;> cases q
 ·obtain ⟨a,o,d,h1,h2,h3,h4,h5⟩:=m.own i hi
  exact ⟨a,o,d,by rw [osl i hi];exact h1,ZX h2,hs _ _ h3,⟨h4.1,fun z=>z.elim h4.2 fun z=>nown i hi (z▸h1)⟩,h5.goes g⟩
 ·rw [osl i h1] at e1;rw [osl j h2] at e2
  exact m.sep i j a h1 h2 e1 e2
theorem fok_comp {s:Bool} {k:Nat} {wi:TI} {g:TG} {tc:TT} {te:TE} {fi:Ev->Option (List D)} {u:D->Ev->Option Ev} {c:Ev->Option Bool} {e:Ev->Option D} (hi:IOk K s os wi fi) (hg:GOk K os g u) (hc:TOk K os tc c) (he:EOk K true os te e) :
  FOk K os (Jk k wi g tc te) (Z4 k fi u c e):=fun Ub Uc σ H ρ d Q m q kk=>by
 obtain ⟨ds,h1,h2⟩:=zd q
 obtain ⟨es,h3,h4⟩:=zd h2
 unfold Jg at h4
 split at h4
 case isFalse=>cases h4
 rename_i hsz
 cases h4
 refine hi Ub Uc σ H ρ ds _ m h1 fun J H1 ok s1 W up _ ok1=>?_
 intro D' hD
 have m1:=m.up s1
 have mE:=m1.extend k hD
 have ok2:ok (upd H1 D' (.lst [])) (fun b=>Bl Uc os σ b\/b=D'):=up D' hD _ _ _ _ (.fresh hD (zx hD)) (fun b o _ q=>zx hD _ _ q) ok1
 refine ⟨fun i mm ys σ' H'=>mm=ds.length - i/\i<=ds.length/\∃ ρ' done zX,Md K Ub (fun b=>Uc b\/b=D') os σ' H' ρ'/\(∀ j∈os,σ'[j]?=(σ++List.replicate k none)[j]?)/\H' D'=some (.lst ys) /\
  ok H' (fun b=>Bl Uc os σ b\/b=D')/\zQ H1 H'/\zm K H' (Bl (fun b=>Uc b\/b=D') os σ') done ys/\yn u c e (ds.drop i) ρ'=some zX/\es=done++zX,⟨ds.length,by simp,Pd _,_,[],es,mE,fun _ _=>rfl,zu,ok2,zx hD,.nil,by simpa using h3,rfl⟩,?_⟩
 rintro i mm ys σ' H' ⟨rfl,hile,ρ',done,zX,mM,ag,hDl,okH,sm,rd,hcomp,hes⟩
 refine ⟨hDl,?_⟩
 have hH0:Ub D'=none:=(m.grow.trans s1).free hD
 have osl:∀ j∈os,σ'[j]?=σ[j]?:=fun j hj=>by
  rw [ag j hj]
  obtain ⟨a,o,d,q1,_⟩:=m.own j hj
  rw [ZX q1,q1]
 have blE:∀ b,Bl (fun b=>Uc b\/b=D') os σ' b↔(Bl Uc os σ b\/b=D'):=fun b=>by
  constructor
  ·rintro ((z | z) | ⟨j,hj,q⟩)
   ·exact .inl (.inl z)
   ·exact .inr z
   ·rw [osl j hj] at q;exact .inl (.inr ⟨j,hj,q⟩)
  ·rintro ((z | ⟨j,hj,q⟩) | z)
   ·exact .inl (.inl z)
   ·exact .inr ⟨j,hj,by rw [osl j hj];exact q⟩
   ·exact .inl (.inr z)
 have blF:Bl (fun b=>Uc b\/b=D') os σ'=fun b=>Bl Uc os σ b\/b=D':=funext fun b=>propext (blE b)
 by_cases hlt:i<ds.length
 ·right
  have hd:ds[i]?=some ds[i]:=by simp [hlt]
  refine ⟨W.go _ _ i _ okH hd,fun x H2 y=>?_⟩
  obtain ⟨s2,rx⟩:=W.yld _ _ i _ x H2 okH hd y
  rw [Pb hlt] at hcomp
  simp only [yn] at hcomp
  obtain ⟨ρ1,q1,q2⟩:=zd hcomp
  obtain ⟨bb,q3,q4⟩:=zd q2
  have mM2:=mM.up s2
  have rx':Rep K H2 (Bl (fun b=>Uc b\/b=D') os σ') ds[i] x:=by rw [blF];exact rx
  have okUp:∀ Hb,zQ H' Hb->ok Hb (fun b=>Bl Uc os σ b\/b=D'):=fun Hb sb=>up D' hD _ _ _ _ (.same sb) (fun b o _ q=>sb _ _ q) okH
  refine hg Ub _ σ' H2 ρ' ρ1 ds[i] x _ mM2 rx' q1 fun σ3 l3 a3 m3=>?_
  refine hc Ub _ σ3 H2 ρ1 bb _ m3 q3 fun H4 s4=>?_
  have m4:=m3.up s4
  cases bb with
  | true =>
   rw [KR rfl] at q4 ⊢
   obtain ⟨z,q5,q6⟩:=zd q4
   obtain ⟨rest',q7,rfl⟩:=map_some q6
   refine he Ub _ σ3 H4 ρ1 z _ m4 q5 fun v H5 s5 r5=>?_
   have m5:=m4.up s5
   have hDl5:H5 D'=some (.lst ys):=s5 _ _ (s4 _ _ (s2 _ _ hDl))
   have hlen:ys.length=done.length:=rd.length
   have hlt':ys.length<Kg:=by
    rw [hes] at hsz
    simp only [Qj,Qd] at hsz
    omega
   have ble:Bl (fun b=>Uc b\/b=D') os σ3=Bl (fun b=>Uc b\/b=D') os σ':=bl_eq a3
   have g6:Goes H5 (upd H5 D' (.lst (ys++[v]))) (Bl (fun b=>Uc b\/b=D') os σ3) (Bl (fun b=>Uc b\/b=D') os σ3):=.write (.inl (.inr rfl)) hDl5 trivial
   refine ⟨hDl5,hlt',ds.length - (i+1),by omega,rfl,hlt,ρ1,done++[z],rest',m5.upB (.inr rfl) hH0 hDl5 trivial,fun j hj=>(a3 j hj).trans (ag j hj),zu,?_,?_,?_,q7,?_⟩
   ·have g7:Goes H5 (upd H5 D' (.lst (ys++[v]))) (fun b=>Bl Uc os σ b\/b=D') (fun b=>Bl Uc os σ b\/b=D'):=.write (.inr rfl) hDl5 trivial
    exact up D' hD _ _ _ _ g7 (fun b o hb q=>by rw [zv hb];exact q) (okUp H5 ((s2.trans s4).trans s5))
   ·intro b o q
    by_cases hb:b=D'
    ·subst hb;rw [hD] at q;cases q
    ·rw [zv hb];exact s5 _ _ (s4 _ _ (s2 _ _ (sm _ _ q)))
   ·refine zm.goes g6 _ _ (zm.append ?_ (.one r5))
    rw [ble]
    exact rd.up ((s2.trans s4).trans s5)
   ·rw [hes];simp
  | false =>
   rw [KS Qi] at q4 ⊢
   refine ⟨ds.length - (i+1),by omega,rfl,hlt,ρ1,done,zX,m4,fun j hj=>(a3 j hj).trans (ag j hj),s4 _ _ (s2 _ _ hDl),okUp H4 (s2.trans s4),sm.trans (s2.trans s4),?_,q4,hes⟩
   rw [bl_eq a3]
   exact rd.up (s2.trans s4)
 ·left
  have hi':i=ds.length:=by omega
  subst hi'
  refine ⟨W.stop _ _ _ okH (Ql _),?_⟩
  rw [Pg] at hcomp
  cases hcomp
  rw [QZ] at hes
  subst hes
  refine kk D' _ H' (s1.trans sm) (s1.free hD) hDl ?_
  simp only [Own]
  refine zm.goes ⟨fun _ _ q=>q,fun b xs q n=>⟨q,fun z=>n ((blE b).mpr z)⟩,fun b xs q n=>⟨q,fun z=>n ((blE b).mpr z)⟩,fun _ _ _ q=>q,fun _ _ q=>q⟩ _ _ rd
end
inductive Out where
 | nx (ρ:Ev) | rt (d:D) | bk (ρ:Ev) | ct (ρ:Ev)
def FR (K:KC) (H H':Hp) (B:Kc->Prop) (d:D) (v:V):Prop :=
 (∃ a o,v=.ref a/\H a=none/\H' a=some o/\Own K H' (fun b=>B b\/b=a) o d)\/(d.flat=true/\Rep K H' B d v) \/
 ∃ (b:Kc) (x:Kw) (as:List Kc),v=.ref b/\d=.tup (.str x::as.map fun _=>.lst [])/\as.Nodup/\(∀ a∈as,H a=none/\H' a=some (.lst []))/\H' b=some (.tup (.str x::as.map V.ref))
theorem jg {K:KC} {H H':Hp} {B:Kc->Prop} (hB:∀ a,B a->∃ o,H a=some o):∀ {as:List Kc},(∀ a∈as,H a=none/\H' a=some (.lst []))->zm K H' B (as.map fun _=>D.lst []) (as.map V.ref)
 | [],_=>.nil
 | a::as,h=>.cons (by
   obtain ⟨h1,h2⟩:=h a Qt
   simp only [Rep]
   exact ⟨a,[],rfl,⟨.inl h2,fun z=>by obtain ⟨o,q⟩:=hB a z;rw [h1] at q;cases q⟩,.nil⟩) (jg hB fun x hx=>h x (Qe _ hx))
theorem FR.rep {K:KC} {H H':Hp} {B:Kc->Prop} {d:D} {v:V} (h:FR K H H' B d v) (hB:∀ a,B a->∃ o,H a=some o):Rep K H' B d v:=by
 rcases h with ⟨a,o,rfl,hn,ho,hw⟩ | ⟨_,h⟩ | ⟨b,x,as,rfl,rfl,hnd,ha,hb⟩
 ·exact hw.rep ho fun z=>by obtain ⟨o',q⟩:=hB a z;rw [hn] at q;cases q
 ·exact h
 ·simp only [Rep]
  exact ⟨b,_,rfl,.inl (.inl hb),.cons (by simp [Rep]) (jg hB ha)⟩
theorem FR.back {K:KC} {Ub H H':Hp} {B:Kc->Prop} {d:D} {v:V} (hs:zQ Ub H) (h:FR K H H' B d v):FR K Ub H' B d v:=by
 rcases h with ⟨a,o,e,hn,q⟩ | q | ⟨b,x,as,h1,h2,h3,h4,h5⟩
 ·exact .inl ⟨a,o,e,hs.free hn,q⟩
 ·exact .inr (.inl q)
 ·exact .inr (.inr ⟨b,x,as,h1,h2,h3,fun a ha=>⟨hs.free (h4 a ha).1,(h4 a ha).2⟩,h5⟩)
def RtOk (K:KC) (fr:Bool) (Ub H:Hp) (Uc:Kc->Prop) (d:D) (v:V):Prop:=match fr with
 | true=>FR K Ub H Uc d v
 | false=>Rep K H Uc d v
def EndOk (K:KC) (fr:Bool) (Ub:Hp) (Uc:Kc->Prop) (os' ol:List Nat) (E:Ends):Out->Prop
 | .nx ρ=>∀ σ H,Md K Ub Uc os' σ H ρ->E.nx σ H
 | .rt d=>∀ v H,zQ Ub H->(∀ a,Uc a->∃ o,H a=some o)->RtOk K fr Ub H Uc d v->E.rt v H
 | .bk ρ=>∀ σ H,Md K Ub Uc ol σ H ρ->E.bk σ H
 | .ct ρ=>∀ σ H,Md K Ub Uc ol σ H ρ->E.ct σ H
def SOk (K:KC) (fr:Bool) (os os' ol:List Nat) (t:TS) (m:Ev->Option Out):Prop :=
 ∀ (Ub:Hp) (Uc:Kc->Prop) (σ:St) (H:Hp) (ρ:Ev) (o:Out) (E:Ends),Md K Ub Uc os σ H ρ->m ρ=some o->EndOk K fr Ub Uc os' ol E o->t E σ H
structure SS (X:Cx) (fr:Bool) (os os' ol:List Nat) (st:Kx) (t:TS) (m:Ev->Option Out):Prop where
 ps:PS X st t
 ok:SOk X.K fr os os' ol t m
structure SSs (X:Cx) (fr:Bool) (os os' ol:List Nat) (st:List Kx) (t:TS) (m:Ev->Option Out):Prop where
 ps:PSs X st t
 ok:SOk X.K fr os os' ol t m
def Z2:Ev->Option Out:=fun ρ=>some (.nx ρ)
def zO (m1 m2:Ev->Option Out):Ev->Option Out:=fun ρ=>(m1 ρ).bind fun o=>match o with
 | .nx ρ'=>m2 ρ'
 | o=>some o
def ZQ (f:Ev->Option D):Ev->Option Out:=fun ρ=>(f ρ).map .rt
def mRetN:Ev->Option Out:=fun _=>some (.rt .non)
def Zi (i:Nat) (f:Ev->Option D):Ev->Option Out:=fun ρ=>(f ρ).map fun d=>.nx (ρ.set i (some d))
def wd (i:Nat) (f:Ev->Option D):Ev->Option Out:=fun ρ=>(f ρ).bind fun d=>if i<ρ.length then some (.nx (ρ.set i (some d))) else none
def mAsg (u:D->Ev->Option Ev) (f:Ev->Option D):Ev->Option Out:=fun ρ=>(f ρ).bind fun d=>(u d ρ).map .nx
def mIf (c:Ev->Option Bool) (m1 m2:Ev->Option Out):Ev->Option Out:=fun ρ=>(c ρ).bind fun b=>if b then m1 ρ else m2 ρ
def mDrop (f:Ev->Option D):Ev->Option Out:=fun ρ=>(f ρ).map fun _=>.nx ρ
def W6 (i:Nat) (g:List D->D->Option (List D)) (f:Ev->Option D):Ev->Option Out:=fun ρ=>(f ρ).bind fun d=>(ρ[i]?.join).bind fun x=>(asL x).bind fun ds=>(g ds d).map fun ds'=>.nx (ρ.set i (some (.lst ds')))
def yx (ds:List D) (d:D):Option (List D):=if ds.length<Kg then some (ds++[d]) else none
def mSetIx (i:Nat) (f fi:Ev->Option D):Ev->Option Out:=fun ρ=>(f ρ).bind fun d=>(ρ[i]?.join).bind fun x=>(asL x).bind fun ds=>(fi ρ).bind fun k=>(asI k).bind fun k=>(ixN ds.length k).map fun j=>.nx (ρ.set i (some (.lst (ds.set j d))))
def jW (u:D->Ev->Option Ev) (b:Ev->Option Out):List D->Ev->Option Out
 | [],ρ=>some (.nx ρ)
 | d::ds,ρ=>(u d ρ).bind fun ρ1=>(b ρ1).bind fun o=>match o with
  | .nx ρ2=>jW u b ds ρ2
  | .ct ρ2=>jW u b ds ρ2
  | .bk ρ2=>some (.nx ρ2)
  | .rt d=>some (.rt d)
def wT (fi:Ev->Option (List D)) (u:D->Ev->Option Ev) (b:Ev->Option Out):Ev->Option Out:=fun ρ=>(fi ρ).bind fun ds=>jW u b ds ρ
section
variable {X:Cx} {fr:Bool} {os o1 os' os2 ol:List Nat} {st:Kx} {zX sts sts2:List Kx} {t u:TS} {m m1 m2:Ev->Option Out} {e a tg:Kv} {te ta:TE} {f fa:Ev->Option D} {pos:KB}
theorem Zs:SSs X fr os os ol [] Jj Z2:=⟨jh,fun Ub Uc σ H ρ o E m q k=>by cases q;exact k σ H m⟩
theorem zB (h:SS X fr os os' ol st t m):SSs X fr os os' ol [st] t m:=⟨Z8 h.ps,h.ok⟩
theorem SOk.seq {K:KC} (h1:SOk K fr os o1 ol t m1) (h2:SOk K fr o1 os' ol u m2):SOk K fr os os' ol (yF t u) (zO m1 m2):=fun Ub Uc σ H ρ o E m q k=>by
 obtain ⟨o',q1,q2⟩:=zd q
 refine h1 Ub Uc σ H ρ o' _ m q1 ?_
 cases o' with
 | nx ρ'=>exact fun σ' H' m'=>h2 Ub Uc σ' H' ρ' o E m' q2 k
 | rt d=>cases q2;exact k
 | bk ρ'=>cases q2;exact k
 | ct ρ'=>cases q2;exact k
theorem zi (h1:SS X fr os o1 ol st t m1) (h2:SSs X fr o1 os' ol zX u m2):SSs X fr os os' ol (st::zX) (yF t u) (zO m1 m2):=⟨Zf h1.ps h2.ps,SOk.seq h1.ok h2.ok⟩
theorem ZH (h:SE X false os e te f):SS X false os os' ol (.Return (some e) pos) (wQ te) (ZQ f):=⟨YX h.pe,fun Ub Uc σ H ρ o E mm q k=>by
 obtain ⟨d,h1,rfl⟩:=map_some q
 exact h.ok Ub Uc σ H ρ d _ mm h1 fun v H' s r=>k v H' ((mm.up s).grow) (mm.up s).blk r⟩
theorem ss_retF (h:SF X os e te f):SS X true os os' ol (.Return (some e) pos) (wQ te) (ZQ f):=⟨YX h.pe,fun Ub Uc σ H ρ o E mm q k=>by
 obtain ⟨d,h1,rfl⟩:=map_some q
 exact h.ok Ub Uc σ H ρ d _ mm h1 fun a u H' s hn ho hw=>k _ H' ((mm.up s).grow) (mm.up s).blk (.inl ⟨a,u,rfl,mm.grow.free hn,ho,hw.goes (.less (fun b z=>z.elim (fun z=>.inl (.inl z)) .inr) (.refl H'))⟩)⟩
theorem jK (h:SE X false os e te f):SS X true os os' ol (.Return (some e) pos) (wQ te) (ZQ (yP f)):=⟨YX h.pe,fun Ub Uc σ H ρ o E mm q k=>by
 obtain ⟨d,h1,rfl⟩:=map_some q
 obtain ⟨x,h2,h3⟩:=zd h1
 split at h3
 ·rename_i hf
  cases h3
  exact h.ok Ub Uc σ H ρ _ _ mm h2 fun v H' s r=>k v H' ((mm.up s).grow) (mm.up s).blk (.inr (.inl ⟨hf,r⟩))
 ·cases h3⟩
structure SR (X:Cx) (st:Bool) (os:List Nat) (e:Kv) (t:TE) (f:Ev->Option D):Prop where
 pe:PE X e t
 ok:∀ (Ub:Hp) (Uc:Kc->Prop) (σ:St) (H:Hp) (ρ:Ev) (d:D) (Q:VK),Md X.K Ub Uc os σ H ρ->f ρ=some d->(∀ v H',zQ H H'->FR X.K H H' (BB st Uc os σ) d v->Q v H')->t σ H Q
def isLs:D->Bool
 | .lst _=>true
 | .dict _ _=>true
 | _=>false
def wj:D->Bool
 | .lst ds=>YR ds
 | .dict _ ds=>YR ds
 | _=>false
def mNewR (i:Nat) (f:Ev->Option D):Ev->Option Out:=fun ρ=>(f ρ).bind fun d=>if i<ρ.length/\isLs d=true then some (.nx (ρ.set i (some d))) else none
def mNewRW (i:Nat) (f:Ev->Option D):Ev->Option Out:=fun ρ=>(f ρ).bind fun d=>if i<ρ.length/\wj d=true then some (.nx (ρ.set i (some d))) else none
theorem SOk.set {K:KC} {i:Nat} (h:EOk K true os te f) (hs:∀ j∈os',j∈os/\j≠i) (hs2:∀ j∈os,j∈os'\/j=i):SOk K fr os os' ol (yG te (ZR i)) (Zi i f):=fun Ub Uc σ H ρ o E mm q k=>by
 obtain ⟨d,h1,rfl⟩:=map_some q
 exact h Ub Uc σ H ρ d _ mm h1 fun v H' s r=>k _ H' ((mm.up s).put hs hs2 r)
theorem zN {i:Nat} {x:Kw} {pos':KB} (hN:X.N.Nodup) (hi:X.N[i]?=some x) (hx:Loc X.env.scope x) (h:SE X true os e te f) (hs:∀ j∈os',j∈os/\j≠i:=by decide) (hs2:∀ j∈os,j∈os'\/j=i:=by decide)
  (hsw:Kt e (some (.Name x pos')) pos.line X.env=pure false:=by rfl) (hf:X.fn x=true\/X.env.scope.names.lookup x=some .local:=by first | exact .inl rfl | exact .inr rfl | assumption) :
  SS X fr os os' ol (.Assign [.Name x pos'] e pos) (yG te (ZR i)) (Zi i f):=⟨yV hN hi hx h.pe hsw hf,SOk.set h.ok hs hs2⟩
theorem SOk.new {K:KC} {i:Nat} (h:FOk K os te f) (hs:∀ j∈os',j=i\/(j∈os/\j≠i)) (hs2:∀ j∈os,j∈os'\/j=i) (hm:i∈os'):SOk K fr os os' ol (yG te (ZR i)) (wd i f):=fun Ub Uc σ H ρ o E mm q k=>by
 obtain ⟨d,h1,h2⟩:=zd q
 split at h2
 ·rename_i hi
  cases h2
  exact h Ub Uc σ H ρ d _ mm h1 fun a u H' s hn ho hw=>k _ H' (mm.putNew hi hs hs2 hm s hn ho hw)
 ·cases h2
theorem YU {i:Nat} {x:Kw} {pos':KB} (hN:X.N.Nodup) (hi:X.N[i]?=some x) (hx:Loc X.env.scope x) (h:SF X os e te f) (hs:∀ j∈os',j=i\/(j∈os/\j≠i):=by decide) (hs2:∀ j∈os,j∈os'\/j=i:=by decide) (hm:i∈os':=by decide)
  (hsw:Kt e (some (.Name x pos')) pos.line X.env=pure false:=by rfl) (hf:X.fn x=true\/X.env.scope.names.lookup x=some .local:=by first | exact .inl rfl | exact .inr rfl | assumption) :
  SS X fr os os' ol (.Assign [.Name x pos'] e pos) (yG te (ZR i)) (wd i f):=⟨yV hN hi hx h.pe hsw hf,SOk.new h.ok hs hs2 hm⟩
theorem FOk.eok {K:KC} {b:Bool} (h:FOk K os te f):EOk K b os te f:=fun Ub Uc σ H ρ d Q m q k=>h Ub Uc σ H ρ d Q m q fun a o H' s hn ho hw=>k _ _ s (Rep.bb (hw.rep ho (m.ntracked hn)))
theorem ss_setC {i:Nat} (hp:PS X st (yG te (ZR i))) (h:FOk X.K os te f) (hs:∀ j∈os',j∈os/\j≠i:=by decide) (hs2:∀ j∈os,j∈os'\/j=i:=by decide):SS X fr os os' ol st (yG te (ZR i)) (Zi i f):=⟨hp,SOk.set h.eok hs hs2⟩
theorem ss_asg {g:TG} {u:D->Ev->Option Ev} (h:SE X true os e te f) (hg:SG X os tg g u) (hs:swapsWithSole [tg] e pos.line X.env=pure false:=by rfl) (hw:swappedStores [tg] e X.env=pure none:=by rfl)
  (h1:(assignEach [tg] X.env).map (·.2)=[assign tg X.env]:=by rfl):SS X fr os os ol (.Assign [tg] e pos) (yG te g) (mAsg u f):=⟨ps_asg h.pe hg.pg hs hw h1,fun Ub Uc σ H ρ o E mm q k=>by
 obtain ⟨d,h1,h2⟩:=zd q
 obtain ⟨ρ',h3,rfl⟩:=map_some h2
 exact h.ok Ub Uc σ H ρ d _ mm h1 fun v H' s r=>hg.ok Ub Uc σ H' ρ ρ' d v _ (mm.up s) r h3 fun σ' _ _ m'=>k σ' H' m'⟩
theorem Ye {α:Type} {ρ:List (Option α)} {i:Nat} {d:α} (q:ρ[i]?.join=some d):ρ[i]?=some (some d):=by
 cases z:ρ[i]? with
 | none=>rw [z] at q;cases q
 | some o=>rw [z] at q;cases o <;> simp at q;rw [q]
theorem pe_append {i:Nat} {x:Kw} {p apos cpos:KB} (he:PE X e te) (hN:X.N[i]?=some x:=by rfl) (hv:Vis X.env.scope x:=by first | exact Or.inl rfl | exact Or.inr (Or.inl rfl) | exact Or.inr (Or.inr rfl)) (hd:(x == ("__debug__":Kw))=false:=by decide)
  (hcd:(x == ("__classdict__":Kw))=false:=by decide) (hs1:Ke [e] X.env=(false,Kz e X.env)::Ke [] X.env:=by rfl)
  (hbase:Kp (.Name x p) "append" X.env (Kz (.Name x p) X.env)=Kz (.Name x p) X.env:=by rfl)
  (hfew:((Kq cpos (Ke [e] X.env)).all (fun x=>!x.1)&&(Kr cpos (Ks [] X.env)).all (fun x=>x.1.isSome)
   && decide ([e].length+([]:List Keyword).length+(if ([]:List Keyword).isEmpty then 0 else 1)<30))=true:=by rfl)
  (hline:(apos.endLine == cpos.line)=true:=by rfl) (hplain:(Kq cpos (Ke [] X.env)).any (·.1)=false:=by rfl):PE X (.Call (.Attribute (.Name x p) "append" apos) [e] [] cpos) (tBM X.K "list" Ya (Zj i) (zW te ZS)) :=
 pe_bm KJ PySem.F.slot_list_append PySem.F.type_list_append Y6 (pv i hN hv hd hcd) (zC he zY hs1) hbase hfew hline hs1 hplain
theorem yU {i:Nat} {x:Kw} {p apos:KB} (h:SE X true os e te f) (ho:i∈os:=by decide) (hN:X.N[i]?=some x:=by rfl) (hv:Vis X.env.scope x:=by first | exact Or.inl rfl | exact Or.inr (Or.inl rfl) | exact Or.inr (Or.inr rfl)) (hd:(x == ("__debug__":Kw))=false:=by decide)
  (hcd:(x == ("__classdict__":Kw))=false:=by decide) {cpos:KB} (hs1:Ke [e] X.env=(false,Kz e X.env)::Ke [] X.env:=by rfl)
  (hbase:Kp (.Name x p) "append" X.env (Kz (.Name x p) X.env)=Kz (.Name x p) X.env:=by rfl)
  (hfew:((Kq cpos (Ke [e] X.env)).all (fun x=>!x.1)&&(Kr cpos (Ks [] X.env)).all (fun x=>x.1.isSome)
   && decide ([e].length+([]:List Keyword).length+(if ([]:List Keyword).isEmpty then 0 else 1)<30))=true:=by rfl)
  (hline:(apos.endLine == cpos.line)=true:=by rfl) (hplain:(Kq cpos (Ke [] X.env)).any (·.1)=false:=by rfl) (hs:Kt (.Call (.Attribute (.Name x p) "append" apos) [e] [] cpos) none pos.line X.env=pure false:=by rfl) :
  SS X fr os os ol (.Expr (.Call (.Attribute (.Name x p) "append" apos) [e] [] cpos) pos) (YI (tBM X.K "list" Ya (Zj i) (zW te ZS))) (W6 i yx f):=⟨Yl (pe_append h.pe hN hv hd hcd hs1 hbase hfew hline hplain) hs,fun Ub Uc σ H ρ o E mm q k=>by
 obtain ⟨d,h1,h2⟩:=zd q
 obtain ⟨y,h3,h4⟩:=zd h2
 obtain ⟨ds,h5,h6⟩:=zd h4
 obtain ⟨ds',h7,rfl⟩:=map_some h6
 unfold yx at h7
 split at h7
 case isFalse=>cases h7
 rename_i hl
 cases h7
 cases y <;> simp only [asL] at h5 <;> cases h5
 obtain ⟨a,ob,d',q1,q2,q3,q4,q5⟩:=mm.own i ho
 have h3':=Ye h3
 rw [h3'] at q2;cases q2
 cases ob <;> simp only [Own] at q5
 refine ⟨.ref a,q1,.inl ⟨rfl,_,.inl (.inl q3)⟩,?_⟩
 refine h.ok Ub Uc σ H ρ d _ mm h1 fun v H' s r=>?_
 have m':=mm.up s
 have q5':=zm.up s q5
 refine ⟨a,_,v,rfl,rfl,s _ _ q3,by rw [q5.length];exact hl,k σ _ ?_⟩
 exact m'.write ho q1 (o:=.lst _) (d:=.lst _) (by simp only [Own];exact q5'.append (.one r))⟩
theorem yb {c:Kv} {a b:List Kx} {tc:TT} {g:Ev->Option Bool} (hc:SB X os c tc g) (ha:SSs X fr os os' ol a t m1) (hb:SSs X fr os os' ol b u m2):SS X fr os os' ol (.If c a b pos) (Wx tc t u) (mIf g m1 m2):=⟨wA hc.pt ha.ps hb.ps,fun Ub Uc σ H ρ o E mm q k=>by
 obtain ⟨d,h1,h2⟩:=zd q
 refine hc.ok Ub Uc σ H ρ d _ mm h1 fun H' s=>?_
 cases d with
 | true=>rw [KR rfl] at h2 ⊢;exact ha.ok Ub Uc σ H' ρ o E (mm.up s) h2 k
 | false=>rw [KS Qi] at h2 ⊢;exact hb.ok Ub Uc σ H' ρ o E (mm.up s) h2 k⟩
theorem EndOk.shallow {K:KC} {fr:Bool} {Ub H₁:Hp} {Uc:Kc->Prop} {os' ol:List Nat} {E:Ends} {o:Out} (hs:zQ Ub H₁) (h:EndOk K fr Ub Uc os' ol E o):EndOk K fr H₁ Uc os' ol E o:=by
 cases o with
 | nx ρ=>exact fun σ H m=>h σ H (m.shallow hs)
 | rt d=>exact fun v H s b r=>h v H (hs.trans s) b (by
   cases fr with
   | false=>exact r
   | true =>
    exact FR.back hs r)
 | bk ρ=>exact fun σ H m=>h σ H (m.shallow hs)
 | ct ρ=>exact fun σ H m=>h σ H (m.shallow hs)
theorem Yu {iter:Kv} {body:List Kx} {wi:TI} {g:TG} {tb:TS} {fi:Ev->Option (List D)} {ug:D->Ev->Option Ev} (hc:X.calm=true) (hi:SI X true os tg iter wi fi) (hg:SG X os tg g ug) (hb:SSs X fr os os os body tb m)
  (hp:PassesOwn (Ky X.prog X.w) X.A X.env X.xe:=by exact PassesOwn.never) (hs:∀ x,foldedSetIterable iter X.env x=pure x:=by intro _;rfl):SS X fr os os ol (.For tg iter body [] pos) (tFor wi g tb) (wT fi ug m):=⟨ps_for hp hc hi.pi hg.pg hb.ps hs,fun Ub Uc σ H ρ o E mm q k=>by
 obtain ⟨ds,h1,h2⟩:=zd q
 refine hi.ok Ub Uc σ H ρ ds _ mm h1 fun J H1 ok s1 W up mv ok1=>?_
 have m1:=mm.up s1
 have mD:=m1.deep
 have okB:=mv rfl _ _ _ _ m1.goDown ok1
 have k':=k.shallow m1.sub
 refine ⟨fun i n σ' H'=>n=ds.length - i/\i<=ds.length/\∃ ρ',Md X.K (jH H1 os σ) Uc os σ' H' ρ'/\jW ug m (ds.drop i) ρ'=some o,⟨ds.length,by simp,Pd _,ρ,mD,by simpa using h2⟩,?_⟩
 rintro i n σ' H' ⟨rfl,hile,ρ',mM,hf⟩
 have okN:=mv rfl _ _ _ _ mM.goUp okB
 by_cases hlt:i<ds.length
 ·right
  have hd:ds[i]?=some ds[i]:=by simp [hlt]
  rw [Pb hlt] at hf
  simp only [jW] at hf
  obtain ⟨ρ1,q1,q2⟩:=zd hf
  obtain ⟨o',q3,q4⟩:=zd q2
  refine ⟨W.go _ _ i _ okN hd,fun σ2 H2=>∃ ρ2,Md X.K (jH H1 os σ) Uc os σ2 H2 ρ2/\jW ug m (ds.drop (i+1)) ρ2=some o,fun σ2 H2 ⟨ρ2,m2,f2⟩=>⟨ds.length - (i+1),by omega,rfl,hlt,ρ2,m2,f2⟩,fun x H2 y=>?_⟩
  obtain ⟨s2,rx⟩:=W.yld _ _ i _ x H2 okN hd y
  refine hg.ok _ Uc σ' H2 ρ' ρ1 ds[i] x _ (mM.up s2) rx q1 fun σ3 l3 a3 m3=>?_
  refine hb.ok _ Uc σ3 H2 ρ1 o' _ m3 q3 ?_
  cases o' with
  | nx ρ2=>exact fun σ4 H4 m4=>⟨ρ2,m4,q4⟩
  | ct ρ2=>exact fun σ4 H4 m4=>⟨ρ2,m4,q4⟩
  | bk ρ2=>cases q4;exact fun σ4 H4 m4=>k' σ4 H4 m4
  | rt d=>cases q4;exact k'
 ·left
  have hi':i=ds.length:=by omega
  subst hi'
  rw [Pg] at hf
  cases hf
  exact ⟨W.stop _ _ _ okN (Ql _),k' σ' H' mM⟩⟩
end
def zM (n:Nat) (ds:List D):Ev:=ds.map some++List.replicate (n - ds.length) none
def outD:Out->Option D
 | .nx _=>some .non
 | .rt d=>some d
 | _=>none
def Z1 (k n:Nat) (m:Ev->Option Out):List D->Option D:=fun ds=>if ds.length=k then (m (zM n ds)).bind outD else none
section
variable {P:Ki} {w:Kk} {K:KC} {mg:Kw->Option Ka} {base:Kl}
theorem jQ {H:Hp} {B:Kc->Prop} {N:List Kw} {ds:List D} {vs:List V} (hB:∀ a,B a->∃ o,H a=some o) (r:zm K H B ds vs):Md K H B [] (L2.yi N vs) H (zM N.length ds):=by
 have hl:=r.length
 refine ⟨.refl H,hB,by simp [L2.yi,zM,hl],fun i d q _=>?_,fun i hi=>(nomatch hi),fun i j a hi=>(nomatch hi)⟩
 have hb:Bl B [] (L2.yi N vs)=B:=by funext a;unfold Bl;apply propext;exact ⟨fun z=>z.elim id fun ⟨i,hi,_⟩=>(nomatch hi),.inl⟩
 rw [hb]
 unfold zM at q
 unfold L2.yi
 by_cases hi:i<ds.length
 ·rw [QL (by simpa using hi),QO] at q
  obtain ⟨v,h1,h2⟩:=r.get (i:=i) (d:=ds[i]) (by simp [hi])
  have:d=ds[i]:=by simp [hi] at q;exact q.symm
  subst this
  exact ⟨v,by rw [QL (by simp;omega),QO,h1];rfl,h2⟩
 ·rw [QP (by simp;omega),Pp] at q
  split at q <;> cases q
def spF (K:KC) (m:List D->Option D):Sp:=fun vs H Q _=>∃ (B:Kc->Prop) (ds:List D) (d:D),(∀ a,B a->∃ o,H a=some o)/\zm K H B ds vs/\m ds=some d/\∀ v H',zQ H H'->FR K H H' B d v->Q v H'
theorem fn_ok {x qual:Kw} {st:Kx} {f:Kc} {fd:Kh} {N ps:List Kw} {k:Nat} {m:Ev->Option Out} (F:Fun K x qual st f fd) (S:FnScope N ps (zF st))
  (hbody:∀ (cdv:Ka) (A:Kj) (outer:List Env) (s:Kb) (H:Hp) (E:XK),Room k (A.deeper (PyProof.Rows.envOfC qual (zF st) s.heap.objs.size f cdv)) ->
   ∃ t os',SSs (Jh CX0 P w K mg base N qual (zF st) f cdv A outer s H E).nox false [] os' [] (Zk st) t m):FnOk P w K mg base CX0 (k+1) f fd ps (spM K (Z1 ps.length N.length m)):=by
 refine F.ok S (fun vs H Q E h=>?_) (fun cdv A outer s H vs Q E hr h=>?_)
 ·obtain ⟨B,ds,d,hB,r,q,_⟩:=h
  unfold Z1 at q
  split at q
  ·rw [r.length];assumption
  ·cases q
 ·obtain ⟨B,ds,d,hB,r,q,kk⟩:=h
  unfold Z1 at q
  split at q
  case isFalse=>cases q
  obtain ⟨o,q1,q2⟩:=zd q
  obtain ⟨t,os',hS⟩:=hbody cdv A outer s H E hr
  refine ⟨t,hS.ps,hS.ok H B (L2.yi N vs) H (zM N.length ds) o _ (jQ hB r) q1 ?_⟩
  cases o with
  | nx ρ=>simp only [outD] at q2;cases q2;exact fun σ' H' m'=>kk _ H' m'.grow (by simp [Rep])
  | rt d'=>simp only [outD] at q2;cases q2;exact fun v H' s _ r'=>kk v H' s r'
  | bk ρ=>cases q2
  | ct ρ=>cases q2
theorem fn_okF {x qual:Kw} {st:Kx} {f:Kc} {fd:Kh} {N ps:List Kw} {k:Nat} {m:Ev->Option Out} (F:Fun K x qual st f fd) (S:FnScope N ps (zF st))
  (hbody:∀ (cdv:Ka) (A:Kj) (outer:List Env) (s:Kb) (H:Hp) (E:XK),Room k (A.deeper (PyProof.Rows.envOfC qual (zF st) s.heap.objs.size f cdv)) ->
   ∃ t os',SSs (Jh CX0 P w K mg base N qual (zF st) f cdv A outer s H E).nox true [] os' [] (Zk st) t m):FnOk P w K mg base CX0 (k+1) f fd ps (spF K (Z1 ps.length N.length m)):=by
 refine F.ok S (fun vs H Q E h=>?_) (fun cdv A outer s H vs Q E hr h=>?_)
 ·obtain ⟨B,ds,d,hB,r,q,_⟩:=h
  unfold Z1 at q
  split at q
  ·rw [r.length];assumption
  ·cases q
 ·obtain ⟨B,ds,d,hB,r,q,kk⟩:=h
  unfold Z1 at q
  split at q
  case isFalse=>cases q
  obtain ⟨o,q1,q2⟩:=zd q
  obtain ⟨t,os',hS⟩:=hbody cdv A outer s H E hr
  refine ⟨t,hS.ps,hS.ok H B (L2.yi N vs) H (zM N.length ds) o _ (jQ hB r) q1 ?_⟩
  cases o with
  | nx ρ=>simp only [outD] at q2;cases q2;exact fun σ' H' m'=>kk _ H' m'.grow (.inr (.inl ⟨rfl,by simp [Rep]⟩))
  | rt d'=>simp only [outD] at q2;cases q2;exact fun v H' s _ r'=>kk v H' s r'
  | bk ρ=>cases q2
  | ct ρ=>cases q2
theorem FnOk.plain {k:Nat} {f:Kc} {fd:Kh} {ps:List Kw} {m:List D->Option D} (F:FnOk P w K mg base CX0 k f fd ps (spF K m)):FnOk P w K mg base CX0 k f fd ps (spM K m) :=
 F.imp fun vs H Q E ⟨B,ds,d,hB,r,q,kk⟩=>⟨B,ds,d,hB,r,q,fun v H' s h=>kk v H' s (h.rep hB)⟩
theorem sr_call {X:Cx} {st:Bool} {os:List Nat} {e:Kv} {es:List Kv} {tl:TA} {fl:Ev->Option (List D)} {pos p:KB} {x:Kw} {k:Nat} {fn:Kc} {fd:Kh} {ps:List Kw} {m:List D->Option D} (F:FnOk X.prog X.w X.K X.mg X.base CX0 k fn fd ps (spF X.K m)) (hr:Room k X.A) (hg:Gl X x) (hm:X.mg x=some (.ref fn)) (hk:keepIn X.K (.ref fn)=true) (hb:yR X.K fd ps [])
  (ha:SA X st os (e::es) tl fl) (hdb:(x == ("__debug__":Kw))=false:=by decide) (he:Ke (e::es) X.env=(false,Kz e X.env)::Ke es X.env:=by rfl) (hpl:(Kq pos (Ke es X.env)).any (·.1)=false:=by rfl) :
  SR X st os (.Call (.Name x p) (e::es) [] pos) (jI (spF X.K m) [] E0 tl) (fA m fl):=⟨Wj F hr hg hm hk hb .nil WZ ha.pa hdb he hpl,fun Ub Uc σ H ρ d Q M q kk=>by
 obtain ⟨ds,h1,h2⟩:=zd q
 refine ha.ok Ub Uc σ H ρ ds _ M h1 fun vs H1 s1 r1=>?_
 refine ⟨BB st Uc os σ,ds,d,(M.up s1).bb st,by rw [QZ];exact r1,h2,fun v H' s2 r2=>kk v H' (s1.trans s2) (r2.back s1)⟩⟩
end
end M
namespace L2
open PySem PySem.Spec PyProof.Rows
section
variable {prog:Ki} {w:Kk} {A:Kj} {E:Ka->Kb->Prop} {s:Kb}
end
section
variable {X:Cx} {pos:KB}
end
end L2
namespace M
open PySem PySem.Spec L2
open PySem.W (Frag)
section
variable {X:Cx} {os:List Nat} {pos:KB}
theorem Jc {X:Cx} {scope:Scope} {own N':List Kw} {k:Nat} (h:(decide (scope.kind=.function)&&scope.names.all (fun y=>(!(y.2 == .local)||scope.names.lookup y.1 == some .local)&&(!(y.2 == .cell)||scope.names.lookup y.1 == some .cell) &&
  (!(y.2 == .free)||((X.env.scope.names.lookup y.1 == some .cell||X.env.scope.names.lookup y.1 == some .free)&&!own.contains y.1)))&&decide (N'.length=X.N.length+k) &&
  (List.range X.N.length).all (fun i=>match N'[i]? with | some x=>scope.names.lookup x == none||(X.N[i]? == some x&&scope.names.lookup x == some .free) | none=>true))=true):CompOk X scope own N' k:=by
 simp only [QK,List.all_eq_true,decide_eq_true_eq,Bool.or_eq_true,PM,beq_iff_eq,List.mem_range] at h
 obtain ⟨⟨⟨h1,h2⟩,h3⟩,h4⟩:=h
 refine ⟨h1,fun y hy e=>?_,fun y hy e=>?_,fun y hy e=>?_,fun y hy e=>?_,h3,fun i x hi e=>?_⟩
 ·rcases (h2 y hy).1.1 with z | z
  ·rw [e] at z;simp at z
  ·exact z
 ·rcases (h2 y hy).1.2 with z | z
  ·rw [e] at z;simp at z
  ·exact z
 ·rcases (h2 y hy).2 with z | z
  ·rw [e] at z;simp at z
  ·exact z.1
 ·rcases (h2 y hy).2 with z | z
  ·rw [e] at z;simp at z
  ·exact z.2
 ·have q:=h4 i hi
  rw [e] at q
  simpa using q
end
theorem law_end {l:PySem.W.OpenLaw} {m:List D->Option D} {K:KC} {H:Hp} {a:Kc} {ns:List Int} (hO:Only H) (hq:SqL K H a (ns.map V.int)) (hm:m [.scr ns]=some (.bl true)) :
  spM K m [.ref a] H (fun v _=>v=.bl true) (fun _ _ _=>False):=by
 refine ⟨fun _=>False,[.scr ns],.bl true,fun _ z=>z.elim,.one ?_,hm,fun v H' _ r=>by simpa [Rep] using r⟩
 simp only [Rep]
 refine ⟨a,rfl,?_⟩
 rcases hq with hq | hq
 ·rcases hq with hq | hq
  ·rcases hO a with z | ⟨o,xs,z⟩ <;> (rw [z] at hq;cases hq)
  ·exact .inl hq
 ·exact .inr hq
section
variable {X:Cx} {fr:Bool} {os os' ol:List Nat} {pos:KB} {s:Bool} {scope:Scope} {own N':List Kw} {k:Nat} {elt target iter:Kv} {ifs:List Kv} {wi:TI} {g:TG} {tc:TT} {te:TE} {fi:Ev->Option (List D)} {u:D->Ev->Option Ev} {cf:Ev->Option Bool} {e:Ev->Option D}
theorem sf_comp (c:CompOk X scope own N' k) (hc:X.calm=true) (hi:SI X s os target iter wi fi) (hg:∀ s₂ H₂ fp C,SG (Zp X scope own N' s₂ H₂ fp C) os target g u) (ht:∀ s₂ H₂ fp C,SPF (Zp X scope own N' s₂ H₂ fp C) os ifs tc cf)
  (he:∀ s₂ H₂ fp C,SE (Zp X scope own N' s₂ H₂ fp C) true os elt te e) (hs:∀ x,foldedSetIterable iter X.env x=pure x:=by intro _;rfl):SF X os (.ListComp elt [⟨target,iter,ifs,0⟩] scope pos) (Jk k wi g tc te) (Z4 k fi u cf e) :=
 ⟨pe_comp c hc hi.pi (fun a b c d=>(hg a b c d).pg) (fun a b c d=>(ht a b c d).pf) (fun a b c d=>(he a b c d).pe) hs,fok_comp hi.ok (hg X.s₀ X.Ub [] 0).ok (ht X.s₀ X.Ub [] 0).ok (he X.s₀ X.Ub [] 0).ok⟩
theorem WH {i:Nat} {x:Kw} {pos' spos:KB} (hN:X.N.Nodup) (hix:X.N[i]?=some x) (hx:X.env.scope.names.lookup x=some .local) (c:CompOk X scope own N' k) (hc:X.calm=true) (hi:SI X s os target iter wi fi) (hg:∀ s₂ H₂ fp C,SG (Zp X scope own N' s₂ H₂ fp C) os target g u) (ht:∀ s₂ H₂ fp C,SPF (Zp X scope own N' s₂ H₂ fp C) os ifs tc cf)
  (he:∀ s₂ H₂ fp C,SE (Zp X scope own N' s₂ H₂ fp C) true os elt te e) (hsw:Kt (.ListComp elt [⟨target,iter,ifs,0⟩] scope pos) (some (.Name x pos')) spos.line X.env=pure true:=by rfl)
  (h1:∀ j∈os',j∈os/\j≠i:=by decide) (h2:∀ j∈os,j∈os'\/j=i:=by decide) (hs:∀ x,foldedSetIterable iter X.env x=pure x:=by intro _;rfl) :
  SS X fr os os' ol (.Assign [.Name x pos'] (.ListComp elt [⟨target,iter,ifs,0⟩] scope pos) spos) (yG (Jk k wi g tc te) (ZR i)) (Zi i (Z4 k fi u cf e)) :=
 ss_setC (WW hN hix hx c hc hi.pi (fun a b c d=>(hg a b c d).pg) (fun a b c d=>(ht a b c d).pf) (fun a b c d=>(he a b c d).pe) hsw hs) (fok_comp hi.ok (hg X.s₀ X.Ub [] 0).ok (ht X.s₀ X.Ub [] 0).ok (he X.s₀ X.Ub [] 0).ok) h1 h2
end
open PySem L2
section
variable {ρ:Ev} {f fa fb fc:Ev->Option D} {fl ca cb:Ev->Option (List D)} {g g':D->D->Option D} {c c1 c2:Ev->Option Bool} {m m1 m2:Ev->Option Out} {i k n:Nat} {d:D} {ds:List D} {u:D->Ev->Option Ev} {us:List D->Ev->Option Ev} {h:D->Option D} {gl:List D->Option D}
@[simp] theorem fVar_:zb i ρ=ρ[i]?.join:=rfl
@[simp] theorem fC_:fC d ρ=some d:=rfl
@[simp] theorem f1_:f1 h fa ρ=(fa ρ).bind h:=rfl
@[simp] theorem f2_:f2 g fa fb ρ=(fa ρ).bind fun x=>(fb ρ).bind fun y=>g x y:=rfl
@[simp] theorem fSeq_ {b:Bool}:zh b fa ρ=(fa ρ).bind (asK b):=rfl
@[simp] theorem fFlat_:yP fa ρ=(fa ρ).bind fun d=>if d.flat then some d else none:=rfl
@[simp] theorem fTest_:zI fa ρ=(fa ρ).bind asB:=rfl
@[simp] theorem fTru_:fTru fa ρ=(fa ρ).bind truD:=rfl
@[simp] theorem fAnd_:wv c1 c2 ρ=(c1 ρ).bind fun c=>if c then c2 ρ else some false:=rfl
@[simp] theorem fOr_:fOr c1 c2 ρ=(c1 ρ).bind fun c=>if c then some true else c2 ρ:=rfl
@[simp] theorem fNot_:fNot c ρ=(c ρ).map (!·):=rfl
@[simp] theorem fAndV_:fAndV fa fb ρ=((fa ρ).bind asB).bind fun c=>if c then fb ρ else some (.bl false):=rfl
@[simp] theorem fOrV_:fOrV fa fb ρ=((fa ρ).bind asB).bind fun c=>if c then some (.bl true) else fb ρ:=rfl
@[simp] theorem fNotV_:fNotV fa ρ=((fa ρ).bind asB).map fun c=>.bl (!c):=rfl
@[simp] theorem fIf_:fIf c fa fb ρ=(c ρ).bind fun c=>if c then fa ρ else fb ρ:=rfl
@[simp] theorem fChain_:jY g g' fa fb fc ρ=(fa ρ).bind fun x=>(fb ρ).bind fun y=>((g x y).bind asB).bind fun c=>if c then (fc ρ).bind fun z=>g' y z else some (.bl false):=rfl
@[simp] theorem fNil_:zr ρ=some []:=rfl
@[simp] theorem Zo:zf fa fl ρ=(fa ρ).bind fun x=>(fl ρ).map (x::·):=rfl
@[simp] theorem fLst_:ZJ fl ρ=(fl ρ).bind Jg:=rfl
@[simp] theorem fTup_:ZC fl ρ=(fl ρ).bind JD:=rfl
@[simp] theorem fA_:fA gl fl ρ=(fl ρ).bind gl:=rfl
@[simp] theorem fIx_:fIx fl fb ρ=(fl ρ).bind fun ds=>(fb ρ).bind fun i=>dIx ds i:=rfl
@[simp] theorem fL_:fL fa ρ=(fa ρ).bind asL:=rfl
@[simp] theorem fCat_:wX ca cb ρ=(ca ρ).bind fun x=>(cb ρ).bind fun y=>Jg (x++y):=rfl
theorem fRep_:fRep fl fb ρ=(fl ρ).bind fun x=>(fb ρ).bind fun y=>dRep x y:=rfl
@[simp] theorem fNo_:fNo ρ=some none:=rfl
@[simp] theorem fPart_:yE fa ρ=(fa ρ).bind fun d=>(asI d).map some:=rfl
@[simp] theorem fCut_ {w:List D->D} {f1 f2:Ev->Option (Option Int)}:wu w fl f1 f2 ρ=(fl ρ).bind fun ds=>(f1 ρ).bind fun lo=>(f2 ρ).bind fun hi=>some (w (cutD ds lo hi)):=rfl
theorem fRng1_:yO fa ρ=(fa ρ).bind fun d=>(asI d).bind fun j=>if -(2 ^ 62)<=j/\j<2 ^ 62 then some (yr 0 j.toNat) else none:=rfl
@[simp] theorem fZip_:fZip ca cb ρ=(ca ρ).bind fun xs=>(cb ρ).map fun ys=>zipD xs ys:=rfl
@[simp] theorem JB {e:Ev->Option D}:Z4 k fl u c e ρ=(fl ρ).bind fun ds=>(yn u c e ds (ρ++List.replicate k none)).bind Jg:=rfl
@[simp] theorem fYes_:YF ρ=some true:=rfl
@[simp] theorem yT:zR i d ρ=some (ρ.set i (some d)):=rfl
@[simp] theorem uTup_:uTup us d ρ=(asK false d).bind fun ds=>us ds ρ:=rfl
@[simp] theorem uLst_:uLst us d ρ=(asK true d).bind fun ds=>us ds ρ:=rfl
@[simp] theorem uNil_:uNil [] ρ=some ρ:=rfl
@[simp] theorem uCons_:jx u us (d::ds) ρ=(u d ρ).bind fun ρ'=>us ds ρ':=rfl
@[simp] theorem ZB:Z2 ρ=some (.nx ρ):=rfl
@[simp] theorem jR:ZQ f ρ=(f ρ).map .rt:=rfl
@[simp] theorem mRetN_:mRetN ρ=some (.rt .non):=rfl
@[simp] theorem mSet_:Zi i f ρ=(f ρ).map fun d=>.nx (ρ.set i (some d)):=rfl
@[simp] theorem mNew_:wd i f ρ=(f ρ).bind fun d=>if i<ρ.length then some (.nx (ρ.set i (some d))) else none:=rfl
@[simp] theorem mAsg_:mAsg u f ρ=(f ρ).bind fun d=>(u d ρ).map .nx:=rfl
@[simp] theorem mIf_:mIf c m1 m2 ρ=(c ρ).bind fun b=>if b then m1 ρ else m2 ρ:=rfl
@[simp] theorem mDrop_:mDrop f ρ=(f ρ).map fun _=>.nx ρ:=rfl
@[simp] theorem jS:wT fl u m ρ=(fl ρ).bind fun ds=>jW u m ds ρ:=rfl
@[simp] theorem mUpd_ {w:List D->D->Option (List D)}:W6 i w f ρ=(f ρ).bind fun d=>(ρ[i]?.join).bind fun x=>(asL x).bind fun ds=>(w ds d).map fun ds'=>.nx (ρ.set i (some (.lst ds'))):=rfl
@[simp] theorem mSetIx_ {fi:Ev->Option D}:mSetIx i f fi ρ=(f ρ).bind fun d=>(ρ[i]?.join).bind fun x=>(asL x).bind fun ds=>(fi ρ).bind fun k=>(asI k).bind fun k=>(ixN ds.length k).map fun j=>.nx (ρ.set i (some (.lst (ds.set j d)))):=rfl
@[simp] theorem asK_t {ds:List D}:asK true (.lst ds)=some ds:=rfl
@[simp] theorem asK_s {ns:List Int}:asK true (.scr ns)=some (ns.map .int):=rfl
@[simp] theorem asK_f {ds:List D}:asK false (.tup ds)=some ds:=rfl
@[simp] theorem asL_ {ds:List D}:asL (.lst ds)=some ds:=rfl
@[simp] theorem asB_ {b:Bool}:asB (.bl b)=some b:=rfl
@[simp] theorem wZ {j:Int}:asI (.int j)=some j:=rfl
@[simp] theorem dI_ {w:Int->Int->D} {a b:Int}:dI w (.int a) (.int b)=some (w a b):=rfl
theorem dIc_ {C:Int->Int->Prop} {w:Int->Int->D} {a b:Int} (hc:C a b):dIc C w (.int a) (.int b)=some (w a b):=by unfold dIc;exact KR hc
@[simp] theorem yt {a b:Int} (hc:IntMulOk a b):Yn (.int a) (.int b)=some (.int (a*b)):=dIc_ hc
@[simp] theorem Zw {a b:Int} (hc:0<b):yf (.int a) (.int b)=some (.int (a % b)):=dIc_ (C:=fun _ j=>0<j) hc
@[simp] theorem yj {a b:Int} (h0:0<b) (h1:b<1073741824):Yi (.int a) (.int b)=some (.int (a / b)):=dIc_ (C:=CDiv) ⟨h0,h1⟩
theorem dDivP_s {a b:Int} (h:CDivB a b):dDivP (.int a) (.int b)=some (.int (a.fdiv b)):=dIc_ h
@[simp] theorem dPow_s {a b:Int} (h0:0<=b) (h1:b<=1000000) (h2:a.natAbs<2 ^ 64):dPow (.int a) (.int b)=some (.int (a ^ b.toNat)):=dIc_ (C:=CPow) ⟨h0,h1,h2⟩
@[simp] theorem dNeg_ {a:Int}:ww (.int a)=some (.int (-a)):=rfl
@[simp] theorem YT {a b:Int}:ZE (.int a) (.int b)=some (.bl (decide (a=b))):=rfl
@[simp] theorem dNeS_ {a b:Int}:Y9 (.int a) (.int b)=some (.bl (!decide (a=b))):=rfl
@[simp high] theorem dEqS_self {a:Int}:ZE (.int a) (.int a)=some (.bl true):=by rw [YT,KU rfl]
@[simp high] theorem dNeS_self {a:Int}:Y9 (.int a) (.int a)=some (.bl false):=by rw [dNeS_,KU rfl];rfl
@[simp] theorem dIx_ {a:Int}:dIx ds (.int a)=atI ds a:=rfl
@[simp] theorem gLen_:yX ds=some (.int ds.length):=rfl
@[simp] theorem gTuple_:jV ds=some (.tup ds):=rfl
@[simp] theorem gSum_ {ns:List Int}:JW (ns.map .int)=some (.int ns.sum):=by simp [JW,intsD_map]
@[simp] theorem gIntB {b:Bool}:wn [.bl b]=some (.int (if b then 1 else 0)):=rfl
@[simp] theorem gIntI {b:Int}:wn [.int b]=some (.int b):=rfl
@[simp] theorem gAbs_ {b:Int}:gAbs [.int b]=some (.int (if b<0 then -b else b)):=rfl
@[simp] theorem dIsi_i {T:String} {a:Int}:dIsi T (.int a)=.bl ("int" == T||("int" == "bool"&&T == "int")):=rfl
@[simp] theorem flat_int {a:Int}:D.flat (.int a)=true:=rfl
@[simp] theorem flat_bl {a:Bool}:D.flat (.bl a)=true:=rfl
theorem Yy (h:ds.length<Kg):yx ds d=some (ds++[d]):=by unfold yx;exact KR h
theorem YS (h:ds.length<=Kg):Jg ds=some (.lst ds):=by unfold Jg;exact KR h
theorem dTup_ (h:ds.length<=Kg):JD ds=some (.tup ds):=by unfold JD;exact KR h
theorem ZK {n:Nat} (h:n<=1000000):n<=Kg:=Qw h (by decide)
theorem YJ {n:Nat} (h:n<=1000000):n<Kg:=Pa h (by decide)
theorem JR {ds:List D} {d:D} (hl:ds.length=k) (h:m (zM n ds)=some (.rt d)):Z1 k n m ds=some d:=by
 unfold Z1;rw [KR hl,h];rfl
theorem forD_inv (I:Nat->Ev->Prop):∀ (ds:List D) (i0:Nat) (ρ:Ev),I i0 ρ->(∀ (i:Nat) d ρ,ds[i]?=some d->I (i0+i) ρ->∃ ρ1,u d ρ=some ρ1/\∃ ρ2,m ρ1=some (.nx ρ2)/\I (i0+i+1) ρ2)->∃ ρ',jW u m ds ρ=some (.nx ρ')/\I (i0+ds.length) ρ'
 | [],i0,ρ,h0,_=>⟨ρ,rfl,h0⟩
 | d::ds,i0,ρ,h0,hs=>by
  obtain ⟨ρ1,h1,ρ2,h2,h3⟩:=hs 0 d ρ (by simp) h0
  obtain ⟨ρ',h4,h5⟩:=forD_inv I ds (i0+1) ρ2 h3 fun i d' ρ hd hi=>by
   have:=hs (i+1) d' ρ (by simpa using hd) (by rw [show i0+(i+1)=i0+1+i by omega];exact hi)
   rw [show i0+(i+1)+1=i0+1+i+1 by omega] at this
   exact this
  refine ⟨ρ',?_,by rw [Qd,show i0+(ds.length+1)=i0+1+ds.length by omega];exact h5⟩
  rw [jW,h1,oB,h2,oB]
  exact h4
theorem compD_at {e:Ev->Option D} (I:Ev->Prop) (R:Nat->D->Prop):∀ (ds:List D) (i0:Nat) (ρ:Ev),I ρ->(∀ (i:Nat) d ρ,ds[i]?=some d->I ρ->∃ ρ1,u d ρ=some ρ1/\c ρ1=some true/\(∃ x,e ρ1=some x/\R (i0+i) x)/\I ρ1) ->
  ∃ xs,yn u c e ds ρ=some xs/\xs.length=ds.length/\∀ (i:Nat) x,xs[i]?=some x->R (i0+i) x
 | [],i0,ρ,_,_=>⟨[],rfl,rfl,fun i x h=>by simp at h⟩
 | d::ds,i0,ρ,h0,hs=>by
  obtain ⟨ρ1,h1,h2,⟨x,h3,h5⟩,h4⟩:=hs 0 d ρ (by simp) h0
  obtain ⟨xs,q1,q2,q3⟩:=compD_at I R ds (i0+1) ρ1 h4 fun i d' ρ hd hi=>by
   have:=hs (i+1) d' ρ (by simpa using hd) hi
   rw [show i0+(i+1)=i0+1+i by omega] at this
   exact this
  refine ⟨x::xs,by rw [yn,h1,oB,h2,oB,KR rfl,h3,oB,q1];rfl,by simp [q2],fun i y hy=>?_⟩
  cases i with
  | zero=>simp at hy;subst hy;exact h5
  | succ i=>rw [show i0+(i+1)=i0+1+i by omega];exact q3 i y (by simpa using hy)
theorem yA {lo:Int} {n i:Nat} {d:D} (h:(yr lo n)[i]?=some d):i<n/\d=.int (lo+(i:Nat)):=by
 unfold yr at h
 rw [QO] at h
 by_cases hi:i<n
 ·simp [hi] at h;exact ⟨hi,h.symm⟩
 ·simp [hi] at h
@[simp] theorem Zx {lo:Int} {n:Nat}:(yr lo n).length=n:=by simp [yr]
theorem Wr {ns:List Int} {i:Int} (h0:0<=i) (h1:i<ns.length):atI (ns.map D.int) i=some (.int (ns.getD i.toNat 0)):=by
 have e:=zw (xs:=ns.map D.int) (j:=i.toNat) (v:=.int (ns.getD i.toNat 0)) (by
  rw [QO]
  have hi:i.toNat<ns.length:=by omega
  simp [hi,List.getD])
 rwa [show ((i.toNat:Nat):Int)=i by omega] at e
end
def Wo {α:Type} (o:Option α) (P:α->Prop):Prop:=∃ x,o=some x/\P x
theorem Wo.eq {α:Type} {o:Option α} {y:α} (h:Wo o (·=y)):o=some y:=let ⟨x,e,p⟩:=h;p▸e
section
variable {α β:Type} {P:α->Prop} {Q:β->Prop} {x:α} {o:Option α} {g:α->Option β} {w:α->β}
@[simp] theorem zG:Wo (some x) P↔P x:=⟨fun ⟨y,e,p⟩=>by cases e;exact p,fun p=>⟨x,rfl,p⟩⟩
@[simp] theorem wo_none:Wo (none:Option α) P↔False:=⟨fun ⟨y,e,p⟩=>(by cases e),False.elim⟩
@[simp] theorem Wa:Wo (o.bind g) Q↔Wo o fun x=>Wo (g x) Q:=by
 cases o with
 | none=>simp
 | some x=>simp
@[simp] theorem wo_guard {c:Prop} [Decidable c] {a:Option α}:Wo (if c then a else none) P↔c/\Wo a P:=by
 split <;> simp_all
end
section
variable {P:D->Prop} {R:List D->Prop} {T:Out->Prop} {a b:Int} {ds:List D} {d:D} {ρ:Ev} {m m1 m2:Ev->Option Out}
theorem p62:(2:Int) ^ 62=4611686018427387904:=by decide
@[simp] theorem wo_rng1 {fa:Ev->Option D}:Wo (yO fa ρ) R↔Wo (fa ρ) fun d=>Wo (asI d) fun j=>(-4611686018427387904<=j/\j<4611686018427387904)/\R (yr 0 j.toNat):=by
 rw [fRng1_,Wa,<- p62]
 simp only [Wa,wo_guard,zG]
def gA (m:Ev->Option Out) (T:Out->Prop):Out->Prop
 | .nx ρ=>Wo (m ρ) T
 | o=>T o
@[simp] theorem zj:gA m T (.nx ρ)=Wo (m ρ) T:=rfl
@[simp] theorem then_rt:gA m T (.rt d)=T (.rt d):=rfl
@[simp] theorem then_bk:gA m T (.bk ρ)=T (.bk ρ):=rfl
@[simp] theorem then_ct:gA m T (.ct ρ)=T (.ct ρ):=rfl
@[simp] theorem zt:Wo (zO m1 m2 ρ) T↔Wo (m1 ρ) (gA m2 T):=by
 unfold zO
 cases h:m1 ρ with
 | none=>simp
 | some o=>cases o <;> simp [gA]
def wx (P:D->Prop):Out->Prop
 | .nx _=>P .non
 | .rt d=>P d
 | _=>False
@[simp] theorem back_rt:wx P (.rt d)=P d:=rfl
@[simp] theorem back_nx:wx P (.nx ρ)=P .non:=rfl
theorem Z6 {k n:Nat}:Wo (Z1 k n m ds) P↔ds.length=k/\Wo (m (zM n ds)) (wx P):=by
 unfold Z1
 split
 ·rename_i h
  simp only [h,true_and,Wa]
  cases m (zM n ds) with
  | none=>simp
  | some o=>cases o <;> simp [outD,wx]
 ·simp_all
def w6 (u:D->Ev->Option Ev) (m:Ev->Option Out) (ds:List D) (T:Out->Prop):Out->Prop
 | .nx ρ=>Wo (jW u m ds ρ) T
 | .ct ρ=>Wo (jW u m ds ρ) T
 | .bk ρ=>T (.nx ρ)
 | .rt d=>T (.rt d)
@[simp] theorem turn_nx {u:D->Ev->Option Ev}:w6 u m ds T (.nx ρ)=Wo (jW u m ds ρ) T:=rfl
@[simp] theorem turn_ct {u:D->Ev->Option Ev}:w6 u m ds T (.ct ρ)=Wo (jW u m ds ρ) T:=rfl
@[simp] theorem turn_bk {u:D->Ev->Option Ev}:w6 u m ds T (.bk ρ)=T (.nx ρ):=rfl
@[simp] theorem turn_rt {u:D->Ev->Option Ev}:w6 u m ds T (.rt d)=T (.rt d):=rfl
theorem Yo {u:D->Ev->Option Ev} {ds:List D} (I:Nat->Ev->Prop) (h0:I 0 ρ) (hs:∀ (i:Nat) d ρ,ds[i]?=some d->I i ρ->Wo (u d ρ) fun ρ1=>Wo (m ρ1) fun o=>match o with
  | .nx ρ2=>I (i+1) ρ2
  | .ct ρ2=>I (i+1) ρ2
  | .bk ρ2=>T (.nx ρ2)
  | .rt r=>T (.rt r)) (hd:∀ ρ,I ds.length ρ->T (.nx ρ)):Wo (jW u m ds ρ) T:=by
 suffices ∀ (es:List D) (k:Nat) (ρ:Ev),ds=ds.take k++es->k+es.length=ds.length->I k ρ->Wo (jW u m es ρ) T from this ds 0 ρ (by simp) (by simp) h0
 intro es
 induction es with
 | nil =>
  intro k ρ _ hl hi
  simp only [QB,Nat.add_zero] at hl
  subst hl
  simp [jW,hd ρ hi]
 | cons d es ih =>
  intro k ρ he hl hi
  have hk:ds[k]?=some d:=by
   have h1:(ds.take k).length=k:=by rw [QW];simp at hl;omega
   rw [he,QP (by omega),h1];simp
  have he':ds=ds.take (k+1)++es:=by
   have h2:=List.take_append_drop (k+1) ds
   have h3:ds.drop (k+1)=es:=by
    have h1:(ds.take k).length=k:=by rw [QW];simp at hl;omega
    have:ds.drop k=d::es:=by
     conv=>lhs;rw [he]
     rw [List.drop_append,h1];simp
    rw [<- List.drop_drop,this];simp
   rw [h3] at h2;exact h2.symm
  obtain ⟨ρ1,e1,o,e2,p⟩:=hs k d ρ hk hi
  simp only [jW,e1,e2,oB]
  cases o with
  | nx ρ2=>exact ih (k+1) ρ2 he' (by simp at hl ⊢;omega) p
  | ct ρ2=>exact ih (k+1) ρ2 he' (by simp at hl ⊢;omega) p
  | bk ρ2=>simpa using p
  | rt r=>simpa using p
variable {u:D->Ev->Option Ev} {c:Ev->Option Bool} {e:Ev->Option D}
theorem wo_compAt (I:Ev->Prop) (F:Nat->D->Prop) (h0:I ρ) (hs:∀ (i:Nat) d ρ,ds[i]?=some d->I ρ->Wo (u d ρ) fun ρ1=>c ρ1=some true/\Wo (e ρ1) (F i)/\I ρ1) (hd:∀ xs,xs.length=ds.length->(∀ (i:Nat) x,xs[i]?=some x->F i x)->R xs):Wo (yn u c e ds ρ) R:=by
 obtain ⟨xs,q1,q2,q3⟩:=compD_at I F ds 0 ρ h0 fun i d ρ h1 h2=>(by
  obtain ⟨ρ1,a1,a2,a3,a4⟩:=hs i d ρ h1 h2
  exact ⟨ρ1,a1,a2,by rw [QD];exact a3,a4⟩)
 exact ⟨xs,q1,hd xs q2 fun i x h=>by have:=q3 i x h;rwa [QD] at this⟩
end
theorem wc {a b:Int} (h1:-(2 ^ 64)<a) (h2:a<2 ^ 64):IntMulOk a b:=.of_left (intBits_le_64 h1 h2)
theorem mulB {a b:Int} {n k:Nat} (h1:a.natAbs<2 ^ n) (h2:b.natAbs<2 ^ k) (h:n+k<=134217728):IntMulOk a b:=.of_le (PySem.intBits_le_iff.mpr h1) (PySem.intBits_le_iff.mpr h2) h
theorem cutD_from {ds:List D} (k:Nat):cutD ds (some (k:Int)) none=ds.drop k:=by
 unfold cutD
 rw [HT.sIx_nat,HT.sIx_none]
 by_cases h2:k<=ds.length
 ·rw [Pl h2,PU (by simp)]
 ·rw [PP (by omega),List.drop_eq_nil_of_le (by omega:ds.length<=k),Pg];simp
theorem cutD_to {ds:List D} (k:Nat):cutD ds none (some (k:Int))=ds.take k:=by
 unfold cutD
 rw [HT.sIx_nat,HT.sIx_none]
 simp only [List.drop_zero,Nat.sub_zero]
 by_cases h2:k<=ds.length
 ·rw [Pl h2]
 ·rw [PP (by omega),List.take_length,PU (by omega)]
theorem Jm {d0:D}:∀ n:Nat,(List.replicate n [d0]).flatten=List.replicate n d0
 | 0=>rfl
 | n+1=>by rw [QN,QY,Jm n];rfl
end M
namespace L2
open PySem PySem.Spec PyProof.Rows
def ItrD (lo:Int) (n:Nat):It:=⟨fun i _=>i<n,fun i H x H'=>H'=H/\x=.int (lo - i),fun i _=>n<=i⟩
theorem turn_rangeD {P:Ki} {w:Kk} {K:KC} {tg:Kv} (it:Kc) (lo:Int) (n:Nat):w6 P w K tg (ItrD lo n) [it] it (fun i h=>IsRangeIter h it (lo+(i:Nat)*(-1)) ((n:Int) - (i:Nat)) (-1)) where
 mem:=by simp
 obj:=fun i h st b hb=>by
  have e:b=it:=by simpa using hb
  subst e
  exact ⟨_,st,fun v z=>by
   have z':Data.fields _=Data.cell v:=z
   cases z'⟩
 keep:=fun i h h' st k=>k it (by simp) _ st
 item:=by
  intro X hP hw hK hc i KK s σ H E I hf st hg
  subst hP hw hK
  obtain ⟨f0,f1,f2,f3,f4,f5⟩:=hf it (by simp)
  have W:=Walks.range (prog:=X.prog) (w:=X.w) (I.ok.hd hc) it lo (-1) n
  refine W.item i s _ _ hg st fun v h' tk hv st' kk=>?_
  obtain ⟨t,rfl⟩:=hv
  have I1:Inv X KK σ H { s with heap:=h',toks:=tk }:=I.turned (fun b o hb e=>kk b o (by simpa using hb) e) f0 f1 f3 f4 f5
  refine ⟨_,rfl,go_of (s:={ s with heap:=h',toks:=tk }) (n:="range_iterator") st' rfl rfl (by decide) ⟨.int (lo - i),H,I1,⟨t,?_⟩,⟨rfl,rfl⟩,st',fun b hb=>(hf b hb).1⟩⟩
  rw [show lo - (i:Int)=lo+(i:Int)*(-1) by omega]
 done:=by
  intro X hP hw hK hc i KK s σ H E I hf st hg
  subst hP hw hK
  obtain ⟨f0,f1,f2,f3,f4,f5⟩:=hf it (by simp)
  exact wpAny_pyNext_range_end (I.ok.hd hc) st (by have:n<=i:=hg;omega) fun h' eb=>⟨rfl,I.turned (t':=s.toks) (fun b o hb e=>eb b o hb e) f0 f1 f3 f4 f5⟩
 self:=fun _ _ _ _ _ st h=>wpAny_pyIter_rangeiter st h
section
variable {X:Cx} {tg:Kv}
def iRngD (ta:TA):TI:=fun σ H R=>ta σ H fun vs H1=>∃ i j:Int,vs=[.int i,.int j,.int (-1)]/\(-(2 ^ 62)<=i/\i<2 ^ 62/\-(2 ^ 62)<=j/\j<2 ^ 62)/\R (ItrD i (i - j).toNat) H1
theorem pi_rangeD {a b c:Kv} {ta:TA} {p pos:KB} (hg:Gl X "range") (hm:X.mg "range"=none) (ha:PA X [a,b,c] ta) (hs:Ke [a,b,c] X.env=[(false,Kz a X.env),(false,Kz b X.env),(false,Kz c X.env)]:=by rfl) (hs2:Ke [b,c] X.env=[(false,Kz b X.env),(false,Kz c X.env)]:=by rfl) :
  PI X tg (.Call (.Name "range" p) [a,b,c] [] pos) (iRngD ta):=by
 intro KK s σ H R I h
 refine Call_ (jT I hg hm boot_range (KI (thn (ha pos KK s σ H _ I h) fun us s1 ⟨vs,H1,I1,r1,q1⟩=>?_) (by rw [hs,hs2]) (by rw [hs2];rfl)))
 obtain ⟨i,j,e,⟨q1,q2,q3,q4⟩,q⟩:=q1
 subst e
 cases r1 with
 | cons r rr =>
  cases rr with
  | cons r' rr =>
   cases rr with
   | cons r'' rr =>
    cases rr
    obtain ⟨t,rfl⟩:=r
    obtain ⟨t',rfl⟩:=r'
    obtain ⟨t'',rfl⟩:=r''
    refine call_range_3 (by decide) ?_
    refine wpAny_pyIter_range (IsRange.new ..) (PySem.W.small_down q1 q2 q3 q4) ?_
    have I2:∀ (ob:KA) (tk:Nat),Inv X KK σ H1 { s1 with heap:=s1.heap.push ob,toks:=tk }:=fun ob tk=>I1.kept fun b o e=>Qb _ e
    refine ⟨_,[_],_,_,H1,rfl,(I2 _ _).kept (t':=_) fun b o e=>Qb _ e,turn_rangeD _ i (i - j).toNat,?_,fun b hb=>?_,q⟩
    ·have e1:i+((0:Nat):Int)*(-1)=i:=by simp
     have e2:(((i - j).toNat:Nat):Int) - ((0:Nat):Int)=Builtin.Range.rangeSize i j (-1):=by rw [PySem.W.rangeSize_downNat];simp
     show IsRangeIter _ _ (i+((0:Nat):Int)*(-1)) ((((i - j).toNat:Nat):Int) - ((0:Nat):Int)) (-1)
     rw [e1,e2]
     exact Qq _ rfl
    ·have e:=Qo.mp hb
     subst e
     exact (I2 _ _).fpOk (Ql _) ((I2 _ _).hok.fresh (Ql _))
end
section
variable {X:Cx}
def rCatA (K:KC):R2:=fun x y H Q=>∃ a b xs ys,x=.ref a/\y=.ref b/\SqT K H a xs/\SqT K H b ys/\xs.length+ys.length<=Kg/\(xs=[]->Q (.ref b) H) /\
 (xs≠[]->ys=[]->Q (.ref a) H)/\(xs≠[]->ys≠[]->∀ p,H p=none->Q (.ref p) (upd H p (.tup (xs++ys))))
theorem op_catA {K':KC} (hK:X.K=K':=by rfl):OpR X (binaryOp .Add) (rCatA K'):=by
 subst hK
 intro KK s σ H x y v u Q I rx ry h
 obtain ⟨a,b,xs,ys,rfl,rfl,ha,hb,hz,q0,q1,q2⟩:=h
 by_cases hx:xs=[]
 ·cases rx
  cases ry
  obtain ⟨KQ,r1,p1,_⟩:=I.tuple ha
  obtain ⟨its2,r2,p2,_⟩:=I.tuple hb
  obtain ⟨⟨cls,dd,data,sl⟩,ho,hc,n,hd⟩:=id p1
  obtain ⟨⟨cls2,dd2,data2,sl2⟩,ho2,hc2,n2,hd2⟩:=id p2
  simp only at hc hd hc2 hd2
  subst hc hd hc2 hd2
  have he:KQ=[]:=r1.nil_iff.mpr hx
  exact concat_meets ⟨_,ho,rfl⟩ ⟨_,ho2,rfl⟩ noFill_tuple_add seq_tuple_add PySem.F.slot_tuple_add PySem.F.entry_tuple_add (PySem.F.args_tuple_add_2 _ _)
   (tuple_addW0 a b KQ.toArray its2.toArray n n2 dd dd2 sl sl2 (by simp [he])) ⟨ho,ho2,⟨.ref b,H,I,rfl,q0 hx⟩⟩
 ·exact op_catT KK s σ H _ _ v u Q I rx ry ⟨a,b,xs,ys,rfl,rfl,ha,hb,hx,hz,q1 hx,q2 hx⟩
end
end L2
namespace M
open PySem PySem.Spec L2
open PySem.W (Frag)
def YM (lo:Int) (n:Nat):List D:=(List.range n).map fun i=>.int (lo - (i:Nat))
@[simp] theorem Yw {lo:Int} {n:Nat}:(YM lo n).length=n:=by simp [YM]
theorem YL {lo:Int} {n i:Nat} {d:D} (h:(YM lo n)[i]?=some d):i<n/\d=.int (lo - (i:Nat)):=by
 unfold YM at h
 rw [QO] at h
 by_cases hi:i<n
 ·simp [hi] at h;exact ⟨hi,h.symm⟩
 ·simp [hi] at h
theorem iw_rangeD {K:KC} (lo:Int) (n:Nat):IW K (ItrD lo n) (YM lo n) (fun _ _=>True):=by
 refine ⟨fun H B i d _ e=>(YL e).1,fun H B i d x H' _ e y=>?_,fun H B i _ h=>by rw [Yw] at h;exact h⟩
 obtain ⟨rfl,rfl⟩:=y
 obtain ⟨_,rfl⟩:=YL e
 exact ⟨.refl _,yd⟩
def gh (fa fb:Ev->Option D):Ev->Option (List D):=fun ρ=>(fa ρ).bind fun d=>(fb ρ).bind fun d'=>(asI d).bind fun i=>(asI d').bind fun j=>if -(2 ^ 62)<=i/\i<2 ^ 62/\-(2 ^ 62)<=j/\j<2 ^ 62 then some (YM i (i - j).toNat) else none
section
variable {X:Cx} {fr st s:Bool} {os os' ol:List Nat} {tg e a b:Kv} {t ta tb te:TE} {f fa fb:Ev->Option D} {pos p:KB}
theorem si_rangeD {jj:Nat} {p1 p2:KB} (hg:Gl X "range") (hm:X.mg "range"=none) (ha:SE X false os a ta fa) (hb:SE X false os b tb fb)
  (h1:Ke [a,b,.UnaryOp .USub (.Constant (.int 1) jj p1) p2] X.env=(false,Kz a X.env)::Ke [b,.UnaryOp .USub (.Constant (.int 1) jj p1) p2] X.env:=by rfl)
  (h2:Ke [b,.UnaryOp .USub (.Constant (.int 1) jj p1) p2] X.env=(false,Kz b X.env)::Ke [.UnaryOp .USub (.Constant (.int 1) jj p1) p2] X.env:=by rfl)
  (h3:Ke [.UnaryOp .USub (.Constant (.int 1) jj p1) p2] X.env=(false,Kz (.UnaryOp .USub (.Constant (.int 1) jj p1) p2) X.env)::Ke [] X.env:=by rfl)
  (hs:Ke [a,b,.UnaryOp .USub (.Constant (.int 1) jj p1) p2] X.env=[(false,Kz a X.env),(false,Kz b X.env),(false,Kz (.UnaryOp .USub (.Constant (.int 1) jj p1) p2) X.env)]:=by rfl)
  (hs2:Ke [b,.UnaryOp .USub (.Constant (.int 1) jj p1) p2] X.env=[(false,Kz b X.env),(false,Kz (.UnaryOp .USub (.Constant (.int 1) jj p1) p2) X.env)]:=by rfl) :
  SI X s os tg (.Call (.Name "range" p) [a,b,.UnaryOp .USub (.Constant (.int 1) jj p1) p2] [] pos) (iRngD (zW ta (zW tb (zW (tUn (rU fun i=>.int (-i)) (tC (.int 1))) ZS)))) (gh fa fb) :=
 ⟨pi_rangeD hg hm (zC ha.pe (zC hb.pe (zC (pe_un Yr yK) zY h3) h2) h1) hs hs2,fun Ub Uc σ H ρ ds R m q kk=>by
 obtain ⟨x,h1,h2⟩:=zd q
 obtain ⟨y,h3,h4⟩:=zd h2
 obtain ⟨i,h5,h6⟩:=zd h4
 obtain ⟨j,h7,h8⟩:=zd h6
 split at h8
 ·cases h8
  rename_i hc
  refine ha.ok Ub Uc σ H ρ x _ m h1 fun v H1 s1 r=>?_
  refine hb.ok Ub Uc σ H1 ρ y _ (m.up s1) h3 fun v' H2 s2 r2=>?_
  have e1:=asI_v r h5
  have e2:=asI_v r2 h7
  subst e1;subst e2
  exact ⟨1,rfl,i,j,rfl,hc,kk _ H2 _ (s1.trans s2) (iw_rangeD i _) (fun _ _ _ _ _ _ _ _ _=>trivial) (fun _ _ _ _ _ _ _=>trivial) trivial⟩
 ·cases h8⟩
def JX (fa:Ev->Option (List D)) (fl fu:Ev->Option (Option Int)):Ev->Option D:=fun ρ=>(fa ρ).bind fun ds=>(fl ρ).bind fun lo=>(fu ρ).bind fun hi=>if HT.sIx ds.length 0 lo=0/\HT.sIx ds.length ds.length hi=ds.length then none else some (.tup (cutD ds lo hi))
theorem Wc {ca:Ev->Option (List D)} {lo hi:Option Kv} {t1 t2:TO} {g1 g2:Ev->Option (Option Int)} {p2:KB} (ha:SC X false os a ta ca) (hl:SO X os lo t1 g1) (hu:SO X os hi t2 g2) {K':KC} (hK:X.K=K':=by rfl) :
  SE X st os (.Subscript a (.Slice lo hi none p2) pos) (tSl (rSlT K') ta t1 t2) (JX ca g1 g2):=by
 subst hK
 exact ⟨pe_slice sl_tup ha.pe hl.po hu.po,fun Ub Uc σ H ρ d Q m q k=>by
 obtain ⟨ds,h1,h2⟩:=zd q
 obtain ⟨l,h3,h4⟩:=zd h2
 obtain ⟨u,h5,h6⟩:=zd h4
 split at h6
 ·cases h6
 rename_i hne
 cases h6
 refine ha.ok Ub Uc σ H ρ ds _ m h1 fun p xs H1 s1 hq r1=>?_
 refine hl.ok Ub Uc σ H1 ρ l _ (m.up s1) h3 fun H2 s2=>?_
 refine hu.ok Ub Uc σ H2 ρ u _ (m.up (s1.trans s2)) h5 fun H3 s3=>?_
 refine ⟨p,xs,rfl,SqT.same (s2.trans s3) hq,by rw [r1.length];exact hne,fun p' hp=>?_⟩
 refine k _ _ (((s1.trans s2).trans s3).trans (zx hp)) (Rep.bb ?_)
 simp only [Rep]
 exact ⟨p',_,rfl,.inl (.inl zu),(zm.cut (r1.up (s2.trans s3))).up (zx hp)⟩⟩
end
def Jp (fa fb:Ev->Option D):Ev->Option D:=fun ρ=>(zh false fa ρ).bind fun x=>(zh false fb ρ).bind fun y=>JD (x++y)
@[simp] theorem fCatT_ {fa fb:Ev->Option D} {ρ:Ev}:Jp fa fb ρ=(zh false fa ρ).bind fun x=>(zh false fb ρ).bind fun y=>JD (x++y):=rfl
theorem We {X:Cx} {st:Bool} {os:List Nat} {a b:Kv} {ta tb:TE} {fa fb:Ev->Option D} {pos:KB} (ha:SE X true os a ta fa) (hb:SE X true os b tb fb) {K':KC} (hK:X.K=K':=by rfl):SE X st os (.BinOp a .Add b pos) (tOp (rCatA K') ta tb) (Jp fa fb):=by
 subst hK
 exact ⟨wC op_catA ha.pe hb.pe,fun Ub Uc σ H ρ d Q m q k=>by
 obtain ⟨x,h1,h2⟩:=zd q
 obtain ⟨y,h3,h4⟩:=zd h2
 unfold JD at h4
 split at h4
 ·rename_i hl
  cases h4
  refine (SE.seq (k:=false) ha).ok Ub Uc σ H ρ x _ m h1 fun p1 xs H1 s1 hq1 r1=>?_
  refine (SE.seq (k:=false) hb).ok Ub Uc σ H1 ρ y _ (m.up s1) h3 fun p2 ys H2 s2 hq2 r2=>?_
  have e1:=r1.length
  have e2:=r2.length
  refine ⟨p1,p2,xs,ys,rfl,rfl,SqT.same s2 hq1,hq2,?_,fun z=>?_,fun _ z=>?_,fun _ _ p' hp=>?_⟩
  ·rw [e1,e2,<- Qj];exact hl
  ·subst z
   have:x=[]:=List.length_eq_zero_iff.mp e1.symm
   subst this
   refine k _ H2 (s1.trans s2) (Rep.bb ?_)
   simp only [Rep,Pn]
   exact ⟨p2,ys,rfl,hq2,r2⟩
  ·subst z
   have:y=[]:=List.length_eq_zero_iff.mp e2.symm
   subst this
   refine k _ H2 (s1.trans s2) (Rep.bb ?_)
   simp only [Rep,QZ]
   exact ⟨p1,xs,rfl,SqT.same s2 hq1,r1.up s2⟩
  ·refine k _ _ ((s1.trans s2).trans (zx hp)) (Rep.bb ?_)
   simp only [Rep]
   exact ⟨p',_,rfl,.inl (.inl zu),((r1.up s2).append r2).up (zx hp)⟩
 ·cases h4⟩
mutual
def ZZ:D->PyData
 | .non=>.none
 | .bl b=>.bool b
 | .int i=>.int i
 | .str x=>.str x
 | .tup ds=>.tuple (yh ds)
 | .lst ds=>.list (yh ds)
 | .dict _ _=>.dict []
 | .scr ns=>.list (ns.map .int)
 | .adr _=>.dict []
 | .kset _=>.dict []
 | .tk _=>.dict []
 | .pin _ _=>.dict []
def yh:List D->List PyData
 | []=>[]
 | d::ds=>ZZ d::yh ds
end
def eqD (x y:D):Bool:=PyData.eqv (ZZ x) (ZZ y)
def Y5 (x:D):Bool:=SeqAt.shaped (ZZ x)
def wY (x y:D):Option D:=if Y5 x=true/\Y5 y=true then some (.bl (eqD x y)) else none
def dNeD (x y:D):Option D:=if Y5 x=true/\Y5 y=true then some (.bl (!eqD x y)) else none
section
variable {X:Cx} {KK:List (Kc×KA)} {σ:St} {H:Hp} {s:Kb} {B:Kc->Prop}
theorem readsInts (h:Kl):∀ {ns:List Int} {us:List Ka},zP (ns.map V.int) us->∃ as,ReadsAll h us (ns.map PyData.int) as
 | [],_,.nil=>⟨_,.nil⟩
 | n::r,_,.cons q t=>by
  obtain ⟨tk,rfl⟩:=q
  obtain ⟨as,z⟩:=readsInts h t
  exact ⟨_,.cons (.int n tk) z⟩
mutual
theorem Rep.reads (I:Inv X KK σ H s):∀ (d:D) (v:V) (u:Ka),(ZZ d).canLay0=true->Rep X.K H B d v->Zl v u->∃ as,Reads s.heap u (ZZ d) as
 | .non,v,u,_,h,r=>by simp only [Rep] at h;subst h;cases r;exact ⟨_,.none⟩
 | .bl b,v,u,_,h,r=>by simp only [Rep] at h;subst h;cases r;exact ⟨_,.bool b⟩
 | .int i,v,u,_,h,r=>by simp only [Rep] at h;subst h;obtain ⟨t,rfl⟩:=r;exact ⟨_,.int i t⟩
 | .str x,v,u,_,h,r=>by simp only [Rep] at h;subst h;obtain ⟨t,rfl⟩:=r;exact ⟨_,.str x t⟩
 | .tup ds,v,u,c,h,r=>by
  simp only [Rep] at h
  obtain ⟨a,xs,rfl,hq,hr⟩:=h
  cases r
  obtain ⟨KQ,rv,ht,_⟩:=I.tuple hq
  obtain ⟨o,e1,e2,n,e3⟩:=ht
  obtain ⟨as,z⟩:=zm.reads I ds xs KQ (by simpa [ZZ,PyData.canLay0] using c) hr rv
  exact ⟨as,.tuple e1 e2 e3 z⟩
 | .lst ds,v,u,c,h,r=>by
  simp only [Rep] at h
  obtain ⟨a,xs,rfl,hq,hr⟩:=h
  cases r
  obtain ⟨KQ,rv,ht,_⟩:=I.list hq.sq
  obtain ⟨o,n,e1,e2,_,e3⟩:=ht
  obtain ⟨as,z⟩:=zm.reads I ds xs KQ (by simpa [ZZ,PyData.canLay0] using c) hr rv
  exact ⟨_,.list e1 e2 e3 z⟩
 | .dict ks ds,v,u,c,h,r=>by simp [ZZ,PyData.canLay0] at c
 | .scr ns,v,u,c,h,r=>by
  simp only [Rep] at h
  obtain ⟨a,rfl,hq⟩:=h
  cases r
  obtain ⟨KQ,rv,ht,_⟩:=I.list hq.sq
  obtain ⟨o,n,e1,e2,_,e3⟩:=ht
  obtain ⟨as,z⟩:=readsInts s.heap rv
  exact ⟨_,.list e1 e2 e3 z⟩
 | .adr a,v,u,c,h,r=>by simp [ZZ,PyData.canLay0] at c
 | .kset a,v,u,c,h,r=>by simp [ZZ,PyData.canLay0] at c
 | .tk a,v,u,c,h,r=>by simp [ZZ,PyData.canLay0] at c
 | .pin a d,v,u,c,h,r=>by simp [ZZ,PyData.canLay0] at c
theorem zm.reads (I:Inv X KK σ H s):∀ (ds:List D) (vs:List V) (us:List Ka),PyData.canLayAll0 (yh ds)=true->zm X.K H B ds vs->zP vs us->∃ as,ReadsAll s.heap us (yh ds) as
 | [],vs,us,_,h,r=>by simp only [zm] at h;subst h;cases r;exact ⟨_,.nil⟩
 | d::ds,vs,us,c,h,r=>by
  simp only [zm] at h
  obtain ⟨v,vr,rfl,h1,h2⟩:=h
  simp only [yh,PyData.canLayAll0,QK] at c
  cases r with
  | cons q t =>
   obtain ⟨as,z⟩:=Rep.reads I d v _ c.1 h1 q
   obtain ⟨bs,y⟩:=zm.reads I ds vr _ c.2 h2 t
   exact ⟨_,.cons z y⟩
end
def rEqD (K:KC) (neg:Bool):R2:=fun x y H Q=>∃ (B:Kc->Prop) (d1 d2:D),Rep K H B d1 x/\Rep K H B d2 y/\Y5 d1=true/\Y5 d2=true/\Q (.bl (if neg then !eqD d1 d2 else eqD d1 d2)) H
theorem op_eqD {k:Nat} (hr:Room k X.A) {K':KC} (hK:X.K=K':=by rfl):OpR X (Km .Eq) (rEqD K' false):=by
 subst hK
 intro KK s σ H x y v u Q I rx ry h
 obtain ⟨B,d1,d2,h1,h2,o1,o2,q⟩:=h
 obtain ⟨as,r1⟩:=Rep.reads I d1 x v (SeqAt.canLay_of_shaped o1) h1 rx
 obtain ⟨bs,r2⟩:=Rep.reads I d2 y u (SeqAt.canLay_of_shaped o2) h2 ry
 exact PyProof.Rows.eq_dataH r1 r2 o1 o2 hr.units ⟨.bl _,H,I,rfl,q⟩
theorem op_neD {k:Nat} (hr:Room k X.A) {K':KC} (hK:X.K=K':=by rfl):OpR X (Km .NotEq) (rEqD K' true):=by
 subst hK
 intro KK s σ H x y v u Q I rx ry h
 obtain ⟨B,d1,d2,h1,h2,o1,o2,q⟩:=h
 obtain ⟨as,r1⟩:=Rep.reads I d1 x v (SeqAt.canLay_of_shaped o1) h1 rx
 obtain ⟨bs,r2⟩:=Rep.reads I d2 y u (SeqAt.canLay_of_shaped o2) h2 ry
 exact PyProof.Rows.ne_dataH r1 r2 o1 o2 hr.units ⟨.bl _,H,I,rfl,q⟩
theorem rok_eqD {K:KC}:ROk K (rEqD K false) wY:=fun H B x y d1 d2 d Q hB r1 r2 e k=>by
 unfold wY at e
 split at e
 ·rename_i hc
  cases e
  exact ⟨B,d1,d2,r1,r2,hc.1,hc.2,k _ H (.refl H) YW⟩
 ·cases e
theorem Wg {K:KC}:ROk K (rEqD K true) dNeD:=fun H B x y d1 d2 d Q hB r1 r2 e k=>by
 unfold dNeD at e
 split at e
 ·rename_i hc
  cases e
  exact ⟨B,d1,d2,r1,r2,hc.1,hc.2,k _ H (.refl H) YW⟩
 ·cases e
end
theorem eqD_self {x:D} (h:Y5 x=true):eqD x x=true:=SeqAt.eqv_refl _ (SeqAt.canLay_of_shaped h)
@[simp] theorem fCutT_ {fl:Ev->Option (List D)} {f1 f2:Ev->Option (Option Int)} {ρ:Ev}:JX fl f1 f2 ρ=(fl ρ).bind fun ds=>(f1 ρ).bind fun lo=>(f2 ρ).bind fun hi=>if HT.sIx ds.length 0 lo=0/\HT.sIx ds.length ds.length hi=ds.length then none else some (.tup (cutD ds lo hi)):=rfl
@[simp] theorem mNewR_ {i:Nat} {f:Ev->Option D} {ρ:Ev}:mNewR i f ρ=(f ρ).bind fun d=>if i<ρ.length/\isLs d=true then some (.nx (ρ.set i (some d))) else none:=rfl
@[simp] theorem mNewRW_ {i:Nat} {f:Ev->Option D} {ρ:Ev}:mNewRW i f ρ=(f ρ).bind fun d=>if i<ρ.length/\wj d=true then some (.nx (ρ.set i (some d))) else none:=rfl
@[simp] theorem isLs_ {ds:List D}:isLs (.lst ds)=true:=rfl
@[simp] theorem itemsFlat_ {ds:List D}:wj (.lst ds)=YR ds:=rfl
theorem flats_ints (ns:List Int):YR (ns.map .int)=true:=by
 induction ns with
 | nil=>rfl
 | cons n r ih=>simp [YR,ih]
@[simp] theorem flat_non:D.flat .non=true:=rfl
@[simp] theorem dIsN_ {x:D}:dIsN x .non=some (.bl (yN x)):=rfl
@[simp] theorem dNotN_ {x:D}:dNotN x .non=some (.bl (!yN x)):=rfl
@[simp] theorem isNon_l {ds:List D}:yN (.lst ds)=false:=rfl
@[simp] theorem isNon_t {ds:List D}:yN (.tup ds)=false:=rfl
@[simp] theorem isNon_n:yN .non=true:=rfl
@[simp] theorem dIsi_l {T:String} {ds:List D}:dIsi T (.lst ds)=.bl ("list" == T||("list" == "bool"&&T == "int")):=rfl
@[simp] theorem dIsi_n {T:String}:dIsi T .non=.bl ("NoneType" == T||("NoneType" == "bool"&&T == "int")):=rfl
@[simp] theorem dIsi_t {T:String} {ds:List D}:dIsi T (.tup ds)=.bl ("tuple" == T||("tuple" == "bool"&&T == "int")):=rfl
open PySem L2
abbrev lstI (xs:List Int):D:=.lst (xs.map .int)
def YO (w:Int->Int->Int):D->D
 | .tup [.int x,.int y]=>.int (w x y)
 | _=>.non
@[simp] theorem pairD_ {w:Int->Int->Int} {x y:Int}:YO w (.tup [.int x,.int y])=.int (w x y):=rfl
def intD (g:Int->Int):D->D
 | .int j=>.int (g j)
 | _=>.non
@[simp] theorem intD_ {g:Int->Int} {x:Int}:intD g (.int x)=.int (g x):=rfl
section
variable {ρ:Ev} {T:Out->Prop} {i:Nat} {f fa fb:Ev->Option D} {c c1 c2:Ev->Option Bool} {m1 m2:Ev->Option Out} {x y d:D} {ds ds':List D} {g:List D->Option D} {h:D->D->Option D} {fl:Ev->Option (List D)} {P:D->Prop}
theorem ZO (e:f ρ=some d) (k:T (.nx (ρ.set i (some d)))):Wo (Zi i f ρ) T:=by rw [mSet_,e];exact ⟨_,rfl,k⟩
theorem upd_ {w:List D->D->Option (List D)} (e:f ρ=some d) (ex:ρ[i]?.join=some (.lst ds)) (hw:w ds d=some ds') (k:T (.nx (ρ.set i (some (.lst ds'))))):Wo (W6 i w f ρ) T:=by rw [mUpd_,e,ex,oB,oB,asL_,oB,hw];exact ⟨_,rfl,k⟩
theorem fA2 (h1:fa ρ=some x) (h2:fb ρ=some y) (e:g [x,y]=some d):fA g (zf fa (zf fb zr)) ρ=some d:=by rw [fA_,Zo,h1,oB,Zo,h2];exact e
theorem f2v (h1:fa ρ=some x) (h2:fb ρ=some y) (e:h x y=some d):f2 h fa fb ρ=some d:=by rw [f2_,h1,oB,h2];exact e
theorem zV {k:Int} (h1:fl ρ=some ds) (h2:fb ρ=some (.int k)) (e:atI ds k=some d):fIx fl fb ρ=some d:=by rw [fIx_,h1,oB,h2];exact e
theorem z6 {b:Bool} (e:f ρ=some (.bl b)):zI f ρ=some b:=by rw [fTest_,e];rfl
theorem not_t (e:c ρ=some true):fNot c ρ=some false:=by rw [fNot_,e];rfl
theorem or_ff (e1:c1 ρ=some false) (e2:c2 ρ=some false):fOr c1 c2 ρ=some false:=by rw [fOr_,e1];exact e2
theorem jr (e:c ρ=some false) (k:Wo (m2 ρ) T):Wo (mIf c m1 m2 ρ) T:=by rw [mIf_,e];exact k
theorem andV_t (e1:fa ρ=some (.bl true)) (e2:fb ρ=some d):fAndV fa fb ρ=some d:=by rw [fAndV_,e1];exact e2
theorem jf (e:f ρ=some d) (k:P d):Wo (ZQ f ρ) (wx P):=by rw [jR,e];exact ⟨_,rfl,k⟩
theorem tupL (e:f ρ=some (.lst ds)):fA jV (zh true f) ρ=some (.tup ds):=by rw [fA_,fSeq_,e];rfl
theorem tup1_ (e:f ρ=some d):ZC (zf f zr) ρ=some (.tup [d]):=by rw [fTup_,Zo,e];exact dTup_ (ZK (by simp))
theorem catT_ {xs ys:List D} (h1:fa ρ=some (.tup xs)) (h2:fb ρ=some (.tup ys)) (hl:xs.length+ys.length<=1000000):Jp fa fb ρ=some (.tup (xs++ys)):=by
 rw [fCatT_,fSeq_,h1,oB,asK_f,oB,fSeq_,h2,oB,asK_f,oB]
 exact dTup_ (ZK (by rw [Qj];exact hl))
theorem cutTo_ {k:Nat} (hl:fl ρ=some ds) (e:f ρ=some (.int (k:Nat))) (hk:k<ds.length):JX fl fNo (yE f) ρ=some (.tup (ds.take k)):=by
 rw [fCutT_,hl,oB,fNo_,oB,fPart_,e,oB,wZ,PX,oB,KS,cutD_to]
 rw [HT.sIx_nat];omega
theorem cutFrom_ {k:Nat} (hl:fl ρ=some ds) (e:f ρ=some (.int (k:Nat))) (hk:0<k) (h0:0<ds.length):JX fl (yE f) fNo ρ=some (.tup (ds.drop k)):=by
 rw [fCutT_,hl,oB,fPart_,e,oB,wZ,PX,oB,fNo_,oB,KS,cutD_from]
 rw [HT.sIx_nat];omega
theorem Zr (e:f ρ=some (.tup ds)):zh false f ρ=some ds:=by rw [fSeq_,e];rfl
theorem ZP (e:f ρ=some (.lst ds)):zh true f ρ=some ds:=by rw [fSeq_,e];rfl
theorem fA1 (h1:fa ρ=some x) (e:g [x]=some d):fA g (zf fa zr) ρ=some d:=by rw [fA_,Zo,h1];exact e
theorem fA3 {fc:Ev->Option D} {z:D} (h1:fa ρ=some x) (h2:fb ρ=some y) (h3:fc ρ=some z) (e:g [x,y,z]=some d):fA g (zf fa (zf fb (zf fc zr))) ρ=some d:=by rw [fA_,Zo,h1,oB,Zo,h2,oB,Zo,h3];exact e
theorem fA4 {fc fd:Ev->Option D} {z t:D} (h1:fa ρ=some x) (h2:fb ρ=some y) (h3:fc ρ=some z) (h4:fd ρ=some t) (e:g [x,y,z,t]=some d):fA g (zf fa (zf fb (zf fc (zf fd zr)))) ρ=some d:=by rw [fA_,Zo,h1,oB,Zo,h2,oB,Zo,h3,oB,Zo,h4];exact e
theorem f1v {h1:D->Option D} (e1:fa ρ=some x) (e:h1 x=some d):f1 h1 fa ρ=some d:=by rw [f1_,e1];exact e
theorem new_ (e:f ρ=some d) (hi:i<ρ.length) (k:T (.nx (ρ.set i (some d)))):Wo (wd i f ρ) T:=by rw [mNew_,e];exact ⟨_,KR hi,k⟩
theorem Jo (e:f ρ=some d) (h:d.flat=true):yP f ρ=some d:=by rw [fFlat_,e,oB,KR h]
theorem ixN_nat {n k:Nat} (h:k<n):ixN n (k:Int)=some k:=by unfold ixN;rw [KR (by omega),KR (by omega)];simp
end
section
variable {X:Cx} {fr:Bool} {os ol:List Nat} {pos:KB}
end
end M
namespace L2
open PySem PySem.Spec PyProof.Rows
section
variable {X:Cx} {KK:List (Kc×KA)} {σ:St} {H H':Hp} {s:Kb}
end
end L2
namespace L2
open PySem PySem.Spec PyProof.Rows
section
variable {X:Cx}
end
end L2
namespace L2
open PySem PySem.Spec PyProof.Rows
section
variable {X:Cx} {e:Kv} {te:TE} {g:Kw} {p p' kp pos:KB} {k:Nat} {f:Kc} {fd:Kh} {p1:Kw} {sp:Sp}
end
end L2
namespace M
open PySem PySem.Spec L2
open PySem.W (Frag)
theorem zm.of_at {K:KC} {H:Hp} {B:Kc->Prop}:∀ {ds:List D} {vs:List V},ds.length=vs.length->(∀ (i:Nat) d v,ds[i]?=some d->vs[i]?=some v->Rep K H B d v)->zm K H B ds vs
 | [],vs,hl,h=>by cases vs with | nil=>exact .nil | cons _ _=>simp at hl
 | d::ds,vs,hl,h=>by
  cases vs with
  | nil=>simp at hl
  | cons v vs=>exact .cons (h 0 d v rfl rfl) (zm.of_at (by simpa using hl) fun i d' v' h1 h2=>h (i+1) d' v' (by simpa using h1) (by simpa using h2))
section
variable {X:Cx} {os:List Nat} {a:Kv} {ta:TE} {ca:Ev->Option (List D)} {p pos p' kp:KB} {g:Kw} {k:Nat} {fn:Kc} {fd:Kh} {p1:Kw} {m:List D->Option D}
end
end M
namespace L2
open PySem PySem.Spec PyProof.Rows
section
variable {X:Cx}
def WU:V->List V->Hp->VK->Prop:=fun x vs H Q=>∃ l b xs zs,x=.ref l/\vs=[.ref b]/\H l=some (.lst xs)/\Rd H b (.lst zs)/\l≠b/\xs.length+zs.length<=Kg/\Q .non (upd H l (.lst (xs++zs)))
theorem mt_extendS:MtM X "list.extend" WU:=by
 intro KK s σ H x vs v us Q I rx rv h
 obtain ⟨l,b,xs,zs,rfl,rfl,hH,hB,hne,hz,q⟩:=h
 cases rx
 obtain ⟨u,rfl,ru⟩:=rv.one
 cases ru
 obtain ⟨z,KQ,n,r,hl,e⟩:=I.lstM hH
 obtain ⟨z2,its2,n2,r2,e2⟩:=hB.ok I.hok
 have hl2:=r2.length
 have hsz:KQ.toArray.size+its2.toArray.size<=Kg:=by rw [Qk,Qk];omega
 have hlong:¬ (!KQ.toArray.isEmpty&&Builtin.List.listTooLong (KQ.toArray.size+its2.toArray.size))=true:=by
  rw [notLongL hsz,Bool.and_false]
  exact Qi
 refine call_meets F.slot_list_extend ⟨_,e,rfl⟩ F.entry_list_extend (F.args_list_extend_2 _ _)
  (AutoSeq1.list_extend_list_list_0 l KQ.toArray n b its2.toArray n2 hlong (by rw [Qk];omega) (by omega)) ⟨e,e2,?_⟩
 refine ⟨.non,_,I.lset (its':=KQ++its2) hH e (by simp) (r.append r2) ?_,rfl,q⟩
 rw [Qj]
 omega
end
end L2
namespace M
open PySem PySem.Spec L2
open PySem.W (Frag)
section
variable {X:Cx} {s:Bool} {os:List Nat} {a:Kv} {ta:TE} {ca:Ev->Option (List D)} {p pos:KB}
end
section
variable {X:Cx} {fr:Bool} {os ol:List Nat} {e ek:Kv} {te tk:TE} {f fk:Ev->Option D} {pos:KB}
end
end M
namespace EV
open PySem L2 M
theorem wz {T:Out->Prop} {f:Ev->Option D} {ρ:Ev} {d:D} (e:f ρ=some d) (k:T (.rt d)):Wo (ZQ f ρ) T:=by rw [jR,e];exact ⟨_,rfl,k⟩
section
variable {ρ:Ev} {fa fb:Ev->Option (List D)}
theorem catv {xs ys:List D} (h1:fa ρ=some xs) (h2:fb ρ=some ys) (hl:xs.length+ys.length<=1000000):wX fa fb ρ=some (.lst (xs++ys)):=by
 rw [fCat_,h1,oB,h2,oB]
 exact YS (ZK (by rw [Qj];exact hl))
theorem lv {f:Ev->Option D} {xs:List D} (h:f ρ=some (.lst xs)):fL f ρ=some xs:=by rw [fL_,h];rfl
theorem jA {f:Ev->Option D} {d:D} (e:f ρ=some d):ZJ (zf f zr) ρ=some (.lst [d]):=by rw [fLst_,Zo,e];exact YS (ZK (by simp))
end
theorem ints_at:∀ {l:List D} {P:Nat->Int->Prop},(∀ (i:Nat) x,l[i]?=some x->∃ v,x=.int v/\P i v)->∃ vs:List Int,l=vs.map .int/\vs.length=l.length/\∀ i,i<l.length->P i (vs.getD i 0)
 | [],_,_=>⟨[],rfl,rfl,fun i hi=>by simp at hi⟩
 | x::l,P,h=>by
  obtain ⟨v,rfl,pv⟩:=h 0 x rfl
  obtain ⟨vs,e1,e2,e3⟩:=ints_at (l:=l) (P:=fun i=>P (i+1)) fun i y hy=>h (i+1) y (by simpa using hy)
  refine ⟨v::vs,by rw [e1];rfl,by simp [e2],fun i hi=>?_⟩
  cases i with
  | zero=>exact pv
  | succ i=>exact e3 i (by simpa using hi)
theorem ju {k:Nat} {fl:Ev->Option (List D)} {u:D->Ev->Option Ev} {c:Ev->Option Bool} {e:Ev->Option D} {ρ:Ev} {ds:List D} (P:Nat->Int->Prop) (I:Ev->Prop) (hfl:fl ρ=some ds) (hm:ds.length<=1000) (h0:I (ρ++List.replicate k none))
  (hs:∀ (i:Nat) d ρ,ds[i]?=some d->I ρ->Wo (u d ρ) fun ρ1=>c ρ1=some true/\Wo (e ρ1) (fun x=>∃ v,x=.int v/\P i v)/\I ρ1):∃ vs:List Int,Z4 k fl u c e ρ=some (lstI vs)/\vs.length=ds.length/\∀ i,i<ds.length->P i (vs.getD i 0):=by
 suffices h:Wo (Z4 k fl u c e ρ) fun d=>∃ vs:List Int,d=lstI vs/\vs.length=ds.length/\∀ i,i<ds.length->P i (vs.getD i 0) by
  obtain ⟨d,e,vs,rfl,q⟩:=h
  exact ⟨vs,e,q⟩
 rw [JB,hfl,oB,Wa]
 refine wo_compAt I (fun i x=>∃ v,x=.int v/\P i v) h0 hs fun xs hx hF=>?_
 obtain ⟨vs,rfl,e2,e3⟩:=ints_at hF
 rw [YS (ZK (by rw [hx];omega)),zG]
 rw [hx] at e2 e3
 exact ⟨vs,rfl,e2,e3⟩
theorem zip_at {xs ys:List Int} {i:Nat} {d:D} (h:(zipD (xs.map .int) (ys.map .int))[i]?=some d):i<xs.length/\i<ys.length/\d=.tup [.int (xs.getD i 0),.int (ys.getD i 0)]:=by
 unfold zipD at h
 rw [Ps] at h
 simp only [QO] at h
 rcases Nat.lt_or_ge i xs.length with h1 | h1
 ·rcases Nat.lt_or_ge i ys.length with h2 | h2
  ·rw [Qv h1,Qv h2] at h
   refine ⟨h1,h2,?_⟩
   simp [List.getD,h1,h2] at h ⊢
   exact h.symm
  ·rw [Pu h2] at h;simp at h
 ·rw [Pu h1] at h;simp at h
section
variable {ρ:Ev} {fl ga gb:Ev->Option (List D)} {f f1 f2 f3 f4:Ev->Option D} {ds xs ys:List D} {d1 d2 d3 d4:D} {c1 c2:Ev->Option Bool}
theorem gk {k:Nat} (hl:fl ρ=some ds) (e:f ρ=some (.int (k:Nat))):wu .lst fl (yE f) fNo ρ=some (.lst (ds.drop k)):=by
 rw [fCut_,hl,oB,fPart_,e,oB,wZ,PX,oB,fNo_,oB,cutD_from]
theorem cutLTo {k:Nat} (hl:fl ρ=some ds) (e:f ρ=some (.int (k:Nat))):wu .lst fl fNo (yE f) ρ=some (.lst (ds.take k)):=by
 rw [fCut_,hl,oB,fNo_,oB,fPart_,e,oB,wZ,PX,oB,cutD_to]
end
theorem rng1v {f:Ev->Option D} {ρ:Ev} {n:Nat} (h:f ρ=some (.int (n:Nat))) (hn:n<=1000):yO f ρ=some (yr 0 n):=by
 refine Wo.eq ?_
 rw [wo_rng1,h,zG,wZ,zG]
 exact ⟨⟨by omega,by omega⟩,by rw [Pe]⟩
theorem asg_ {ρ ρ':Ev} {T:Out->Prop} {f:Ev->Option D} {u:D->Ev->Option Ev} {d:D} (e:f ρ=some d) (eu:u d ρ=some ρ') (k:T (.nx ρ')):Wo (mAsg u f ρ) T:=by rw [mAsg_,e,oB,eu];exact ⟨_,rfl,k⟩
theorem sum_big {m:Nat} {vs:List Int} (h:∀ x∈vs,x.natAbs<2 ^ m) (hl:vs.length<=7):(vs.sum).natAbs<2 ^ (m+3):=by
 have key:∀ vs:List Int,(∀ x∈vs,x.natAbs<2 ^ m)->(vs.sum).natAbs<=vs.length*2 ^ m:=by
  intro vs
  induction vs with
  | nil=>intro _;simp
  | cons a r ih =>
   intro h
   rw [List.sum_cons,Qd,Nat.succ_mul]
   have h1:=Int.natAbs_add_le a r.sum
   have h2:=h a Qt
   have h3:=ih fun x hx=>h x (Qe _ hx)
   omega
 refine Pa (key vs h) ?_
 have h1:=Nat.mul_le_mul_right (2 ^ m) hl
 have h2:2 ^ (m+3)=8*2 ^ m:=by rw [Nat.pow_add];omega
 have h3:0<2 ^ m:=Nat.pow_pos (by decide)
 omega
end EV
namespace M
open PySem PySem.Spec L2
open PySem.W (Frag)
section
variable {K:KC} {Ub H:Hp} {Uc:Kc->Prop} {os os2:List Nat} {σ:St} {ρ:Ev} {i:Nat} {a:Kc}
end
section
variable {X:Cx} {fr:Bool} {os os2 ol:List Nat} {pos p:KB} {tg:Kv} {m:Ev->Option Out}
end
end M
namespace L2
open PySem PySem.Spec PyProof.Rows
section
variable {X:Cx} {a:Kv} {ta:TE} {p p2 pos pos2:KB}
end
end L2
namespace M
open PySem PySem.Spec L2
open PySem.W (Frag)
section
variable {X:Cx} {os:List Nat} {a:Kv} {ta:TE} {ca:Ev->Option (List D)} {p p2 pos pos2:KB} {k:Nat}
end
end M
namespace L2
open PySem PySem.Spec PyProof.Rows
section
variable {κ:Type} [DecidableEq κ]
def Js (KP:List (κ×V)) (k:κ):Option V:=(KP.find? fun kv=>decide (kv.1=k)).map (·.2)
def JP (KP:List (κ×V)) (k:κ) (v:V):List (κ×V) :=
 if (KP.any fun kv=>decide (kv.1=k))=true then KP.map (fun kv=>if kv.1=k then (kv.1,v) else kv) else KP++[(k,v)]
theorem Wt {p:κ×V} {r:List (κ×V)} {k:κ} (e:p.1=k):Js (p::r) k=some p.2:=by simp [Js,Po,e]
theorem Wu {p:κ×V} {r:List (κ×V)} {k:κ} (e:¬ p.1=k):Js (p::r) k=Js r k:=by simp [Js,Po,e]
theorem valV_any (k:κ):∀ KP:List (κ×V),(KP.any fun kv=>decide (kv.1=k))=(Js KP k).isSome
 | []=>rfl
 | p::r=>by
  rw [Pm]
  by_cases e:p.1=k
  ·simp only [Wt e,KU e,Bool.true_or,Option.isSome_some]
  ·rw [Wu e,KW e,Bool.false_or];exact valV_any k r
theorem wH (KP:List (κ×V)) (k:κ) (v:V):(JP KP k v).length<=KP.length+1:=by
 unfold JP
 split
 ·rw [Qg];omega
 ·rw [Qj,Qd,QB];omega
theorem Ji.isSome_eq {o:Option V} {u:Option Ka} (r:Ji o u):o.isSome=u.isSome:=by
 cases o with
 | none=>cases u with
  | none=>rfl
  | some _=>exact (show False from r).elim
 | some _=>cases u with
  | none=>exact (show False from r).elim
  | some _=>rfl
theorem KV.val {KP:List (κ×V)} {vs:List (κ×Ka)} (r:KV KP vs) (k:κ):Ji (Js KP k) (valueAt vs k):=by
 unfold KV at r
 induction r with
 | nil=>exact True.intro
 | @cons p q ps qs h t ih =>
  obtain ⟨h1,h2⟩:=h
  by_cases e:p.1=k
  ·have e':q.1=k:=h1.symm.trans e
   have b:valueAt (q::qs) k=some q.2:=by simp [valueAt,Po,e']
   rw [Wt e,b];exact h2
  ·have e':¬ q.1=k:=fun z=>e (h1.trans z)
   have b:valueAt (q::qs) k=valueAt qs k:=by simp [valueAt,Po,e']
   rw [Wu e,b];exact ih
theorem KV.any {KP:List (κ×V)} {vs:List (κ×Ka)} (r:KV KP vs) (k:κ):(KP.any fun kv=>decide (kv.1=k))=vs.any fun kv=>decide (kv.1=k):=by
 unfold KV at r
 induction r with
 | nil=>rfl
 | cons h t ih=>rw [Pm,Pm,ih,h.1]
theorem KV.repl {KP:List (κ×V)} {vs:List (κ×Ka)} (r:KV KP vs) (k:κ) {y:V} {u:Ka} (ry:Zl y u) :
  KV (KP.map fun kv=>if kv.1=k then (kv.1,y) else kv) (vs.map fun kv=>if kv.1=k then (kv.1,u) else kv):=by
 unfold KV at r ⊢
 induction r with
 | nil=>exact .nil
 | @cons p q ps qs h t ih =>
  rw [Qr,Qr]
  refine .cons ?_ ih
  obtain ⟨h1,h2⟩:=h
  by_cases e:p.1=k
  ·rw [KR e,KR (h1.symm.trans e)];exact ⟨h1,ry⟩
  ·rw [KS e,KS (fun z=>e (h1.trans z))];exact ⟨h1,h2⟩
theorem KV.put {KP:List (κ×V)} {vs:List (κ×Ka)} (r:KV KP vs) (k:κ) {y:V} {u:Ka} (ry:Zl y u):KV (JP KP k y) (stored vs k u):=by
 unfold JP stored
 rw [r.any k]
 by_cases e:(vs.any fun kv=>decide (kv.1=k))=true
 ·rw [KR e,KR e];exact r.repl k ry
 ·rw [KS e,KS e];exact Paired.snoc r ⟨rfl,ry⟩
theorem KV.length {KP:List (κ×V)} {vs:List (κ×Ka)} (r:KV KP vs):KP.length=vs.length:=Paired.length r
end
theorem kV_is {P:Ki} {w:Kk} {k:Key} {u:Ka} (r:Zl (kV k) u):(ym P w).is k u=true:=by
 cases k with
 | inl i=>obtain ⟨t,e⟩:=(show ∃ t,u=Value.int i t from r);subst e;exact mixKind_int P w i t
 | inr x=>obtain ⟨t,e⟩:=(show ∃ t,u=Value.str x t from r);subst e;exact mixKind_str P w x t
theorem items_are {P:Ki} {w:Kk}:∀ {ks:List Key} {us:List Ka},zP (ks.map kV) us->ItemsAre (ym P w) ks us
 | [],_,r=>by rw [PJ] at r;cases r;exact .nil
 | k::ks,_,r=>by
  rw [Qr] at r
  cases r with
  | cons h t=>exact .cons (kV_is h) (items_are t)
abbrev KT (H:Hp):List (List Key×V)->List (List Key×Kc×Ka)->Prop:=Paired fun p q=>p.1=q.1/\H q.2.1=some (.tup (p.1.map kV))/\Zl p.2 q.2.2
theorem KT.val {H:Hp} {KP:List (List Key×V)} {xs:List (List Key×Kc×Ka)} (r:KT H KP xs) (k:List Key):Ji (Js KP k) ((atKey xs k).map (·.2)):=by
 induction r with
 | nil=>exact True.intro
 | @cons p q ps qs h t ih =>
  obtain ⟨h1,_,h2⟩:=h
  by_cases e:p.1=k
  ·have e':q.1=k:=h1.symm.trans e
   have b:atKey (q::qs) k=some q.2:=by simp [atKey,Po,e']
   rw [Wt e,b];exact h2
  ·have e':¬ q.1=k:=fun z=>e (h1.trans z)
   have b:atKey (q::qs) k=atKey qs k:=by simp [atKey,Po,e']
   rw [Wu e,b];exact ih
theorem KT.repl {H:Hp} {KP:List (List Key×V)} {xs:List (List Key×Kc×Ka)} (r:KT H KP xs) (k:List Key) {y:V} {u:Ka} (ry:Zl y u) :
  KT H (KP.map fun kv=>if kv.1=k then (kv.1,y) else kv) (xs.map (putAt k u)):=by
 induction r with
 | nil=>exact .nil
 | @cons p q ps qs h t ih =>
  rw [Qr,Qr]
  refine .cons ?_ ih
  obtain ⟨h1,h2,h3⟩:=h
  unfold putAt
  by_cases e:p.1=k
  ·rw [KR e,KR (h1.symm.trans e)];exact ⟨h1,h2,ry⟩
  ·rw [KS e,KS (fun z=>e (h1.trans z))];exact ⟨h1,h2,h3⟩
theorem KT.put {H:Hp} {KP:List (List Key×V)} {xs:List (List Key×Kc×Ka)} (r:KT H KP xs) (k:List Key) {b:Kc} {y:V} {u:Ka} (hb:H b=some (.tup (k.map kV))) (ry:Zl y u) :
  KT H (JP KP k y) (storedH xs k b u):=by
 have e:(KP.any fun kv=>decide (kv.1=k))=(atKey xs k).isSome:=by
  rw [valV_any,(r.val k).isSome_eq,Option.isSome_map]
 unfold JP storedH
 rw [e]
 by_cases q:(atKey xs k).isSome=true
 ·rw [KR q,KR q];exact r.repl k ry
 ·rw [KS q,KS q];exact Paired.snoc r ⟨rfl,hb,ry⟩
theorem KT.keeps {H H':Hp} {KP:List (List Key×V)} {xs:List (List Key×Kc×Ka)} (r:KT H KP xs) (ht:∀ b ys,H b=some (.tup ys)->H' b=some (.tup ys)):KT H' KP xs :=
 Paired.mapP r fun _ _ z=>⟨z.1,ht _ _ z.2.1,z.2.2⟩
section
variable {P:Ki} {w:Kk} {H:Hp} {h:Kl} {a:Kc}
theorem rd_of {u:HO} (ok:HOk P w H h) (e:Rd H a u):Z9 P w H h a u:=e.ok ok
theorem dk_rd {KP:List (Key×V)} (ok:HOk P w H h) (e:Rd H a (.dK KP)):KP.length<=Kg/\(a == sysModules)=false/\∃ vs,KV KP vs/\h.DictOf (ym P w) a vs :=
 show Z9 P w H h a (.dK KP) from rd_of ok e
theorem dk_of {KP:List (Key×V)} (ok:HOk P w H h) (e:H a=some (.dK KP)):KP.length<=Kg/\(a == sysModules)=false/\∃ vs,KV KP vs/\h.DictOf (ym P w) a vs:=dk_rd ok (.inl e)
theorem key_of {ks:List Key} (ok:HOk P w H h) (e:H a=some (.tup (ks.map kV))):(tupleKind (ym P w)).is h ks a:=by
 obtain ⟨_,KQ,r,o,h1,h2,n,h3⟩:=(show Z9 P w H h a (.tup (ks.map kV)) from ok a _ e)
 exact ⟨o,KQ.toArray,n,h1,h2,h3,by simpa using items_are r⟩
theorem dt_rd {KP:List (List Key×V)} (ok:HOk P w H h) (e:Rd H a (.dT KP)):KP.length<=Kg/\(a == sysModules)=false /\
  ∃ xs,KT H KP xs/\h.DictOfH (tupleKind (ym P w)) a xs:=by
 obtain ⟨z,y,xs,r,o,es,ep,h1,h2,h3,h4,h5⟩:=(show Z9 P w H h a (.dT KP) from rd_of ok e)
 refine ⟨z,y,xs,r,o,es,ep,h1,h2,h3,h4,fun x hx=>?_,h5⟩
 have all:∀ {l:List (List Key×V)} {m:List (List Key×Kc×Ka)},KT H l m->∀ x∈m,(tupleKind (ym P w)).is h x.1 x.2.1:=by
  intro l m q
  induction q with
  | nil=>intro x hx;exact nomatch hx
  | @cons p q ps qs hq t ih =>
   intro x hx
   rcases Qc.mp hx with e | hx
   ·subst e
    exact key_of ok (by rw [<- hq.1];exact hq.2.1)
   ·exact ih x hx
 exact all r x hx
theorem dt_of {KP:List (List Key×V)} (ok:HOk P w H h) (e:H a=some (.dT KP)):KP.length<=Kg/\(a == sysModules)=false /\
  ∃ xs,KT H KP xs/\h.DictOfH (tupleKind (ym P w)) a xs:=dt_rd ok (.inl e)
end
def DGet (H:Hp) (a:Kc) (y:V) (r:Option V):Prop :=
 (∃ KP k,Rd H a (.dK KP)/\y=kV k/\r=Js KP k)\/∃ KP k b,Rd H a (.dT KP)/\y=.ref b/\H b=some (.tup (k.map kV))/\r=Js KP k
def DPut (H:Hp) (a:Kc) (y v:V) (H':Hp):Prop :=
 (∃ KP k,H a=some (.dK KP)/\y=kV k/\KP.length<Kg/\H'=upd H a (.dK (JP KP k v))) \/
 ∃ KP k b,H a=some (.dT KP)/\y=.ref b/\H b=some (.tup (k.map kV))/\KP.length<Kg/\H'=upd H a (.dT (JP KP k v))
theorem DGet.k {H:Hp} {a:Kc} {KP:List (Key×V)} {k:Key} (e:H a=some (.dK KP)):DGet H a (kV k) (Js KP k):=.inl ⟨KP,k,.inl e,rfl,rfl⟩
theorem DGet.t {H:Hp} {a b:Kc} {KP:List (List Key×V)} {k:List Key} (e:H a=some (.dT KP)) (eb:H b=some (.tup (k.map kV))):DGet H a (.ref b) (Js KP k):=.inr ⟨KP,k,b,.inl e,rfl,eb,rfl⟩
theorem DPut.k {H:Hp} {a:Kc} {KP:List (Key×V)} {k:Key} {v:V} (e:H a=some (.dK KP)) (hl:KP.length<Kg):DPut H a (kV k) v (upd H a (.dK (JP KP k v))):=.inl ⟨KP,k,e,rfl,hl,rfl⟩
theorem DPut.t {H:Hp} {a b:Kc} {KP:List (List Key×V)} {k:List Key} {v:V} (e:H a=some (.dT KP)) (eb:H b=some (.tup (k.map kV))) (hl:KP.length<Kg) :
  DPut H a (.ref b) v (upd H a (.dT (JP KP k v))):=.inr ⟨KP,k,b,e,rfl,eb,hl,rfl⟩
section
variable {X:Cx} {KK:List (Kc×KA)} {σ:St} {H:Hp} {s:Kb} {a:Kc} {y v:V} {u r:Ka} {o:Option V} {A:Kj} {E:Ka->Kb->Prop}
theorem Inv.big (I:Inv X KK σ H s):sysModules<s.heap.objs.size:=by
 have h:Kf<s.heap.objs.size:=(I.mod.glob.keeps I.bk).lt
 exact QI (by decide) h
theorem d_getItem {Q:Ka->Kb->Prop} (hu:A.units+1<cLine) (I:Inv X KK σ H s) (g:DGet H a y (some v)) (ry:Zl y u) (h:∀ w' s',Inv X KK σ H s'->Zl v w'->Q w' s') :
  Ko (Ky X.prog X.w) A (getItem (.ref a) u) Q E s:=by
 rcases g with ⟨KP,k,e,ey,l⟩ | ⟨KP,k,b,e,ey,eb,l⟩
 ·subst ey
  obtain ⟨z,hd,vs,rel,dd⟩:=dk_rd I.hok e
  obtain ⟨w',hw,rw'⟩:=Ji.some_of (v:=v) (o:=valueAt vs k) (by rw [l];exact rel.val k)
  exact wpAny_getItem_of (kV_is ry) dd.mapOf hw (h w' _ (I.tok _) rw')
 ·subst ey
  cases (show u=Value.ref b from ry)
  obtain ⟨z,hd,xs,rel,dd⟩:=dt_rd I.hok e
  obtain ⟨w',hw,rw'⟩:=Ji.some_of (v:=v) (o:=(atKey xs k).map (·.2)) (by rw [l];exact rel.val k)
  obtain ⟨p,hp,hp2⟩:=PR.mp hw
  refine wpAny_getItem_heap (tupleKind_room_in1 hu) (key_of I.hok eb) dd hp ?_
  rw [hp2]
  exact h w' _ (I.tok _) rw'
theorem d_write {h':Kl} {t':Nat} {ob:HO} (I:Inv X KK σ H s) (mu:Mut (H a)) (hs:Heap.SameBut a s.heap h') (he:∃ q,h'.get? a=some q) (new:Z9 X.prog X.w (upd H a ob) h' a ob) :
  Inv X KK σ (upd H a ob) { s with heap:=h',toks:=t' } :=
 I.write (x:=a) (e:=a) mu (.inl rfl) (fun b q hb z=>(hs.2 b hb).trans z) he new
theorem dk_new {P:Ki} {w:Kk} {H':Hp} {h':Kl} {KP:List (Key×V)} {vs:List (Key×Ka)} (z:KP.length<=Kg) (hd:(a == sysModules)=false) (rel:KV KP vs) (dd:h'.DictOf (ym P w) a vs) :
  Z9 P w H' h' a (.dK KP):=⟨z,hd,vs,rel,dd⟩
theorem d_setItem {H':Hp} {Q:Unit->Kb->Prop} (hu:A.units+1<cLine) (I:Inv X KK σ H s) (g:DPut H a y v H') (ry:Zl y u) (rv:Zl v r) (h:∀ s',Inv X KK σ H' s'->Q () s') :
  Ko (Ky X.prog X.w) A (setItem (.ref a) u r) Q E s:=by
 rcases g with ⟨KP,k,e,ey,l,eH⟩ | ⟨KP,k,b,e,ey,eb,l,eH⟩
 ·subst ey eH
  obtain ⟨z,hd,vs,rel,dd⟩:=dk_of I.hok e
  have hz:vs.length<=Kg:=by rw [<- rel.length];exact z
  have hl:(JP KP k v).length<=Kg:=by have:=wH KP k v;omega
  refine wpAny_setItem_pairs (hsz:=hz) (kV_is ry) dd fun h' dd' hs=>h _ ?_
  have he:∃ q,h'.get? a=some q:=let ⟨q,_,_,hq,_⟩:=dd';⟨q,hq⟩
  exact d_write I (by rw [e];exact True.intro) hs he (dk_new hl hd (rel.put k rv) dd')
 ·subst ey eH
  cases (show u=Value.ref b from ry)
  obtain ⟨z,hd,xs,rel,dd⟩:=dt_of I.hok e
  have hz:xs.length<=Kg:=by rw [<- Paired.length rel];exact z
  have hl:(JP KP k v).length<=Kg:=by have:=wH KP k v;omega
  refine wpAny_setItem_heap (hsz:=hz) (tupleKind_room_in1 hu) (key_of I.hok eb) dd fun h' dd' hs=>h _ ?_
  obtain ⟨q,es,ep,hq,h2,h3,h4,_,h5⟩:=dd'
  refine d_write I (by rw [e];exact True.intro) hs ⟨q,hq⟩ ⟨hl,hd,_,(rel.put k eb rv).keeps fun c ys ec=>?_,q,es,ep,hq,h2,h3,h4,h5⟩
  rw [zv (ne_of ec e (fun z=>nomatch z))]
  exact ec
end
section
variable {X:Cx} {KK:List (Kc×KA)} {σ:St} {H:Hp} {s:Kb} {a:Kc} {KP:List (Key×V)} {k:Key} {u:Ka} {A:Kj} {E:Ka->Kb->Prop}
end
def NoSl (i:Kv):Prop:=∀ ov iv,subscripted i false ov iv=operate [ov,iv] (getItem ov iv)
theorem subD_of {prog:Ki} {w:Kk} {A:Kj} {E:Ka->Kb->Prop} {s:Kb} {env:Env} {value slice:Kv} {pos:KB} {T id:String} {Q:Ka->Kb->Prop}
  (hl:typeLookup (.type T) "__getitem__"=pure (some (.builtin id))) (hs:NoSl slice)
  (h:Ko (Ky prog w) A (Kz value env) (fun o s₁=>Ko (Ky prog w) A (Kz slice env) (fun i s₂=>s₂.TypeIs o T/\Ko (Ky prog w) A (getItem o i) Q E s₂) E s₁) E s) :
  Ko (Ky prog w) A (Kz (.Subscript value slice pos) env) Q E s:=by
 refine Subscript_ (QR h (fun o s₁ h₁=>QR h₁ (fun i s₂ h₂=>?_) fun _ _ x=>x) fun _ _ x=>x)
 obtain ⟨hT,h₂⟩:=h₂
 unfold subscriptTail
 refine Qa ?_
 rw [getitemInPython_of_ne hT.not_modules]
 refine Qa (wpAny_specialOf hT hl ?_)
 have fin:Ko (Ky prog w) A (subscripted slice false o i) (fun r s₃=>Ko (Ky prog w) A (letTemporaryGo value o r >>= fun _=>pure r) Q E s₃) E s₂:=by
  rw [hs o i]
  exact wpAny_operating (QR h₂ (fun r s₃ h₃=>Qa (wpAny_letTemporaryGo (Qf h₃))) fun _ _ x=>x)
 first
  | exact Qf (Qa fin)
  | exact Qa (Qf (Qa fin))
  | exact Qa fin
theorem dict_typeIs {X:Cx} {KK:List (Kc×KA)} {σ:St} {H:Hp} {s:Kb} {a:Kc} {y:V} {o:Option V} (I:Inv X KK σ H s) (g:DGet H a y o):s.TypeIs (.ref a) "dict":=by
 rcases g with ⟨KP,k,e,_,_⟩ | ⟨KP,k,b,e,_,_,_⟩
 ·obtain ⟨_,_,vs,_,dd⟩:=dk_rd I.hok e
  exact dd.typeIs
 ·obtain ⟨_,_,xs,_,dd⟩:=dt_rd I.hok e
  exact dd.typeIs
def tDGet (td ty:TE):TE:=fun σ H Q=>td σ H fun x H1=>ty σ H1 fun y H2=>∃ a v,x=.ref a/\DGet H2 a y (some v)/\Q v H2
def sDPut (td ty tv:TE):TS:=fun D σ H=>tv σ H fun v H1=>td σ H1 fun x H2=>ty σ H2 fun y H3=>∃ a H4,x=.ref a/\DPut H3 a y v H4/\D.nx σ H4
section
variable {X:Cx} {o i e value:Kv} {pos pos' tpos:KB} {td ty tv:TE}
theorem pe_dget (hu:X.A.units+1<cLine) (ho:PE X o td) (hi:PE X i ty) (hs:NoSl i):PE X (.Subscript o i pos) (tDGet td ty):=by
 intro KK s σ H Q I h
 refine subD_of PySem.F.slot_dict_getitem.lookup hs (thn (ho KK s σ H _ I h) fun u s1 ⟨x,H1,I1,rx,q1⟩=>thn (hi KK s1 σ H1 _ I1 q1) fun iv s2 ⟨y,H2,I2,ry,a,v,ex,g,q2⟩=>?_)
 subst ex
 obtain rfl:u=Value.ref a:=rx
 exact ⟨dict_typeIs I2 g,d_getItem hu I2 g ry fun w' s3 I3 rw'=>⟨v,H2,I3,rw',q2⟩⟩
theorem ps_dput (hu:X.A.units+1<cLine) (ho:PE X o td) (hi:PE X i ty) (hv:PE X value tv) (hs:Kt value (some (.Subscript o i pos')) pos.line X.env=pure false) :
  PS X (.Assign [.Subscript o i pos'] value pos) (sDPut td ty tv):=by
 intro KK s σ H D I h
 refine wpAny_Assign_Subscript (thn (hv KK s σ H _ I h) fun r s1 ⟨v,H1,I1,rv,q1⟩=>thn (ho KK s1 σ H1 _ I1 q1) fun u s2 ⟨x,H2,I2,rx,q2⟩=>thn (hi KK s2 σ H2 _ I2 q2) fun iv s3 ⟨y,H3,I3,ry,a,H4,ex,g,q3⟩=>?_) hs
 subst ex
 obtain rfl:u=Value.ref a:=rx
 exact d_setItem hu I3 g ry rv fun s4 I4=>⟨σ,H4,I4,q3⟩
end
theorem dk_empty {P:Ki} {w:Kk} {H:Hp} (h:Kl) (hb:sysModules<h.objs.size):Z9 P w H (h.push { cls:=.type "dict",data:=.dict #[] }) h.objs.size (.dK []) :=
 ⟨Pd _,beq_eq_false_iff_ne.mpr (Ne.symm (Qu hb)),[],.nil,Heap.DictOf.new h⟩
def tDNewK:TE:=fun _ H Q=>∀ p,H p=none->Q (.ref p) (upd H p (.dK []))
section
variable {X:Cx} {pos:KB}
theorem pe_dnewK:PE X (.Dict [] [] pos) tDNewK:=fun KK s σ H Q I h =>
 wpAny_Dict_empty ⟨.ref s.heap.objs.size,_,I.laid (a:=s.heap.objs.size) (o:=.dK []) (t':=s.toks) (fun _ _ q=>Qb _ q) (Ql _) (dk_empty s.heap I.big),rfl,h _ (I.hok.fresh (Ql _))⟩
end
end L2
namespace L2
open PySem PySem.Spec PyProof.Rows
section
variable {X:Cx}
end
end L2
namespace M
open PySem PySem.Spec L2
open PySem.W (Frag)
section
variable {X:Cx} {fr st:Bool} {os os' ol:List Nat} {a:Kv} {ta:TE} {ca:Ev->Option (List D)} {p p' pos pos':KB} {k:Nat}
end
end M
namespace L2
open PySem PySem.Spec PyProof.Rows
section
variable {X:Cx} {KK:List (Kc×KA)} {σ:St} {H:Hp} {s:Kb} {a:Kc}
end
end L2
namespace M
open PySem PySem.Spec L2
open PySem.W (Frag)
theorem Md.forget {K:KC} {Ub H:Hp} {Uc:Kc->Prop} {os:List Nat} {σ:St} {ρ:Ev} (m:Md K Ub Uc os σ H ρ) {i:Nat} {v:Option V} (hi:i∉os):Md K Ub Uc os (σ.set i v) H (ρ.set i none):=by
 have hb:Bl Uc os (σ.set i v)=Bl Uc os σ:=bl_eq fun j hj=>zc fun z=>hi (z▸hj)
 refine ⟨m.grow,m.blk,by rw [Qp,Qp];exact m.len,fun j d q n=>?_,fun j hj=>?_,fun j k a h1 h2=>?_⟩
 ·have hj:j≠i:=fun z=>by
   subst z
   have:=yB q
   cases this
  rw [zc hj] at q
  obtain ⟨w',q1,q2⟩:=m.sh j d q n
  exact ⟨w',by rw [zc hj];exact q1,by rw [hb];exact q2⟩
 ·have hne:j≠i:=fun z=>hi (z▸hj)
  obtain ⟨a,o,d,q1,q2,q3,q4,q5⟩:=m.own j hj
  exact ⟨a,o,d,by rw [zc hne];exact q1,by rw [zc hne];exact q2,q3,q4,by rw [hb];exact q5⟩
 ·rw [zc (show j≠i from fun z=>hi (z▸h1)),zc (show k≠i from fun z=>hi (z▸h2))]
  exact m.sep j k a h1 h2
section
variable {X:Cx} {fr:Bool} {i:Nat} {os' ol:List Nat} {zX:List Kx} {t:TS} {m:Ev->Option Out} {pos:KB}
end
end M
namespace L2
open PySem PySem.Spec PyProof.Rows
section
variable {prog:Ki} {w:Kk} {A:Kj} {R:Result->Kb->Prop} {I:Kc} {fp wr:List Kc} {n:Nat} {P:Nat->Ka->Prop} {St:Nat->Kl->Prop}
end
section
variable {X:Cx} {tg:Kv}
end
end L2
namespace M
open PySem PySem.Spec L2
open PySem.W (Frag)
def Z3:List Key->List D->Key->Option D
 | k'::ks,d::ds,k=>if k'=k then some d else Z3 ks ds k
 | _,_,_=>none
def J6 (k:Key) (d:D):List Key->List D->List D
 | k'::ks,x::ds=>(if k'=k then d else x)::J6 k d ks ds
 | _,ds=>ds
def wk (ks:List Key) (k:Key):Bool:=ks.any fun k'=>decide (k'=k)
def putKs (ks:List Key) (k:Key):List Key:=if wk ks k=true then ks else ks++[k]
def putDs (ks:List Key) (ds:List D) (k:Key) (d:D):List D:=if wk ks k=true then J6 k d ks ds else ds++[d]
def gi:D->D->Option D
 | .dict ks ds,.int i=>Z3 ks ds (.inl i)
 | _,_=>none
def asDc:D->Option (List Key×List D)
 | .dict ks ds=>some (ks,ds)
 | _=>none
def mDPut (im:Nat) (fk fv:Ev->Option D):Ev->Option Out:=fun ρ=>(fv ρ).bind fun d=>(ρ[im]?.join).bind fun x=>(asDc x).bind fun kd=>(fk ρ).bind fun y=>(asI y).bind fun i =>
 if kd.1.length<Kg then some (.nx (ρ.set im (some (.dict (putKs kd.1 (.inl i)) (putDs kd.1 kd.2 (.inl i) d))))) else none
section
variable {K:KC} {H:Hp} {B:Kc->Prop}
theorem look_v:∀ {KP:List (Key×V)} {ds:List D} {k:Key} {d:D},zm K H B ds (KP.map (·.2))->Z3 (KP.map (·.1)) ds k=some d->∃ v,Js KP k=some v/\Rep K H B d v
 | [],ds,k,d,h,e=>by cases ds <;> simp [Z3] at e
 | kv::KP,[],k,d,h,e=>by simp [Z3] at e
 | kv::KP,x::ds,k,d,h,e=>by
  simp only [Qr,zm] at h
  obtain ⟨v,r,e1,h1,h2⟩:=h
  cases e1
  simp only [Qr,Z3] at e
  by_cases hk:kv.1=k
  ·rw [KR hk] at e
   cases e
   exact ⟨kv.2,by simp [Js,hk],h1⟩
  ·rw [KS hk] at e
   obtain ⟨v,q1,q2⟩:=look_v h2 e
   exact ⟨v,by simpa [Js,hk] using q1,q2⟩
theorem rep_map (k:Key) (v:V):∀ KP:List (Key×V),(KP.map fun kv=>if kv.1=k then (kv.1,v) else kv).map (·.1)=KP.map (·.1)
 | []=>rfl
 | kv::KP=>by
  rw [Qr,Qr,Qr,rep_map k v KP]
  by_cases h:kv.1=k <;> simp [h]
theorem rep_reps (k:Key) {d:D} {v:V} (hd:Rep K H B d v):∀ {KP:List (Key×V)} {ds:List D},zm K H B ds (KP.map (·.2))->zm K H B (J6 k d (KP.map (·.1)) ds) ((KP.map fun kv=>if kv.1=k then (kv.1,v) else kv).map (·.2))
 | [],ds,h=>by
  cases ds with
  | nil=>simpa [J6] using h
  | cons x ds=>simp [zm] at h
 | kv::KP,[],h=>by simp [zm] at h
 | kv::KP,x::ds,h=>by
  simp only [Qr,zm] at h
  obtain ⟨w,r,e1,h1,h2⟩:=h
  cases e1
  simp only [Qr,J6]
  refine .cons ?_ (rep_reps k hd h2)
  by_cases hk:kv.1=k
  ·simp only [KR hk];exact hd
  ·simp only [KS hk];exact h1
theorem any_mem (k:Key) (KP:List (Key×V)):(KP.any fun kv=>decide (kv.1=k))=wk (KP.map (·.1)) k:=by
 unfold wk
 rw [List.any_map]
 rfl
theorem put_own {KP:List (Key×V)} {ds:List D} {k:Key} {d:D} {v:V} (hd:Rep K H B d v) (h:zm K H B ds (KP.map (·.2))):Own K H B (.dK (JP KP k v)) (.dict (putKs (KP.map (·.1)) k) (putDs (KP.map (·.1)) ds k d)):=by
 simp only [Own]
 unfold JP putKs putDs
 rw [any_mem]
 by_cases hk:wk (KP.map (·.1)) k=true
 ·rw [KR hk,KR hk,KR hk]
  exact ⟨rep_map k v KP,rep_reps k hd h⟩
 ·rw [KS hk,KS hk,KS hk]
  rw [Q5,Q5]
  exact ⟨rfl,h.append (.one hd)⟩
end
section
variable {X:Cx} {fr st s:Bool} {os os' ol:List Nat} {o a i e tg:Kv} {td ta ti te:TE} {fo fa fi f:Ev->Option D} {ca:Ev->Option (List D)} {p p' pos pos':KB} {k:Nat}
theorem sf_dnew:SF X os (.Dict [] [] pos) tDNewK (fC (.dict [] [])):=⟨pe_dnewK,fun Ub Uc σ H ρ d Q m q kk=>by
 cases q
 intro p hp
 exact kk p (.dK []) _ (zx hp) hp zu (by simp only [Own];exact ⟨rfl,.nil⟩)⟩
theorem se_dget (hr:Room k X.A) (ho:SE X st os o td fo) (hi:SE X st os i ti fi) (hs:NoSl i:=by intro _ _;rfl):SE X st os (.Subscript o i pos) (tDGet td ti) (f2 gi fo fi):=⟨pe_dget (hu_of hr) ho.pe hi.pe hs,fun Ub Uc σ H ρ d Q m q kk=>by
 obtain ⟨x,h1,h2⟩:=zd q
 obtain ⟨y,h3,h4⟩:=zd h2
 refine ho.ok Ub Uc σ H ρ x _ m h1 fun v H1 s1 r1=>?_
 refine hi.ok Ub Uc σ H1 ρ y _ (m.up s1) h3 fun u H2 s2 r2=>?_
 cases x <;> cases y <;> simp only [gi] at h4 <;> try (cases h4)
 have r1':=r1.up s2
 simp only [Rep] at r1' r2
 obtain ⟨b,KP,rfl,⟨hb,_⟩,rfl,hr⟩:=r1'
 subst r2
 obtain ⟨w',g1,g2⟩:=look_v hr h4
 exact ⟨b,w',rfl,by rw [<- g1];exact DGet.k (k:=.inl _) hb,kk w' H2 (s1.trans s2) g2⟩⟩
theorem ss_dput (im:Nat) {y:Kw} {pv1:KB} (hr:Room k X.A) (hi:SE X false os i ti fi) (hv:SE X true os e te f) (ho:im∈os:=by decide) (hN:X.N[im]?=some y:=by rfl) (hvis:Vis X.env.scope y:=by first | exact Or.inl rfl | exact Or.inr (Or.inl rfl) | exact Or.inr (Or.inr rfl)) (hd:(y == ("__debug__":Kw))=false:=by decide)
  (hcd:(y == ("__classdict__":Kw))=false:=by decide) (hs:Kt e (some (.Subscript (.Name y pv1) i pos')) pos.line X.env=pure false:=by rfl) :
  SS X fr os os ol (.Assign [.Subscript (.Name y pv1) i pos'] e pos) (sDPut (Zj im) ti te) (mDPut im fi f) :=
 ⟨ps_dput (hu_of hr) (pv im hN hvis hd hcd) hi.pe hv.pe hs,fun Ub Uc σ H ρ o E m q kk=>by
 obtain ⟨d,q1,q2⟩:=zd q
 obtain ⟨x,q3,q4⟩:=zd q2
 obtain ⟨kd,q5,q6⟩:=zd q4
 obtain ⟨yy,q7,q8⟩:=zd q6
 obtain ⟨n,q9,q10⟩:=zd q8
 split at q10
 case isFalse=>cases q10
 rename_i hl
 cases q10
 cases x <;> simp only [asDc] at q5 <;> cases q5
 obtain ⟨a,ob,d',g1,g2,g3,g4,g5⟩:=m.own im ho
 rw [Ye q3] at g2;cases g2
 cases ob <;> simp only [Own] at g5
 rename_i KP
 obtain ⟨rfl,g5⟩:=g5
 refine hv.ok Ub Uc σ H ρ d _ m q1 fun v H1 s1 r1=>?_
 refine ⟨.ref a,g1,?_⟩
 refine hi.ok Ub Uc σ H1 ρ yy _ (m.up s1) q7 fun w' H2 s2 r2=>?_
 have e2:=asI_v r2 q9
 subst e2
 refine ⟨a,_,rfl,DPut.k (k:=.inl n) (s2 _ _ (s1 _ _ g3)) (by simpa using hl),kk σ _ ?_⟩
 exact (m.up (s1.trans s2)).write ho g1 (put_own (r1.up s2) (g5.up (s1.trans s2)))⟩
end
theorem _root_.L2.FnOk.no {P:Ki} {w:Kk} {K:KC} {mg:Kw->Option Ka} {base:Kl} {k:Nat} {f:Kc} {fd:Kh} {ps:List Kw}:FnOk P w K mg base CX0 k f fd ps (spM K fun _=>none) :=
 ⟨fun _ _ _ _ ⟨_,_,_,_,_,e,_⟩=>(nomatch e),fun _ _ _ _ _ _ _ _ _ _ _ _ _ ⟨_,_,_,_,_,e,_⟩=>(nomatch e)⟩
section
variable {X:Cx} {os os' ol:List Nat} {pos p p1 p2 p3:KB} {x:Kw} {j q:Nat}
theorem ss_retRow1 (h1:Ke [.Constant (.str x) j p1,.List [] p2] X.env=(false,Kz (.Constant (.str x) j p1) X.env)::Ke [.List [] p2] X.env:=by rfl) (h2:Ke [.List [] p2] X.env=(false,Kz (.List [] p2) X.env)::Ke [] X.env:=by rfl) :
  SS X true os os' ol (.Return (some (.Tuple [.Constant (.str x) j p1,.List [] p2] q p)) pos) (wQ (Wv (zW (tC (.str x)) (zW (tLst ZS) ZS)))) (ZQ (ZC (zf (fC (.str x)) (zf (ZJ zr) zr)))) :=
 ⟨YX (jO (zC J7 (zC (ji zY) zY h2) h1)),fun Ub Uc σ H ρ o E mm qq k=>by
 obtain ⟨d,e1,rfl⟩:=map_some qq
 have e2:ZC (zf (fC (.str x)) (zf (ZJ zr) zr)) ρ=some (.tup [.str x,.lst []]):=by
  show (some [D.str x,D.lst []]).bind JD=_
  rw [oB,JD,KR (by show 2<=Kg;decide)]
 rw [e2] at e1;cases e1
 refine ⟨by show 0<=Kg;decide,fun a ha=>⟨by show 2<=Kg;decide,fun b hb=>?_⟩⟩
 have s1:zQ H (upd H a (.lst [])):=zx ha
 have s2:zQ (upd H a (.lst [])) (upd (upd H a (.lst [])) b (.tup [.str x,.ref a])):=zx hb
 refine k _ _ ((mm.up (s1.trans s2)).grow) (mm.up (s1.trans s2)).blk (.inr (.inr ⟨b,x,[a],rfl,rfl,by simp,fun c hc=>?_,zu⟩))
 rw [Qo.mp hc]
 exact ⟨mm.grow.free ha,s2 _ _ zu⟩⟩
theorem ss_retRow2 (h1:Ke [.Constant (.str x) j p1,.List [] p2,.List [] p3] X.env=(false,Kz (.Constant (.str x) j p1) X.env)::Ke [.List [] p2,.List [] p3] X.env:=by rfl) (h2:Ke [.List [] p2,.List [] p3] X.env=(false,Kz (.List [] p2) X.env)::Ke [.List [] p3] X.env:=by rfl)
  (h3:Ke [.List [] p3] X.env=(false,Kz (.List [] p3) X.env)::Ke [] X.env:=by rfl) :
  SS X true os os' ol (.Return (some (.Tuple [.Constant (.str x) j p1,.List [] p2,.List [] p3] q p)) pos) (wQ (Wv (zW (tC (.str x)) (zW (tLst ZS) (zW (tLst ZS) ZS))))) (ZQ (ZC (zf (fC (.str x)) (zf (ZJ zr) (zf (ZJ zr) zr))))) :=
 ⟨YX (jO (zC J7 (zC (ji zY) (zC (ji zY) zY h3) h2) h1)),fun Ub Uc σ H ρ o E mm qq k=>by
 obtain ⟨d,e1,rfl⟩:=map_some qq
 have e2:ZC (zf (fC (.str x)) (zf (ZJ zr) (zf (ZJ zr) zr))) ρ=some (.tup [.str x,.lst [],.lst []]):=by
  show (some [D.str x,D.lst [],D.lst []]).bind JD=_
  rw [oB,JD,KR (by show 3<=Kg;decide)]
 rw [e2] at e1;cases e1
 refine ⟨by show 0<=Kg;decide,fun a ha=>⟨by show 0<=Kg;decide,fun a2 ha2=>⟨by show 3<=Kg;decide,fun b hb=>?_⟩⟩⟩
 have s1:zQ H (upd H a (.lst [])):=zx ha
 have s2:zQ (upd H a (.lst [])) (upd (upd H a (.lst [])) a2 (.lst [])):=zx ha2
 have s3:zQ (upd (upd H a (.lst [])) a2 (.lst [])) (upd (upd (upd H a (.lst [])) a2 (.lst [])) b (.tup [.str x,.ref a,.ref a2])):=zx hb
 have ne:a≠a2:=fun z=>by rw [<- z,zu] at ha2;cases ha2
 refine k _ _ ((mm.up ((s1.trans s2).trans s3)).grow) (mm.up ((s1.trans s2).trans s3)).blk (.inr (.inr ⟨b,x,[a,a2],rfl,rfl,by simp [ne],fun c hc=>?_,zu⟩))
 rcases Qc.mp hc with rfl | hc
 ·exact ⟨mm.grow.free ha,s3 _ _ (s2 _ _ zu)⟩
 ·rw [Qo.mp hc]
  exact ⟨mm.grow.free (s1.free ha2),s3 _ _ zu⟩⟩
end
structure Fr where
 done:List D
 x:Kw
 pre:List D
 post:List D
def shut (f:Fr) (top:List D):List D:=f.done++[.tup (.str f.x::(f.pre++.lst top::f.post))]
def ZA:List D->List Fr->List D
 | top,[]=>top
 | top,f::fs=>ZA (shut f top) fs
section
variable {K:KC} {Ub H H1:Hp} {Uc:Kc->Prop} {w a:Kc} {as:List Kc} {top:List D} {fs:List Fr}
theorem reps_reps {B:Kc->Prop} {ls:List Kc} (h:∀ c∈ls,H c=some (.lst [])/\¬ B c):zm K H B (ls.map fun _=>D.lst []) (ls.map V.ref):=by
 induction ls with
 | nil=>exact .nil
 | cons c ls ih =>
  refine .cons ?_ (ih fun x hx=>h x (Qe _ hx))
  simp only [Rep]
  exact ⟨c,[],rfl,⟨.inl (h c Qt).1,(h c Qt).2⟩,.nil⟩
end
def openNames:List V:=[.str "loop",.str "either"]
def emp (n:Nat):List D:=List.replicate n (.lst [])
def stepZ (c:Int) (d:D) (top:List D) (fs:List Fr):Option (List D×List Fr):=match d with
 | .tup (.str x::ps)=>if top.length<Kg then
   if inV (.str x) openNames=true/\fs.length+1<4 then
    (if 0<ps.length/\x=x/\ps.all (fun d=>match d with | .lst []=>true | _=>false)=true then
     some ([],⟨top,x,emp (c / 32 % (ps.length:Nat)).toNat,emp (ps.length - 1 - (c / 32 % (ps.length:Nat)).toNat)⟩::fs) else none)
   else if c % 4=0 then (match fs with
    | f::fs'=>some (shut f (top++[d]),fs')
    | []=>some (top++[d],[]))
   else some (top++[d],fs)
  else none
 | _=>none
abbrev lenR (K:KC):List V->Hp->VK->Prop:=fun xs H Q=>∃ p ys,xs=[.ref p]/\(SqL K H p ys\/SqT K H p ys)/\Q (.int ys.length) H
theorem YB {Uc:Kc->Prop} {σ:St}:Bl Uc [] σ=Uc:=by
 funext a
 refine propext ⟨fun h=>?_,Or.inl⟩
 rcases h with h | ⟨i,hi,_⟩
 ·exact h
 ·cases hi
theorem Md.base {K:KC} {Ub H:Hp} {Uc:Kc->Prop} {σ:St} {ρ:Ev} (m:Md K Ub Uc [] σ H ρ):Md K H Uc [] σ H ρ :=
 ⟨.refl H,m.blk,m.len,m.sh,fun i hi=>(by cases hi),fun i j a hi=>by cases hi⟩
theorem Md.go {K:KC} {Ub H H':Hp} {B B':Kc->Prop} {σ:St} {ρ:Ev} (m:Md K Ub B [] σ H ρ) (g:Goes H H' B B') (s:zQ Ub H') (hb:∀ a,B' a->∃ o,H' a=some o):Md K Ub B' [] σ H' ρ :=
 ⟨s,hb,m.len,fun i d q n=>by
  obtain ⟨v,h1,h2⟩:=m.sh i d q n
  rw [YB] at h2 ⊢
  exact ⟨v,h1,Rep.goes g _ _ h2⟩,fun i hi=>(by cases hi),fun i j a hi=>by cases hi⟩
theorem gx {xs:List V} {x:V}:atI (xs++[x]) (-1)=some x:=by
 unfold atI ixN
 rw [KS (by omega),KR (by simp;omega)]
 have:((-1:Int)+((xs++[x]).length:Nat)).toNat=xs.length:=by rw [Qj,Pr];omega
 rw [this,oB]
 simp
theorem all_emp {ps:List D} (h:ps.all (fun d=>match d with | .lst []=>true | _=>false)=true):∀ d∈ps,d=.lst []:=fun d hd=>by
 have:=List.all_eq_true.mp h d hd
 cases d <;> try (simp at this)
 rename_i xs
 cases xs with
 | nil=>rfl
 | cons _ _=>simp at this
section
variable {K:KC} {te:TE} {f:Ev->Option D} {H:Hp} {Uc:Kc->Prop} {ρ:Ev} {p:Kc} {top top':List D} {fs fs':List Fr} {c:Int} {d:D} {N:St->Hp->Prop} {E:Ends}
theorem ifT {P Q:Prop} (h:P):if true=true then P else Q:=by rw [KR rfl];exact h
theorem ifF {P Q:Prop} (h:Q):if false=true then P else Q:=by rw [KS Qi];exact h
end
end M
namespace L2
open PySem PySem.Spec PyProof.Rows
section
variable {X:Cx}
theorem J9:fillsNumberSlot (Value.type "tuple") "mul"=pure false:=by kernel_rfl
theorem repeat_tuple:seqRepeat? (Value.type "tuple")=pure (some (Value.builtin "tuple.__mul__")):=by kernel_rfl
end
end L2
namespace M
open PySem PySem.Spec L2
open PySem.W (Frag)
section
variable {X:Cx} {st:Bool} {os:List Nat} {a b e o:Kv} {ta tb te to:TE} {fa fb fe fo:Ev->Option D} {p pos:KB} {k:Nat}
end
theorem Y8 {H H':Hp} {B B' O:Kc->Prop} (h1:∀ e o,H e=some o->¬ O e->H' e=some o) (hO:∀ e,O e->H e=none\/∃ xs,H e=some (.lst xs)) (hOB:∀ e xs,O e->H e=some (.lst xs)->B e) (hB:∀ e,B' e->B e\/H e=none):Goes H H' B B':=by
 have no:∀ e o,H e=some o->(∀ xs,o≠.lst xs)->¬ O e:=fun e o q n z=>by
  rcases hO e z with h | ⟨xs,h⟩
  ·rw [h] at q;cases q
  ·rw [h] at q;cases q;exact n xs rfl
 refine ⟨fun a xs q=>?_,fun a xs q n=>⟨?_,fun z=>?_⟩,fun a KP q n=>⟨?_,fun z=>?_⟩,fun a o u q=>h1 _ _ q (no _ _ q fun xs z=>by cases z),fun a xs q=>h1 _ _ q (no _ _ q fun xs z=>by cases z)⟩
 ·rcases q with q | ⟨o,q⟩
  ·exact .inl (h1 _ _ q (no _ _ q fun xs z=>by cases z))
  ·exact .inr ⟨o,h1 _ _ q (no _ _ q fun xs z=>by cases z)⟩
 ·rcases q with q | ⟨o,q⟩
  ·exact .inl (h1 _ _ q fun z=>n (hOB _ _ z q))
  ·exact .inr ⟨o,h1 _ _ q (no _ _ q fun xs z=>by cases z)⟩
 ·rcases hB a z with h | h
  ·exact n h
  ·rcases q with q | ⟨o,q⟩ <;> (rw [h] at q;cases q)
 ·exact h1 _ _ q (no _ _ q fun xs z=>by cases z)
 ·rcases hB a z with h | h
  ·exact n h
  ·rw [h] at q;cases q
structure Lv where
 a:Kc
 q:Kc
 ps:List Kc
def Lv.own (l:Lv):List Kc:=l.a::l.q::l.ps
def yS (w:Kc) (ls:List Lv):List Kc:=w::ls.flatMap Lv.own
def Bq (Uc:Kc->Prop) (w:Kc) (ls:List Lv):Kc->Prop:=fun x=>Uc x\/x∈yS w ls
def Lv.ok (H:Hp) (l:Lv):Prop:=H l.q=some (.lst ((l.a::l.ps).map V.ref))/\∀ p∈l.ps,H p=some (.lst [])
def Cq (K:KC) (H:Hp) (B:Kc->Prop):List Fr->List Lv->Prop
 | [],[_]=>True
 | f::fs,l::l'::ls=>(∃ (vs pv:List V) (b:Kc),H l'.a=some (.lst (vs++[.ref b]))/\zm K H B f.done vs/\H b=some (.tup (.str f.x::(pv++(l.a::l.ps).map V.ref)))/\zm K H B f.pre pv/\f.post=l.ps.map fun _=>D.lst [])/\Cq K H B fs (l'::ls)
 | _,_=>False
structure Zq (K:KC) (Ub:Hp) (Uc:Kc->Prop) (H:Hp) (w:Kc) (l:Lv) (ls:List Lv) (top:List D) (fs:List Fr):Prop where
 whr:H w=some (.lst (((l::ls).reverse).map fun x=>V.ref x.q))
 top:∃ vs,H l.a=some (.lst vs)/\zm K H (Bq Uc w (l::ls)) top vs
 lv:∀ x∈l::ls,x.ok H
 ch:Cq K H (Bq Uc w (l::ls)) fs (l::ls)
 nd:(yS w (l::ls)).Nodup
 new:∀ x∈yS w (l::ls),Ub x=none/\¬ Uc x
theorem Cq.len {K:KC} {H:Hp} {B:Kc->Prop}:∀ {fs:List Fr} {ls:List Lv},Cq K H B fs ls->ls.length=fs.length+1
 | [],[_],_=>rfl
 | f::fs,l::l'::ls,h=>by simp only [Qd];have:=Cq.len h.2;simp only [Qd] at this;omega
 | [],[],h=>by cases h
 | [],_::_::_,h=>by cases h
 | _::_,[],h=>by cases h
 | _::_,[_],h=>by cases h
theorem Cq.mv {K:KC} {H H':Hp} {B B':Kc->Prop} (g:Goes H H' B B'):∀ {fs:List Fr} {l:Lv} {ls:List Lv},(∀ x∈ls,∀ o,H x.a=some o->H' x.a=some o)->Cq K H B fs (l::ls)->Cq K H' B' fs (l::ls)
 | [],l,[],_,_=>trivial
 | f::fs,l,l'::ls,h1,⟨⟨vs,pv,b,q1,q2,q3,q4,q5⟩,r⟩ =>
  ⟨⟨vs,pv,b,h1 l' Qt _ q1,zm.goes g _ _ q2,g.tkt _ _ q3,zm.goes g _ _ q4,q5⟩,Cq.mv g (fun x hx=>h1 x (Qe _ hx)) r⟩
 | [],_,_::_,_,h=>by cases h
 | _::_,_,[],_,h=>by cases h
theorem Cq.track {K:KC} {H:Hp} {B:Kc->Prop}:∀ {fs:List Fr} {l:Lv} {ls:List Lv},Cq K H B fs (l::ls)->∀ x∈ls,∃ xs,H x.a=some (.lst xs)
 | f::fs,l,l'::ls,⟨⟨vs,pv,b,q1,_⟩,r⟩,x,hx=>by
  rcases Qc.mp hx with rfl | hx
  ·exact ⟨_,q1⟩
  ·exact Cq.track r x hx
 | [],_,[],_,x,hx=>by cases hx
 | [],_,_::_,h,_,_=>by cases h
 | _::_,_,[],h,_,_=>by cases h
section
variable {K:KC} {Ub H H' H1:Hp} {Uc:Kc->Prop} {w:Kc} {l:Lv} {ls:List Lv} {top:List D} {fs:List Fr}
theorem Ze {x:Kc} {ls:List Lv}:x∈yS w ls↔x=w\/∃ l∈ls,x=l.a\/x=l.q\/x∈l.ps:=by
 unfold yS
 rw [Qc,List.mem_flatMap]
 simp only [Lv.own,Qc]
theorem Zq.lists (z:Zq K Ub Uc H w l ls top fs):∀ x∈yS w (l::ls),∃ xs,H x=some (.lst xs):=fun x hx=>by
 rcases Ze.mp hx with rfl | ⟨v,hv,rfl | rfl | hp⟩
 ·exact ⟨_,z.whr⟩
 ·rcases Qc.mp hv with rfl | hv
  ·obtain ⟨vs,h,_⟩:=z.top;exact ⟨_,h⟩
  ·exact z.ch.track v hv
 ·exact ⟨_,(z.lv v hv).1⟩
 ·exact ⟨_,(z.lv v hv).2 x hp⟩
theorem Zq.up (z:Zq K Ub Uc H w l ls top fs) (s:zQ H H1):Zq K Ub Uc H1 w l ls top fs :=
 ⟨s _ _ z.whr,(by obtain ⟨vs,h1,h2⟩:=z.top;exact ⟨vs,s _ _ h1,h2.up s⟩),fun x hx=>⟨s _ _ (z.lv x hx).1,fun p hp=>s _ _ ((z.lv x hx).2 p hp)⟩,z.ch.mv (.same s) (fun x _ o h=>s _ _ h),z.nd,z.new⟩
theorem j8 (h:(yS w (l::ls)).Nodup):w≠l.a/\w≠l.q/\l.a≠l.q/\w∉l.ps/\l.a∉l.ps/\l.q∉l.ps/\l.ps.Nodup/\(yS w ls).Nodup/\∀ v∈ls,∀ x,(x=v.a\/x=v.q\/x∈v.ps)->x≠l.a/\x≠l.q/\x∉l.ps/\x≠w:=by
 unfold yS at h
 rw [List.flatMap_cons] at h
 have hw:=Qz.mp h
 have hl:=List.nodup_append.mp hw.2
 have h1:=Qz.mp hl.1
 have h2:=Qz.mp h1.2
 have hm:∀ v∈ls,∀ x,(x=v.a\/x=v.q\/x∈v.ps)->x∈ls.flatMap Lv.own:=fun v hv x hx=>List.mem_flatMap.mpr ⟨v,hv,by simp only [Lv.own,Qc];exact hx⟩
 refine ⟨fun e=>hw.1 (by simp [Lv.own,e]),fun e=>hw.1 (by simp [Lv.own,e]),fun e=>h1.1 (by simp [e]),fun e=>hw.1 (by simp [Lv.own,e]),fun e=>h1.1 (by simp [e]),h2.1,h2.2,Qz.mpr ⟨fun e=>hw.1 (QA.mpr (.inr e)),hl.2.1⟩,fun v hv x hx=>⟨fun e=>?_,fun e=>?_,fun e=>?_,fun e=>?_⟩⟩
 ·exact hl.2.2 l.a (by simp [Lv.own]) x (hm v hv x hx) e.symm
 ·exact hl.2.2 l.q (by simp [Lv.own]) x (hm v hv x hx) e.symm
 ·exact hl.2.2 x (by simp [Lv.own,e]) x (hm v hv x hx) rfl
 ·exact hw.1 (QA.mpr (.inr (e▸hm v hv x hx)))
theorem Zq.add (z:Zq K Ub Uc H w l ls top fs) {vs:List V} {d:D} {v:V} (hv:H l.a=some (.lst vs)) (hd:Rep K H (Bq Uc w (l::ls)) d v) (ha:H' l.a=some (.lst (vs++[v]))) (hn:∀ e o,H e=some o->e≠l.a->H' e=some o):Zq K Ub Uc H' w l ls (top++[d]) fs:=by
 obtain ⟨wa,wq,aq,wp,ap,qp,pn,_,out⟩:=j8 z.nd
 have g:Goes H H' (Bq Uc w (l::ls)) (Bq Uc w (l::ls)):=Y8 (O:=fun e=>e=l.a) hn (fun e he=>by rw [he];exact .inr ⟨_,hv⟩) (fun e xs he _=>.inr (by rw [he];exact Ze.mpr (.inr ⟨l,by simp,.inl rfl⟩))) (fun e he=>.inl he)
 obtain ⟨vs',h1,h2⟩:=z.top
 rw [hv] at h1;cases h1
 refine ⟨hn _ _ z.whr wa,⟨_,ha,(zm.goes g _ _ h2).append (.one (Rep.goes g _ _ hd))⟩,fun x hx=>?_,z.ch.mv g (fun x hx o h=>hn _ _ h (out x hx x.a (.inl rfl)).1),z.nd,z.new⟩
 rcases Qc.mp hx with rfl | hx'
 ·exact ⟨hn _ _ (z.lv x hx).1 (Ne.symm aq),fun p hp=>hn _ _ ((z.lv x hx).2 p hp) fun e=>ap (e▸hp)⟩
 ·exact ⟨hn _ _ (z.lv x hx).1 (out x hx' _ (.inr (.inl rfl))).1,fun p hp=>hn _ _ ((z.lv x hx).2 p hp) (out x hx' p (.inr (.inr hp))).1⟩
theorem Zq.push (z:Zq K Ub Uc H w l ls top fs) (gr:zQ Ub H) (hb0:∀ x,Uc x->∃ o,H x=some o) {vs:List V} (hv:H l.a=some (.lst vs)) {b q c:Kc} {x:Kw} {cs:List Kc} (hnd:(c::q::cs).Nodup) (fr:∀ e∈c::q::cs,H e=none)
  (ha:H' l.a=some (.lst (vs++[.ref b]))) (hb:H' b=some (.tup (.str x::(c::cs).map V.ref))) (hq:H' q=some (.lst ((c::cs).map V.ref))) (hc:∀ e∈c::cs,H' e=some (.lst [])) (hw:H' w=some (.lst (((l::ls).reverse).map (fun x=>V.ref x.q)++[.ref q]))) (hn:∀ e o,H e=some o->e≠l.a->e≠w->H' e=some o) :
  Zq K Ub Uc H' w ⟨c,q,cs⟩ (l::ls) [] (⟨top,x,[],cs.map fun _=>.lst []⟩::fs)/\Goes H H' (Bq Uc w (l::ls)) (Bq Uc w (⟨c,q,cs⟩::l::ls)):=by
 obtain ⟨wa,wq,aq,wp,ap,qp,pn,_,out⟩:=j8 z.nd
 have mem':∀ e,e∈yS w (⟨c,q,cs⟩::l::ls)↔e∈yS w (l::ls)\/e∈c::q::cs:=fun e=>by
  rw [Ze,Ze]
  constructor
  ·rintro (h | ⟨v,hv,h⟩)
   ·exact .inl (.inl h)
   ·rcases Qc.mp hv with rfl | hv
    ·right;simp only [Qc];exact h
    ·exact .inl (.inr ⟨v,hv,h⟩)
  ·rintro ((h | ⟨v,hv,h⟩) | h)
   ·exact .inl h
   ·exact .inr ⟨v,Qe _ hv,h⟩
   ·exact .inr ⟨_,Qt,by simpa only [Qc] using h⟩
 have old:∀ e∈yS w (l::ls),e∉c::q::cs:=fun e he hm=>by
  obtain ⟨xs,h⟩:=z.lists e he
  rw [fr e hm] at h;cases h
 have g:Goes H H' (Bq Uc w (l::ls)) (Bq Uc w (⟨c,q,cs⟩::l::ls)):=Y8 (O:=fun e=>e=l.a\/e=w) (fun e o h n=>hn e o h (fun z=>n (.inl z)) fun z=>n (.inr z)) (fun e he=>by
   rcases he with rfl | rfl
   ·exact .inr ⟨_,hv⟩
   ·exact .inr ⟨_,z.whr⟩) (fun e xs he _=>.inr (by
   rcases he with rfl | rfl
   ·exact Ze.mpr (.inr ⟨l,by simp,.inl rfl⟩)
   ·exact Ze.mpr (.inl rfl))) (fun e he=>by
   rcases he with he | he
   ·exact .inl (.inl he)
   ·rcases (mem' e).mp he with he | he
    ·exact .inl (.inr he)
    ·exact .inr (fr e he))
 obtain ⟨vs',h1,h2⟩:=z.top
 rw [hv] at h1;cases h1
 refine ⟨⟨by rw [hw];simp,⟨[],hc c (by simp),.nil⟩,fun v hv'=>?_,⟨⟨vs,[],b,ha,zm.goes g _ _ h2,hb,.nil,rfl⟩,z.ch.mv g fun v hv' o h=>hn _ _ h (out v hv' v.a (.inl rfl)).1 (out v hv' v.a (.inl rfl)).2.2.2⟩,?_,fun e he=>?_⟩,g⟩
 ·rcases Qc.mp hv' with rfl | hv'
  ·exact ⟨hq,fun p hp=>hc p (Qe _ hp)⟩
  ·have hk:=z.lv v hv'
   rcases Qc.mp hv' with rfl | hv2
   ·exact ⟨hn _ _ hk.1 (Ne.symm aq) (Ne.symm wq),fun p hp=>hn _ _ (hk.2 p hp) (fun e=>ap (e▸hp)) fun e=>wp (e▸hp)⟩
   ·exact ⟨hn _ _ hk.1 (out v hv2 _ (.inr (.inl rfl))).1 (out v hv2 _ (.inr (.inl rfl))).2.2.2,fun p hp=>hn _ _ (hk.2 p hp) (out v hv2 p (.inr (.inr hp))).1 (out v hv2 p (.inr (.inr hp))).2.2.2⟩
 ·have nd:=z.nd
  unfold yS at nd ⊢
  have nd2:=Qz.mp nd
  rw [List.flatMap_cons]
  refine Qz.mpr ⟨fun e=>?_,List.nodup_append.mpr ⟨hnd,nd2.2,fun e1 he1 e2 he2 ee=>?_⟩⟩
  ·rcases QA.mp e with e | e
   ·exact old w (Ze.mpr (.inl rfl)) e
   ·exact nd2.1 e
  ·subst ee
   exact old e1 (Qe _ he2) he1
 ·rcases (mem' e).mp he with he | he
  ·exact z.new e he
  ·exact ⟨gr.free (fr e he),fun q=>by obtain ⟨o,h⟩:=hb0 e q;rw [fr e he] at h;cases h⟩
theorem Zq.next {f:Fr} {p:Kc} {ps:List Kc} (z:Zq K Ub Uc H w l ls top (f::fs)) (hps:l.ps=p::ps) (hq:H' l.q=some (.lst ((p::ps).map V.ref))) (hn:∀ e o,H e=some o->e≠l.q->H' e=some o) :
  Zq K Ub Uc H' w ⟨p,l.q,ps⟩ ls [] (⟨f.done,f.x,f.pre++[.lst top],ps.map fun _=>.lst []⟩::fs)/\Goes H H' (Bq Uc w (l::ls)) (Bq Uc w (⟨p,l.q,ps⟩::ls)):=by
 obtain ⟨wa,wq,aq,wp,ap,qp,pn,ndl,out⟩:=j8 z.nd
 have mem':∀ e,e∈yS w (⟨p,l.q,ps⟩::ls)->e∈yS w (l::ls)/\e≠l.a:=fun e he=>by
  rcases Ze.mp he with rfl | ⟨v,hv,h⟩
  ·exact ⟨Ze.mpr (.inl rfl),wa⟩
  ·rcases Qc.mp hv with rfl | hv
   ·rcases h with h | h | h
    ·simp only at h;rw [h];exact ⟨Ze.mpr (.inr ⟨l,by simp,.inr (.inr (by rw [hps];simp))⟩),fun q=>ap (by rw [hps,<- q];simp)⟩
    ·simp only at h;rw [h];exact ⟨Ze.mpr (.inr ⟨l,by simp,.inr (.inl rfl)⟩),Ne.symm aq⟩
    ·simp only at h;exact ⟨Ze.mpr (.inr ⟨l,by simp,.inr (.inr (by rw [hps];simp [h]))⟩),fun q=>ap (by rw [hps,<- q];simp [h])⟩
   ·exact ⟨Ze.mpr (.inr ⟨v,Qe _ hv,h⟩),(out v hv e h).1⟩
 have g:Goes H H' (Bq Uc w (l::ls)) (Bq Uc w (⟨p,l.q,ps⟩::ls)):=Y8 (O:=fun e=>e=l.q) hn (fun e he=>by rw [he];exact .inr ⟨_,(z.lv l (by simp)).1⟩) (fun e xs he _=>.inr (by rw [he];exact Ze.mpr (.inr ⟨l,by simp,.inr (.inl rfl)⟩))) (fun e he=>by
  rcases he with he | he
  ·exact .inl (.inl he)
  ·exact .inl (.inr (mem' e he).1))
 have lp:=(z.lv l (by simp)).2
 have pq:∀ e∈l.ps,e≠l.q:=fun e he q=>qp (q▸he)
 obtain ⟨us,t1,t2⟩:=z.top
 refine ⟨?_,g⟩
 cases ls with
 | nil=>exact absurd z.ch.len (by simp)
 | cons l' ls =>
  obtain ⟨⟨vs,pv,b,q1,q2,q3,q4,q5⟩,r⟩:=z.ch
  refine ⟨?_,⟨[],hn _ _ (lp p (by rw [hps];simp)) (pq p (by rw [hps];simp)),.nil⟩,fun v hv=>?_,⟨⟨vs,pv++[.ref l.a],b,hn _ _ q1 (out l' (by simp) _ (.inl rfl)).2.1,zm.goes g _ _ q2,?_,(zm.goes g _ _ q4).append (.one ?_),rfl⟩,r.mv g fun v hv o h=>hn _ _ h (out v (Qe _ hv) _ (.inl rfl)).2.1⟩,?_,fun e he=>z.new e (mem' e he).1⟩
  ·rw [hn _ _ z.whr wq];simp
  ·rcases Qc.mp hv with rfl | hv
   ·exact ⟨hq,fun e he=>hn _ _ (lp e (by rw [hps];simp [he])) (pq e (by rw [hps];simp [he]))⟩
   ·have hk:=z.lv v (Qe _ hv)
    exact ⟨hn _ _ hk.1 (out v hv _ (.inr (.inl rfl))).2.1,fun e he=>hn _ _ (hk.2 e he) (out v hv e (.inr (.inr he))).2.1⟩
  ·rw [g.tkt _ _ q3,hps];simp
  ·simp only [Rep]
   refine ⟨l.a,us,rfl,⟨.inl (hn _ _ t1 aq),fun q=>?_⟩,zm.goes g _ _ t2⟩
   rcases q with q | q
   ·exact (z.new l.a (Ze.mpr (.inr ⟨l,by simp,.inl rfl⟩))).2 q
   ·exact (mem' _ q).2 rfl
  ·have pn':(p::ps).Nodup:=hps▸pn
   have nd:=ndl
   unfold yS at nd ⊢
   have nd2:=Qz.mp nd
   rw [List.flatMap_cons]
   refine Qz.mpr ⟨fun e=>?_,List.nodup_append.mpr ⟨?_,nd2.2,fun e1 he1 e2 he2 ee=>?_⟩⟩
   ·rcases QA.mp e with e | e
    ·simp only [Lv.own,Qc] at e
     rcases e with e | e | e
     ·exact wp (by rw [hps,e];simp)
     ·exact wq e
     ·exact wp (by rw [hps];simp [e])
    ·exact nd2.1 e
   ·simp only [Lv.own]
    have pp:=Qz.mp pn'
    refine Qz.mpr ⟨fun e=>?_,Qz.mpr ⟨fun e=>qp (by rw [hps];simp [e]),pp.2⟩⟩
    rcases Qc.mp e with e | e
    ·exact qp (by rw [hps,<- e];simp)
    ·exact pp.1 e
   ·subst ee
    obtain ⟨v,hv,hx⟩:=List.mem_flatMap.mp he2
    simp only [Lv.own,Qc] at hx he1
    have ho:=out v hv e1 hx
    rcases he1 with h | h | h
    ·exact ho.2.2.1 (by rw [hps,h];simp)
    ·exact ho.2.1 h
    ·exact ho.2.2.1 (by rw [hps];simp [h])
theorem Zq.out {f:Fr} {l':Lv} (z:Zq K Ub Uc H w l (l'::ls) top (f::fs)) (hps:l.ps=[]) (hw:H' w=some (.lst (((l'::ls).reverse).map fun x=>V.ref x.q))) (hn:∀ e o,H e=some o->e≠l.q->e≠w->H' e=some o) :
  Zq K Ub Uc H' w l' ls (shut f top) fs/\Goes H H' (Bq Uc w (l::l'::ls)) (Bq Uc w (l'::ls)):=by
 obtain ⟨wa,wq,aq,wp,ap,qp,pn,ndl,out⟩:=j8 z.nd
 have mem':∀ e,e∈yS w (l'::ls)->e∈yS w (l::l'::ls)/\e≠l.a:=fun e he=>by
  rcases Ze.mp he with rfl | ⟨v,hv,h⟩
  ·exact ⟨Ze.mpr (.inl rfl),wa⟩
  ·exact ⟨Ze.mpr (.inr ⟨v,Qe _ hv,h⟩),(out v hv e h).1⟩
 have g:Goes H H' (Bq Uc w (l::l'::ls)) (Bq Uc w (l'::ls)):=Y8 (O:=fun e=>e=l.q\/e=w) (fun e o h n=>hn e o h (fun z=>n (.inl z)) fun z=>n (.inr z)) (fun e he=>by
   rcases he with rfl | rfl
   ·exact .inr ⟨_,(z.lv l (by simp)).1⟩
   ·exact .inr ⟨_,z.whr⟩) (fun e xs he _=>.inr (by
   rcases he with rfl | rfl
   ·exact Ze.mpr (.inr ⟨l,by simp,.inr (.inl rfl)⟩)
   ·exact Ze.mpr (.inl rfl))) (fun e he=>by
   rcases he with he | he
   ·exact .inl (.inl he)
   ·exact .inl (.inr (mem' e he).1))
 obtain ⟨us,t1,t2⟩:=z.top
 obtain ⟨⟨vs,pv,b,q1,q2,q3,q4,q5⟩,r⟩:=z.ch
 have keep:∀ v∈l'::ls,∀ x,(x=v.a\/x=v.q\/x∈v.ps)->∀ o,H x=some o->H' x=some o:=fun v hv x hx o h=>hn _ _ h (out v hv x hx).2.1 (out v hv x hx).2.2.2
 refine ⟨⟨hw,⟨vs++[.ref b],keep l' (by simp) _ (.inl rfl) _ q1,?_⟩,fun v hv=>?_,r.mv g fun v hv o h=>keep v (Qe _ hv) _ (.inl rfl) o h,ndl,fun e he=>z.new e (mem' e he).1⟩,g⟩
 ·refine (zm.goes g _ _ q2).append (.one ?_)
  rw [hps] at q3 q5
  simp only [Rep]
  refine ⟨b,_,rfl,.inl (.inl (g.tkt _ _ q3)),.cons (by simp [Rep]) ((zm.goes g _ _ q4).append ?_)⟩
  rw [q5]
  refine .one ?_
  simp only [Rep]
  refine ⟨l.a,us,rfl,⟨.inl (hn _ _ t1 aq (Ne.symm wa)),fun q=>?_⟩,zm.goes g _ _ t2⟩
  rcases q with q | q
  ·exact (z.new l.a (Ze.mpr (.inr ⟨l,by simp,.inl rfl⟩))).2 q
  ·exact (mem' _ q).2 rfl
 ·have hk:=z.lv v (Qe _ hv)
  exact ⟨keep v hv _ (.inr (.inl rfl)) _ hk.1,fun p hp=>keep v hv p (.inr (.inr hp)) _ (hk.2 p hp)⟩
theorem Cq.root:∀ {fs:List Fr} {l:Lv} {ls:List Lv} {top:List D},(∀ v∈l::ls,(∀ x,(x=v.a\/x∈v.ps)->¬ Uc x)/\∀ p∈v.ps,H p=some (.lst []))->Rep K H Uc (.lst top) (.ref l.a)->Cq K H Uc fs (l::ls)->Rep K H Uc (.lst (ZA top fs)) (.ref ((l::ls).getLast (by simp)).a)
 | [],l,[],top,_,h,_=>h
 | f::fs,l,l'::ls,top,hn,h,⟨⟨vs,pv,b,q1,q2,q3,q4,q5⟩,r⟩=>by
  have e:(l::l'::ls).getLast (by simp)=(l'::ls).getLast (by simp):=by rw [Pq (by simp)]
  rw [e,ZA]
  refine Cq.root (fun x hx=>hn x (Qe _ hx)) ?_ r
  simp only [Rep]
  refine ⟨l'.a,_,rfl,⟨.inl q1,(hn l' (by simp)).1 _ (.inl rfl)⟩,q2.append (.one ?_)⟩
  simp only [Rep]
  refine ⟨b,_,rfl,.inl (.inl q3),.cons (by simp [Rep]) (q4.append ?_)⟩
  rw [q5]
  exact .cons h (reps_reps fun c hc=>⟨(hn l (by simp)).2 c hc,(hn l (by simp)).1 c (.inr hc)⟩)
 | [],_,_::_,_,_,_,h=>by cases h
 | _::_,_,[],_,_,_,h=>by cases h
theorem Zq.root (z:Zq K Ub Uc H w l ls top fs):Rep K H Uc (.lst (ZA top fs)) (.ref ((l::ls).getLast (by simp)).a):=by
 have g:Goes H H (Bq Uc w (l::ls)) Uc:=.less (fun e h=>.inl h) (.refl H)
 obtain ⟨vs,h1,h2⟩:=z.top
 refine Cq.root (fun v hv=>⟨fun x hx=>(z.new x (Ze.mpr (.inr ⟨v,hv,hx.elim .inl fun h=>.inr (.inr h)⟩))).2,(z.lv v hv).2⟩) ?_ (z.ch.mv g fun _ _ _ h=>h)
 simp only [Rep]
 exact ⟨l.a,vs,rfl,⟨.inl h1,(z.new l.a (Ze.mpr (.inr ⟨l,by simp,.inl rfl⟩))).2⟩,zm.goes g _ _ h2⟩
end
abbrev tQ (K:KC):TE:=tOp (rIxL K) (Zj 6) (tUn (rU fun i=>.int (-i)) (tC (.int 1)))
abbrev tPopB (K:KC):TS:=yF (YI (tBM K "list" rPopAt (tQ K) (zW (tC (.int 0)) ZS))) (Wx (YH (tOp (rEqD K false) (tQ K) (tLst ZS))) (YI (tBM0 K "list" rPop (Zj 6))) Jj)
theorem lay_emps:∀ ps:List Kc,PyData.canLayAll0 (yh (ps.map fun _=>D.lst []))=true/\PyData.depthAll (yh (ps.map fun _=>D.lst []))<=1
 | []=>⟨by rw [PJ,yh,PyData.canLayAll0],by rw [PJ,yh,PyData.depthAll];omega⟩
 | p::ps=>by
  obtain ⟨h1,h2⟩:=lay_emps ps
  rw [Qr,yh,PyData.canLayAll0,PyData.depthAll,h1,ZZ,yh,PyData.canLay0,PyData.canLayAll0,PyData.depth,PyData.depthAll]
  exact ⟨rfl,by omega⟩
theorem py_emps (ps:List Kc):Y5 (.lst (ps.map fun _=>D.lst []))=true:=by
 obtain ⟨h1,h2⟩:=lay_emps ps
 unfold Y5 SeqAt.shaped
 rw [ZZ,PyData.canLay0,PyData.depth,h1,KU (by omega)];rfl
theorem eq_emps (ps:List Kc):eqD (.lst (ps.map fun _=>D.lst [])) (.lst [])=decide (ps=[]):=by
 unfold eqD
 cases ps with
 | nil=>rw [PJ,ZZ,yh,PyData.eqv];simp [PyData.eqvAll]
 | cons p ps=>rw [Qr,ZZ,yh,ZZ,yh,PyData.eqv];simp [PyData.eqvAll]
section
variable {K:KC} {Ub H:Hp} {Uc:Kc->Prop} {w:Kc} {l:Lv} {ls:List Lv} {top:List D} {f:Fr} {fs:List Fr} {σ:St} {E:Ends}
theorem Zq.whr' (z:Zq K Ub Uc H w l ls top fs):H w=some (.lst ((ls.reverse.map fun x=>V.ref x.q)++[.ref l.q])):=by
 rw [z.whr];simp
theorem pop15 (z:Zq K Ub Uc H w l ls top (f::fs)) (g6:σ[6]?=some (some (.ref w)))
  (k1:∀ (p:Kc) (ps:List Kc) (H':Hp),l.ps=p::ps->Zq K Ub Uc H' w ⟨p,l.q,ps⟩ ls [] (⟨f.done,f.x,f.pre++[.lst top],ps.map fun _=>.lst []⟩::fs)->Goes H H' (Bq Uc w (l::ls)) (Bq Uc w (⟨p,l.q,ps⟩::ls))->(∀ e o,H e=some o->e∉yS w (l::ls)->H' e=some o)->E.nx σ H')
  (k2:∀ (l':Lv) (ls':List Lv) (H':Hp),ls=l'::ls'->l.ps=[]->Zq K Ub Uc H' w l' ls' (shut f top) fs->Goes H H' (Bq Uc w (l::ls)) (Bq Uc w ls)->(∀ e o,H e=some o->e∉yS w (l::ls)->H' e=some o)->E.nx σ H'):tPopB K E σ H:=by
 obtain ⟨wa,wq,aq,wp,ap,qp,pn,ndl,out⟩:=j8 z.nd
 have hw:=z.whr'
 obtain ⟨hq,hp⟩:=z.lv l (by simp)
 have oq:l.q∈yS w (l::ls):=Ze.mpr (.inr ⟨l,by simp,.inr (.inl rfl)⟩)
 have ow:w∈yS w (l::ls):=Ze.mpr (.inl rfl)
 refine ⟨.ref w,g6,1,rfl,w,_,-1,.ref l.q,rfl,rfl,.inl (.inl hw),gx,.inl ⟨rfl,_,.inl (.inl hq)⟩,l.q,(l.a::l.ps).map V.ref,0,0,.ref l.a,rfl,rfl,hq,by decide,by decide,?_,rfl,?_⟩
 ·rw [Qg,Qd];unfold seqIndex?;simp
 have e1:((l.a::l.ps).map V.ref).eraseIdx 0=l.ps.map V.ref:=rfl
 rw [e1]
 have w1:upd H l.q (.lst (l.ps.map V.ref)) w=some (.lst ((ls.reverse.map fun x=>V.ref x.q)++[.ref l.q])):=by rw [zv wq];exact hw
 have q1:upd H l.q (.lst (l.ps.map V.ref)) l.q=some (.lst (l.ps.map V.ref)):=zu
 have n1:∀ e o,H e=some o->e≠l.q->upd H l.q (.lst (l.ps.map V.ref)) e=some o:=fun e o h n=>by rw [zv n];exact h
 generalize upd H l.q (.lst (l.ps.map V.ref))=H1 at *
 refine ⟨.ref w,g6,1,rfl,w,_,-1,.ref l.q,rfl,rfl,.inl (.inl w1),gx,by show 0<=Kg;decide,fun e he=>?_⟩
 have s2:zQ H1 (upd H1 e (.lst [])):=zx he
 have e2:upd H1 e (.lst []) e=some (.lst []):=zu
 generalize upd H1 e (.lst [])=H2 at *
 have n2:∀ e o,H e=some o->e≠l.q->H2 e=some o:=fun e o h n=>s2 _ _ (n1 e o h n)
 refine ⟨fun _=>False,.lst (l.ps.map fun _=>.lst []),.lst [],?_,?_,py_emps _,by decide,decide (l.ps=[]),?_,?_⟩
 ·simp only [Rep]
  exact ⟨l.q,_,rfl,⟨.inl (s2 _ _ q1),fun z=>z⟩,reps_reps fun c hc=>⟨n2 _ _ (hp c hc) fun z=>qp (z▸hc),fun z=>z⟩⟩
 ·simp only [Rep]
  exact ⟨e,[],rfl,⟨.inl e2,fun z=>z⟩,.nil⟩
 ·rw [KS Qi,eq_emps]
 ·cases hps:l.ps with
  | nil =>
   rw [KU rfl]
   refine ifT ?_
   cases ls with
   | nil=>exact absurd z.ch.len (by simp)
   | cons l' ls' =>
    have w2:=s2 _ _ w1
    refine ⟨.ref w,g6,.inl ⟨rfl,_,.inl (.inl w2)⟩,w,_,.ref l.q,rfl,rfl,w2,by simp,?_⟩
    rw [List.dropLast_concat]
    obtain ⟨zo,go⟩:=z.out (H':=upd H2 w (.lst ((l'::ls').reverse.map fun x=>V.ref x.q))) hps zu (fun e o h n n'=>by rw [zv n'];exact n2 e o h n)
    exact k2 l' ls' _ rfl hps zo go fun e o h n=>by
     rw [zv (show e≠w from fun z=>n (by rw [z];exact ow))]
     exact n2 e o h fun z=>n (by rw [z];exact oq)
  | cons p ps =>
   rw [KW (by simp)]
   refine ifF ?_
   obtain ⟨zn,gn⟩:=z.next (H':=H2) hps (by rw [<- hps];exact s2 _ _ q1) n2
   exact k1 p ps _ hps zn gn fun e o h n=>n2 e o h fun z=>n (by rw [z];exact oq)
end
theorem cutV_from {xs:List V} (k:Nat):gj xs (some (k:Int)) none=xs.drop k:=by
 unfold gj
 rw [HT.sIx_nat,HT.sIx_none]
 by_cases h2:k<=xs.length
 ·rw [Pl h2,PU (by simp)]
 ·rw [PP (by omega),List.drop_eq_nil_of_le (by omega:xs.length<=k),Pg];simp
abbrev tRest (K:KC) (n:Nat):TE:=Jk 1 (iTup K (tSl (rSlT K) (Zj 9) (tPart (tC (.int 1))) tNoPart)) (ZR n) tYes (Zj n)
section
variable {K:KC} {H:Hp} {σ:St}
theorem comp_rest {n:Nat} {b:Kc} {x:V} {vs:List V} {Q:VK} (hσ:σ.length=n) (g9:σ[9]?=some (some (.ref b))) (hb:SqT K H b (x::vs)) (hl:vs.length<=1000)
  (q:∀ (t e:Kc) (H':Hp),H t=none->e≠t->H e=none->H' e=some (.lst vs)->zQ H H'->Q (.ref e) H'):tRest K n σ H Q:=by
 refine ⟨.ref b,g9,1,rfl,b,x::vs,rfl,hb,?_,fun t ht=>?_⟩
 ·have:=HT.sIx_nat (x::vs).length 0 1
  rintro ⟨z,-⟩
  rw [show ((1:Int))=((1:Nat):Int) from rfl,HT.sIx_nat] at z
  simp only [Qd] at z
  omega
 have ec:gj (x::vs) (some 1) none=vs:=cutV_from 1
 rw [ec]
 have s1:zQ H (upd H t (.tup vs)):=zx ht
 have t1:upd H t (.tup vs) t=some (.tup vs):=zu
 have f1:∀ e,upd H t (.tup vs) e=none->e≠t/\H e=none:=fun e he=>by
  have h1:e≠t:=fun z=>by rw [z,zu] at he;cases he
  rw [zv h1] at he
  exact ⟨h1,he⟩
 generalize upd H t (.tup vs)=H1 at *
 refine ⟨t,rfl,⟨vs,.inl (.inl t1)⟩,fun e he=>?_⟩
 obtain ⟨et,hen⟩:=f1 e he
 refine ⟨fun i m ys σ' H'=>ys=vs.take i/\m=vs.length - i/\i<=vs.length/\H' e=some (.lst ys)/\(∀ a o,H1 a=some o->H' a=some o)/\∃ z,σ'=σ++[z],⟨vs.length,rfl,by simp,Pd _,zu,fun a o h=>?_,none,rfl⟩,?_⟩
 ·rw [zv (fun z=>by rw [z,he] at h;cases h)];exact h
 rintro i m ys σ' H' ⟨rfl,rfl,hi,he',hs,z,rfl⟩
 refine ⟨he',?_⟩
 have tt:=hs _ _ t1
 by_cases hlt:i<vs.length
 ·right
  refine ⟨⟨vs,vs[i],.inl (.inl tt),by simp [hlt]⟩,fun v H2 y=>?_⟩
  obtain ⟨rfl,hy⟩:=y
  have hv:=hy vs (.inl (.inl tt))
  rw [Qv hlt] at hv
  cases hv
  unfold ZR tYes
  dsimp only
  rw [KR rfl]
  have e1:(σ++[z]).set n (some vs[i])=σ++[some vs[i]]:=by
   rw [<- hσ,List.set_append_right _ _ (by omega)];simp
  refine ⟨vs[i],?_,he',by rw [QW];exact Pa (Nat.min_le_right _ _) (YJ (by omega)),vs.length - (i+1),by omega,?_,rfl,hlt,zu,fun a o h=>?_,some vs[i],e1⟩
  ·rw [e1,QP (by omega),<- hσ];simp
  ·rw [List.take_succ,Qv hlt];rfl
  ·rw [zv (fun z=>by rw [z,he] at h;cases h)];exact hs a o h
 ·left
  have hi':i=vs.length:=by omega
  subst hi'
  rw [List.take_length] at he'
  exact ⟨⟨vs,.inl (.inl tt),by simp⟩,q t e H' ht et hen he' fun a o h=>hs _ _ (s1 _ _ h)⟩
end
def jP:List V:=[.str "either",.str "loop"]
def addQ (deep:Int) (d:D) (top:List D) (fs:List Fr):Option (List D×List Fr):=match d with
 | .tup (.str x::ps)=>if top.length<Kg/\fs.length<1000/\ps.length<=1000 then
   if inV (.str x) jP=true/\((fs.length+1:Nat):Int)<deep then
    (if 0<ps.length/\ps.all (fun d=>match d with | .lst []=>true | _=>false)=true then some ([],⟨top,x,[],ps.tail⟩::fs) else none)
   else some (top++[d],fs)
  else none
 | _=>none
abbrev tAdd15 (K:KC):TS:=YI (tBM K "list" Ya (tOp (rIxL K) (tQ K) (tC (.int 0))) (zW (Zj 9) ZS))
abbrev tT15 (K:KC):TT:=tAnd (YH (tOp (rIn K false) (tOp (rIxT K) (Zj 9) (tC (.int 0))) (Wv (zW (tC (.str "either")) (zW (tC (.str "loop")) ZS))))) (YH (tOp (rI0 fun i j=>.bl (decide (i<j))) (tCB (lenR K) (zW (Zj 6) ZS)) (Zj 3)))
abbrev tPush15 (K:KC) (n:Nat):TS:=YI (tBM K "list" Ya (Zj 6) (zW (tRest K n) ZS))
abbrev tJoin15 (K:KC) (n:Nat):TS:=yF (tAdd15 K) (Wx (tT15 K) (tPush15 K n) Jj)
section
variable {K:KC} {Ub H2 H:Hp} {Uc:Kc->Prop} {w:Kc} {l:Lv} {ls:List Lv} {top top':List D} {fs fs':List Fr} {σ:St} {E:Ends}
theorem join15 {n:Nat} {b:Kc} {x:Kw} {ps:List D} {tr:List V} {deep:Int} (z:Zq K Ub Uc H2 w l ls top fs) (gr:zQ Ub H2) (hb0:∀ x,Uc x->∃ o,H2 x=some o) (s3:zQ H2 H) (hσ:σ.length=n) (g6:σ[6]?=some (some (.ref w))) (g9:σ[9]?=some (some (.ref b))) (g3:σ[3]?=some (some (.int deep)))
  (htup:SqT K H b (.str x::tr)) (hps:zm K H (Bq Uc w (l::ls)) ps tr) (alt:YR ps=true\/∃ cs:List Kc,ps=cs.map (fun _=>D.lst [])/\tr=cs.map V.ref/\cs.Nodup/\(∀ e∈cs,H2 e=none/\H e=some (.lst []))/\H b=some (.tup (.str x::cs.map V.ref)))
  (hs:addQ deep (.tup (.str x::ps)) top fs=some (top',fs'))
  (k:∀ (l':Lv) (ls':List Lv) (H':Hp),Zq K Ub Uc H' w l' ls' top' fs'->Goes H2 H' (Bq Uc w (l::ls)) (Bq Uc w (l'::ls'))->(∀ e o,H2 e=some o->e∉yS w (l::ls)->H' e=some o)->(l'::ls').getLast (by simp)=(l::ls).getLast (by simp)->E.nx σ H'):tJoin15 K n E σ H:=by
 unfold addQ at hs
 simp only at hs
 split at hs
 case isFalse=>cases hs
 rename_i hsz
 obtain ⟨wa,wq,aq,wp,ap,qp,pn,ndl,out⟩:=j8 z.nd
 have z3:=z.up s3
 have hw:=z3.whr'
 obtain ⟨hq,hp⟩:=z3.lv l (by simp)
 obtain ⟨vs,hv2,hvs⟩:=z.top
 have hv:=s3 _ _ hv2
 have oa:l.a∈yS w (l::ls):=Ze.mpr (.inr ⟨l,by simp,.inl rfl⟩)
 have ow:w∈yS w (l::ls):=Ze.mpr (.inl rfl)
 have hvl:vs.length<Kg:=by rw [hvs.length];exact hsz.1
 refine ⟨.ref w,g6,1,rfl,w,_,-1,.ref l.q,rfl,rfl,.inl (.inl hw),gx,l.q,(l.a::l.ps).map V.ref,0,.ref l.a,rfl,rfl,.inl (.inl hq),zw (j:=0) rfl,.inl ⟨rfl,vs,.inl (.inl hv)⟩,.ref b,g9,l.a,vs,.ref b,rfl,rfl,hv,hvl,?_⟩
 have gadd:Goes H (upd H l.a (.lst (vs++[.ref b]))) (Bq Uc w (l::ls)) (Bq Uc w (l::ls)):=.write (.inr oa) hv trivial
 have tup4:SqT K (upd H l.a (.lst (vs++[.ref b]))) b (.str x::tr):=by
  rcases htup with q | q
  ·exact .inl (gadd.tup _ _ q)
  ·exact .inr q
 have a4:upd H l.a (.lst (vs++[.ref b])) l.a=some (.lst (vs++[.ref b])):=zu
 have n4:∀ e o,H e=some o->e≠l.a->upd H l.a (.lst (vs++[.ref b])) e=some o:=fun e o h n=>by rw [zv n];exact h
 generalize upd H l.a (.lst (vs++[.ref b]))=H4 at *
 have w4:=n4 _ _ hw wa
 refine ⟨.ref b,g9,b,_,0,.str x,rfl,rfl,tup4,zw (j:=0) rfl,by show 2<=Kg;decide,fun e he=>⟨e,jP,rfl,.inr (.inl (.inl zu)),rfl,rfl,inV (.str x) jP,rfl,?_⟩⟩
 have s5:zQ H4 (upd H4 e (.tup [.str "either",.str "loop"])):=zx he
 generalize upd H4 e (.tup [V.str "either",V.str "loop"])=H5 at *
 have w5:=s5 _ _ w4
 have a5:=s5 _ _ a4
 have n5:∀ e o,H e=some o->e≠l.a->H5 e=some o:=fun e o h n=>s5 _ _ (n4 e o h n)
 have tup5:SqT K H5 b (.str x::tr):=SqT.same s5 tup4
 have wl:(((ls.reverse.map fun x=>V.ref x.q)++[.ref l.q]):List V).length=fs.length+1:=by
  have:=z.ch.len
  simp only [Qd] at this
  rw [Qj,Qg,List.length_reverse];simp only [Qd,QB];omega
 have plain:fs'=fs/\top'=top++[.tup (.str x::ps)]->E.nx σ H5:=by
  rintro ⟨rfl,rfl⟩
  have r':Rep K H (Bq Uc w (l::ls)) (.tup (.str x::ps)) (.ref b):=by
   simp only [Rep]
   exact ⟨b,_,rfl,htup,.cons (by simp [Rep]) hps⟩
  refine k l ls H5 (z3.add hv r' a5 n5) (Y8 (O:=fun e=>e=l.a) (fun e o h n=>n5 e o (s3 _ _ h) n) (fun e he=>by rw [he];exact .inr ⟨_,hv2⟩) (fun e xs he _=>.inr (by rw [he];exact oa)) fun e he=>.inl he) (fun e o h n=>n5 e o (s3 _ _ h) fun q=>n (by rw [q];exact oa)) rfl
 by_cases hin:inV (.str x) jP=true
 ·rw [hin]
  refine ifT ?_
  refine ⟨.ref w,g6,w,_,rfl,.inl (.inl (.inl w5)),.int deep,g3,_,deep,rfl,rfl,decide (((((ls.reverse.map fun x=>V.ref x.q)++[.ref l.q]):List V).length:Int)<deep),rfl,?_⟩
  by_cases hd:((fs.length+1:Nat):Int)<deep
  ·rw [wl,KU hd]
   refine ifT ?_
   rw [KR ⟨hin,hd⟩] at hs
   split at hs
   case isFalse=>cases hs
   rename_i hop
   cases hs
   have pe:=all_emp hop.2
   rcases alt with hfl | ⟨cs,rfl,rfl,hnd,hcs,hb'⟩
   ·exfalso
    cases ps with
    | nil=>simp at hop
    | cons q ps' =>
     have:=pe q (by simp)
     subst this
     simp [D.flat,YR] at hfl
   ·cases cs with
    | nil=>simp at hop
    | cons c cs =>
     refine ⟨.ref w,g6,.inl ⟨rfl,_,.inl (.inl w5)⟩,?_⟩
     show tRest K n σ H5 (fun x H1=>ZS σ H1 fun xs H2=>Ya (.ref w) (x::xs) H2 fun _ H1=>E.nx σ H1)
     refine comp_rest hσ g9 tup5 (by have:=hsz.2.2;simpa using this) fun t e' H6 ht net he' hq' s6=>?_
     refine ⟨w,_,.ref e',rfl,rfl,s6 _ _ w5,by rw [wl];exact YJ (by omega),?_⟩
     have ea:e'≠l.a:=fun q=>by rw [q,a5] at he';cases he'
     have ew:e'≠w:=fun q=>by rw [q,w5] at he';cases he'
     have h2n:∀ y,H5 y=none->H2 y=none:=fun y hy=>by
      cases q:H2 y with
      | none=>rfl
      | some o =>
       by_cases e:y=l.a
       ·rw [e,a5] at hy;cases hy
       ·rw [n5 y o (s3 _ _ q) e] at hy;cases hy
     have ec:∀ y∈c::cs,y≠l.a/\y≠w:=fun y hy=>by
      refine ⟨fun q=>?_,fun q=>?_⟩
      ·have:=(hcs y hy).1;rw [q,hv2] at this;cases this
      ·have:=(hcs y hy).1;rw [q,z.whr] at this;cases this
     have c5:∀ y∈c::cs,H5 y=some (.lst []):=fun y hy=>n5 _ _ (hcs y hy).2 (ec y hy).1
     have eq:∀ y∈c::cs,y≠e':=fun y hy q=>by have:=c5 y hy;rw [q,he'] at this;cases this
     have bl:b≠l.a:=fun q=>by rw [q,hv] at hb';cases hb'
     have bw:b≠w:=fun q=>by rw [q,hw] at hb';cases hb'
     have hn6:∀ y o,H2 y=some o->y≠l.a->y≠w->upd H6 w (.lst (((ls.reverse.map fun x=>V.ref x.q)++[.ref l.q])++[.ref e'])) y=some o:=fun y o h n1 n2=>by rw [zv n2];exact s6 _ _ (n5 _ _ (s3 _ _ h) n1)
     obtain ⟨zp,gp⟩:=z.push (H':=upd H6 w (.lst (((ls.reverse.map fun x=>V.ref x.q)++[.ref l.q])++[.ref e']))) gr hb0 hv2 (b:=b) (q:=e') (c:=c) (x:=x) (cs:=cs) (by
       have hc:=Qz.mp hnd
       refine Qz.mpr ⟨fun q=>?_,Qz.mpr ⟨fun q=>eq e' (Qe _ q) rfl,hc.2⟩⟩
       rcases Qc.mp q with q | q
       ·exact eq c (by simp) q
       ·exact hc.1 q) (fun y hy=>by
       rcases Qc.mp hy with rfl | hy
       ·exact (hcs _ (by simp)).1
       ·rcases Qc.mp hy with rfl | hy
        ·exact h2n _ he'
        ·exact (hcs _ (Qe _ hy)).1)
      (by rw [zv (Ne.symm wa)];exact s6 _ _ a5) (by rw [zv bw];exact s6 _ _ (n5 _ _ hb' bl)) (by rw [zv ew];exact hq') (fun y hy=>by rw [zv (ec y hy).2];exact s6 _ _ (c5 y hy)) (by rw [zu];simp) hn6
     have et:(List.map (fun _=>D.lst []) (c::cs)).tail=cs.map fun _=>D.lst []:=rfl
     rw [et] at k
     exact k _ _ _ zp gp (fun y o h n=>hn6 y o h (fun q=>n (by rw [q];exact oa)) fun q=>n (by rw [q];exact ow)) (by rw [Pq (by simp)])
  ·rw [wl,KW hd]
   refine ifF ?_
   rw [KS (fun q=>hd q.2)] at hs
   cases hs
   exact plain ⟨rfl,rfl⟩
 ·rw [Bool.eq_false_iff.mpr hin]
  refine ifF (ifF ?_)
  rw [KS (fun q=>hin q.1)] at hs
  cases hs
  exact plain ⟨rfl,rfl⟩
end
def popQ (top:List D):List Fr->Option (List D×List Fr)
 | f::fs=>match f.post with
  | []=>some (shut f top,fs)
  | _::ps=>some ([],⟨f.done,f.x,f.pre++[.lst top],ps⟩::fs)
 | []=>none
def evQ (ρ:Ev) (u:Int):Ev:=(((((ρ.set 5 none).set 6 none).set 9 none).set 10 none).set 8 none).set 7 (some (.int u))
def isRowT:D->Bool
 | .tup (.str _::_)=>true
 | _=>false
def stepQ (deep KO:Int) (ρ:Ev) (f c1 c2:Ev->Option D) (c:Int) (top:List D) (fs:List Fr) (u:Int):Option ((List D×List Fr)×Int) :=
 if c % 8=0/\0<fs.length then (popQ top fs).map fun r=>(r,u)
 else (f ((evQ ρ u).set 8 (some (.int c)))).bind fun d=>if isRowT d=true then (c1 (((evQ ρ u).set 8 (some (.int c))).set 9 (some d))).bind fun k1=>(c2 ((((evQ ρ u).set 8 (some (.int c))).set 9 (some d)).set 10 (some k1))).bind fun k2=>(asI k2).bind fun k =>
  if u+k<=KO then (addQ deep d top fs).map fun r=>(r,u+k) else some ((top,fs),u)
  else none
def goQ (deep KO:Int) (ρ:Ev) (f c1 c2:Ev->Option D):List Int->List D->List Fr->Int->Option (List D×Int)
 | [],top,fs,u=>some (ZA top fs,u)
 | c::cs,top,fs,u=>(stepQ deep KO ρ f c1 c2 c top fs u).bind fun r=>goQ deep KO ρ f c1 c2 cs r.1.1 r.1.2 r.2
abbrev tc8 (K:KC):TT:=tAnd (YH (tOp rEq (tOp (rI (fun _ j=>0<j) fun i j=>.int (i % j)) (Zj 8) (tC (.int 8))) (tC (.int 0)))) (YH (tOp (rI0 fun i j=>.bl (decide (j<i))) (tCB (lenR K) (zW (Zj 6) ZS)) (tC (.int 1))))
abbrev tSum15:TE:=tOp (rI0 fun i j=>.int (i+j)) (Zj 7) (Zj 10)
abbrev tCell15 (K:KC) (n:Nat) (te tk1 tk2:TE):TS:=Wx (tc8 K) (tPopB K) (yF (yG te (ZR 9)) (yF (yG tk1 (ZR 10)) (yF (yG tk2 (ZR 10)) (Wx (YH (tOp (rI0 fun i j=>.bl (decide (i<=j))) tSum15 (Zj 4))) (yF (yG tSum15 (ZR 7)) (tJoin15 K n)) Jj))))
theorem md_sub {K:KC} {Ub H:Hp} {B:Kc->Prop} {σ:St} {ρ ρ':Ev} (m:Md K Ub B [] σ H ρ) (hl:ρ'.length=ρ.length) (h:∀ (i:Nat) d,ρ'[i]?=some (some d)->ρ[i]?=some (some d)):Md K Ub B [] σ H ρ' :=
 ⟨m.grow,m.blk,by rw [hl];exact m.len,fun i d q n=>m.sh i d (h i d q) n,fun i hi=>(by cases hi),fun i j a hi=>by cases hi⟩
structure St15 (K:KC) (H:Hp) (Uc:Kc->Prop) (ρ:Ev) (p:Kc) (top:List D) (fs:List Fr) (u:Int) (r:Kc) (σ':St) (H':Hp):Prop where
 ex:∃ (w:Kc) (l:Lv) (ls:List Lv),Md K H (Bq Uc w (l::ls)) [] σ' H' (evQ ρ u)/\Zq K H Uc H' w l ls top fs/\σ'[6]?=some (some (.ref w))/\((l::ls).getLast (by simp)).a=r/\σ'[5]?=some (some (.ref r))/\σ'[0]?=some (some (.ref p))
section
variable {K:KC} {te tk1 tk2:TE} {f c1 c2:Ev->Option D} {H:Hp} {Uc:Kc->Prop} {ρ:Ev} {p r:Kc} {top top':List D} {fs fs':List Fr} {c u u' deep KO:Int} {N:St->Hp->Prop} {E:Ends}
theorem bq_le {w:Kc} {l:Lv} {ls:List Lv} {H':Hp} (hb:∀ x,Uc x->∃ o,H' x=some o) (z:Zq K H Uc H' w l ls top fs):∀ x,Bq Uc w (l::ls) x->∃ o,H' x=some o:=fun x h=>by
 rcases h with h | h
 ·exact hb x h
 ·obtain ⟨xs,q⟩:=z.lists x h;exact ⟨_,q⟩
theorem Yc:(evQ ρ u).length=ρ.length:=by unfold evQ;simp
theorem JC {i:Nat} (h:i≠5/\i≠6/\i≠7/\i≠8/\i≠9/\i≠10):(evQ ρ u)[i]?=ρ[i]?:=by
 unfold evQ
 rw [zc h.2.2.1,zc h.2.2.2.1,zc h.2.2.2.2.2,zc h.2.2.2.2.1,zc h.2.1,zc h.1]
theorem evQ_no {i:Nat} (h:i=5\/i=6\/i=8\/i=9\/i=10) {d:D}:(evQ ρ u)[i]?≠some (some d):=by
 unfold evQ
 intro q
 rw [zc (by omega)] at q
 by_cases h8:i=8
 ·subst h8;have:=yB q;cases this
 ·rw [zc h8] at q
  by_cases h10:i=10
  ·subst h10;have:=yB q;cases this
  ·rw [zc h10] at q
   by_cases h9:i=9
   ·subst h9;have:=yB q;cases this
   ·rw [zc h9] at q
    by_cases h6:i=6
    ·subst h6;have:=yB q;cases this
    ·rw [zc h6] at q
     have h5:i=5:=by omega
     subst h5;have:=yB q;cases this
theorem Wn {ρ':Ev} {u':Int} (hl:ρ'.length=ρ.length) (h7:ρ'[7]?=some (some (.int u'))) (h:∀ i,i≠5/\i≠6/\i≠7/\i≠8/\i≠9/\i≠10->ρ'[i]?=ρ[i]?):∀ (i:Nat) d,(evQ ρ u')[i]?=some (some d)->ρ'[i]?=some (some d):=fun i d q=>by
 by_cases h1:i=5\/i=6\/i=8\/i=9\/i=10
 ·exact absurd q (evQ_no h1)
 ·by_cases hi:i=7
  ·subst hi
   have:(evQ ρ u')[7]?=some (some (.int u')):=by
    unfold evQ
    rw [QG]
    have:=(Qh.mp h7).1
    simp only [Qp];omega
   rw [this] at q;cases q;exact h7
  ·rw [h i (by omega),<- JC (ρ:=ρ) (u:=u') (by omega)];exact q
theorem cell15 (hrow:∀ (Ub:Hp) (Uc:Kc->Prop) (σ:St) (H:Hp) (ρ:Ev) (d:D) (Q:VK),Md K Ub Uc [] σ H ρ->f ρ=some d->(∀ v H',zQ H H'->FR K H H' Uc d v->Q v H')->te σ H Q)
  (hk1:∀ (Ub:Hp) (Uc:Kc->Prop) (σ:St) (H:Hp) (ρ:Ev) (d:D) (Q:VK),Md K Ub Uc [] σ H ρ->c1 ρ=some d->(∀ v H',zQ H H'->Rep K H' Uc d v->Q v H')->tk1 σ H Q)
  (hk2:∀ (Ub:Hp) (Uc:Kc->Prop) (σ:St) (H:Hp) (ρ:Ev) (d:D) (Q:VK),Md K Ub Uc [] σ H ρ->c2 ρ=some d->(∀ v H',zQ H H'->Rep K H' Uc d v->Q v H')->tk2 σ H Q)
  {n:Nat} (hn:ρ.length=n) (hn2:10<n) (hb0:∀ x,Uc x->∃ o,H x=some o) (h3:ρ[3]?=some (some (.int deep))) (h4:ρ[4]?=some (some (.int KO)))
  {w:Kc} {l:Lv} {ls:List Lv} {σ:St} {H2:Hp} (md:Md K H (Bq Uc w (l::ls)) [] σ H2 ((evQ ρ u).set 8 (some (.int c)))) (z:Zq K H Uc H2 w l ls top fs) (g6:σ[6]?=some (some (.ref w))) (gr:((l::ls).getLast (by simp)).a=r) (g5:σ[5]?=some (some (.ref r))) (g0:σ[0]?=some (some (.ref p)))
  (hs:stepQ deep KO ρ f c1 c2 c top fs u=some ((top',fs'),u')) (hN:∀ σ' H',St15 K H Uc ρ p top' fs' u' r σ' H'->N σ' H') :
  tCell15 K n te tk1 tk2 { E with nx:=N,ct:=N } σ H2:=by
 have hlen:σ.length=n:=by rw [md.len,Qp,Yc,hn]
 have slot:∀ (i:Nat) (j:Int),((evQ ρ u).set 8 (some (.int c)))[i]?=some (some (.int j))->σ[i]?=some (some (.int j)):=fun i j q=>by
  obtain ⟨v,h1,h2⟩:=md.sh i _ q (by simp)
  simp only [Rep] at h2
  rw [h2] at h1;exact h1
 have s8:σ[8]?=some (some (.int c)):=slot 8 c (QG (by rw [Yc];omega))
 have e7:(evQ ρ u)[7]?=some (some (.int u)):=by unfold evQ;rw [QG (by simp only [Qp];omega)]
 have s7:σ[7]?=some (some (.int u)):=slot 7 u (by rw [zc (by decide)];exact e7)
 have s3':σ[3]?=some (some (.int deep)):=slot 3 deep (by rw [zc (by decide),JC (by decide)];exact h3)
 have s4':σ[4]?=some (some (.int KO)):=slot 4 KO (by rw [zc (by decide),JC (by decide)];exact h4)
 have wl:(((ls.reverse.map fun x=>V.ref x.q)++[.ref l.q]):List V).length=fs.length+1:=by
  have:=z.ch.len
  simp only [Qd] at this
  rw [Qj,Qg,List.length_reverse];simp only [Qd,QB];omega
 have other:¬ (c % 8=0/\0<fs.length)->yF (yG te (ZR 9)) (yF (yG tk1 (ZR 10)) (yF (yG tk2 (ZR 10)) (Wx (YH (tOp (rI0 fun i j=>.bl (decide (i<=j))) tSum15 (Zj 4))) (yF (yG tSum15 (ZR 7)) (tJoin15 K n)) Jj))) { E with nx:=N,ct:=N } σ H2:=fun hno=>by
  unfold stepQ at hs
  rw [KS hno] at hs
  obtain ⟨d,hd,hs1⟩:=zd hs
  split at hs1
  case isFalse=>cases hs1
  rename_i hrt
  obtain ⟨k1,hk1',hs2⟩:=zd hs1
  obtain ⟨k2,hk2',hs3⟩:=zd hs2
  obtain ⟨k,hk',hs4⟩:=zd hs3
  clear hs hs1 hs2 hs3
  have ek2:k2=.int k:=by cases k2 <;> simp only [asI] at hk' <;> cases hk';rfl
  subst ek2
  refine hrow _ _ σ H2 _ d _ md hd fun v H3 s3 fr=>?_
  have md3:=md.up s3
  obtain ⟨x,ps,rfl⟩:∃ x ps,d=.tup (.str x::ps):=by
   unfold isRowT at hrt
   split at hrt
   ·exact ⟨_,_,rfl⟩
   ·cases hrt
  obtain ⟨b,tr,rfl,htup,hps,alt⟩:∃ (b:Kc) (tr:List V),v=.ref b/\SqT K H3 b (.str x::tr)/\zm K H3 (Bq Uc w (l::ls)) ps tr/\(YR ps=true\/∃ cs:List Kc,ps=cs.map (fun _=>D.lst [])/\tr=cs.map V.ref/\cs.Nodup/\(∀ e∈cs,H2 e=none/\H3 e=some (.lst []))/\H3 b=some (.tup (.str x::cs.map V.ref))):=by
   rcases fr with ⟨_,q,_,_,_,hw⟩ | ⟨hfl,rep⟩ | ⟨b',x',cs,eb,ed,hnd,hls,hb'⟩
   ·cases q <;> simp only [Own] at hw
   ·simp only [Rep] at rep
    obtain ⟨b,ts,rfl,htup,hts⟩:=rep
    simp only [zm] at hts
    obtain ⟨tx,tr,rfl,hx,hps⟩:=hts
    simp only [Rep] at hx
    subst hx
    exact ⟨b,tr,rfl,htup,hps,.inl (by simpa [D.flat,YR] using hfl)⟩
   ·cases ed
    exact ⟨b',_,eb,.inl (.inl hb'),jg md.blk hls,.inr ⟨cs,rfl,rfl,hnd,hls,hb'⟩⟩
  have rd:Rep K H3 (Bq Uc w (l::ls)) (.tup (.str x::ps)) (.ref b):=by
   simp only [Rep]
   exact ⟨b,_,rfl,htup,.cons (by simp [Rep]) hps⟩
  have md9:Md K H (Bq Uc w (l::ls)) [] (σ.set 9 (some (.ref b))) H3 (((evQ ρ u).set 8 (some (.int c))).set 9 (some (.tup (.str x::ps)))):=md3.put (os':=[]) (fun _ z=>nomatch z) (fun _ z=>nomatch z) (by rw [YB];exact rd)
  refine hk1 _ _ _ H3 _ k1 _ md9 hk1' fun v1 H4 s4 r1=>?_
  have md10:=(md9.up s4).put (i:=10) (os':=[]) (v:=v1) (d:=k1) (fun _ z=>nomatch z) (fun _ z=>nomatch z) (by rw [YB];exact r1)
  refine hk2 _ _ _ H4 _ _ _ md10 hk2' fun v2 H5 s5 r2=>?_
  simp only [Rep] at r2
  subst r2
  have x7:((((σ.set 9 (some (.ref b))).set 10 (some v1)).set 10 (some (.int k))):St)[7]?=some (some (.int u)):=by rw [zc (by decide),zc (by decide),zc (by decide)];exact s7
  have x4:((((σ.set 9 (some (.ref b))).set 10 (some v1)).set 10 (some (.int k))):St)[4]?=some (some (.int KO)):=by rw [zc (by decide),zc (by decide),zc (by decide)];exact s4'
  have x10:((((σ.set 9 (some (.ref b))).set 10 (some v1)).set 10 (some (.int k))):St)[10]?=some (some (.int k)):=zL (by simp only [Qp];omega)
  refine ⟨.int u,x7,.int k,x10,u,k,rfl,rfl,.int KO,x4,u+k,KO,rfl,rfl,decide (u+k<=KO),rfl,?_⟩
  have s35:zQ H2 H5:=s3.trans (s4.trans s5)
  by_cases hm:u+k<=KO
  ·rw [KU hm]
   refine ifT ?_
   rw [KR hm] at hs4
   obtain ⟨rr,ha,e⟩:=map_some hs4
   cases e
   refine ⟨.int u,x7,.int k,x10,u,k,rfl,rfl,?_⟩
   have s45:zQ H3 H5:=s4.trans s5
   refine join15 z md.grow (fun y hy=>md.blk y (.inl hy)) s35 (by simp only [Qp];exact hlen) (by rw [zc (by decide),zc (by decide),zc (by decide),zc (by decide)];exact g6) (by rw [zc (by decide),zc (by decide),zc (by decide)];exact zL (by omega)) (by rw [zc (by decide),zc (by decide),zc (by decide),zc (by decide)];exact s3') (SqT.same s45 htup) (hps.up s45) ?_ ha fun l' ls' H' zq gq keep hlast=>?_
   ·rcases alt with h | ⟨cs,a1,a2,a3,a4,a5⟩
    ·exact .inl h
    ·exact .inr ⟨cs,a1,a2,a3,fun e he=>⟨(a4 e he).1,s45 _ _ (a4 e he).2⟩,s45 _ _ a5⟩
   ·have grow:zQ H H':=fun y o q=>keep y o (md.grow _ _ q) fun hm=>by rw [(z.new y hm).1] at q;cases q
    have m0:=md.go gq grow (bq_le (fun y hy=>by obtain ⟨o,q⟩:=hb0 y hy;exact ⟨o,grow _ _ q⟩) zq)
    have m1:=((((m0.forget (i:=9) (v:=some (.ref b)) (by simp)).forget (i:=10) (v:=some v1) (by simp)).forget (i:=10) (v:=some (.int k)) (by simp)).put (i:=7) (os':=[]) (v:=.int (u+k)) (d:=.int (u+k)) (fun _ z=>nomatch z) (fun _ z=>nomatch z) (by simp [Rep]))
    have m2:=md_sub m1 (ρ':=evQ ρ (u+k)) (by simp only [Qp,Yc]) (Wn (by simp only [Qp,Yc]) (QG (by simp only [Qp,Yc];omega)) fun i hi=>by
     rw [zc hi.2.2.1,zc hi.2.2.2.2.2,zc hi.2.2.2.2.2,zc hi.2.2.2.2.1,zc hi.2.2.2.1];exact JC hi)
    exact hN _ _ ⟨w,l',ls',m2,zq,by rw [zc (by decide),zc (by decide),zc (by decide),zc (by decide)];exact g6,by rw [hlast];exact gr,by rw [zc (by decide),zc (by decide),zc (by decide),zc (by decide)];exact g5,by rw [zc (by decide),zc (by decide),zc (by decide),zc (by decide)];exact g0⟩
  ·rw [KW hm]
   refine ifF ?_
   rw [KS hm] at hs4
   cases hs4
   have m1:=(md10.up s5).put (i:=10) (os':=[]) (v:=.int k) (d:=.int k) (fun _ z=>nomatch z) (fun _ z=>nomatch z) (by simp [Rep])
   have m2:=md_sub m1 (ρ':=evQ ρ u) (by simp only [Qp,Yc]) (Wn (by simp only [Qp,Yc]) (by rw [zc (by decide),zc (by decide),zc (by decide),zc (by decide)];exact e7) fun i hi=>by
    rw [zc hi.2.2.2.2.2,zc hi.2.2.2.2.2,zc hi.2.2.2.2.1,zc hi.2.2.2.1];exact JC hi)
   exact hN _ _ ⟨w,l,ls,m2,z.up s35,by rw [zc (by decide),zc (by decide),zc (by decide)];exact g6,gr,by rw [zc (by decide),zc (by decide),zc (by decide)];exact g5,by rw [zc (by decide),zc (by decide),zc (by decide)];exact g0⟩
 refine ⟨_,s8,c,8,rfl,rfl,(show (0:Int)<8 by decide),rfl,decide (c % 8=0),by rw [show (decide (V.int (c % 8)=V.int 0))=decide (c % 8=0) by simp],?_⟩
 by_cases h8:c % 8=0
 ·rw [KU h8]
  refine ifT ?_
  refine ⟨.ref w,g6,w,_,rfl,.inl (.inl (.inl z.whr')),_,1,rfl,rfl,decide ((1:Int)<(((ls.reverse.map fun x=>V.ref x.q)++[.ref l.q]):List V).length),rfl,?_⟩
  cases fs with
  | nil =>
   rw [KW (by rw [wl];simp)]
   refine ifF ?_
   exact other fun q=>absurd q.2 (by simp)
  | cons f0 fs0 =>
   rw [KU (by rw [wl];simp;omega)]
   refine ifT ?_
   unfold stepQ at hs
   rw [KR ⟨h8,by simp⟩] at hs
   obtain ⟨rr,hp,e⟩:=map_some hs
   cases e
   cases ls with
   | nil=>exact absurd z.ch.len (by simp)
   | cons l1 ls1 =>
    have hpost:f0.post=l.ps.map fun _=>D.lst []:=by
     obtain ⟨⟨_,_,_,_,_,_,_,q5⟩,_⟩:=z.ch
     exact q5
    have fin:∀ (l':Lv) (ls':List Lv) (H':Hp),Zq K H Uc H' w l' ls' top' fs'->Goes H2 H' (Bq Uc w (l::l1::ls1)) (Bq Uc w (l'::ls'))->(∀ e o,H2 e=some o->e∉yS w (l::l1::ls1)->H' e=some o)->(l'::ls').getLast (by simp)=(l::l1::ls1).getLast (by simp)->N σ H':=fun l' ls' H' zq gq keep hlast=>by
     have grow:zQ H H':=fun y o q=>keep y o (md.grow _ _ q) fun hm=>by rw [(z.new y hm).1] at q;cases q
     have m0:=md.go gq grow (bq_le (fun y hy=>by obtain ⟨o,q⟩:=hb0 y hy;exact ⟨o,grow _ _ q⟩) zq)
     have m2:=md_sub m0 (ρ':=evQ ρ u) (by simp only [Qp,Yc]) (Wn (by simp only [Qp,Yc]) (by rw [zc (by decide)];exact e7) fun i hi=>by
      rw [zc hi.2.2.2.1];exact JC hi)
     exact hN _ _ ⟨w,l',ls',m2,zq,g6,by rw [hlast];exact gr,g5,g0⟩
    refine pop15 z g6 (fun p' ps' H' hps zq gq keep=>?_) (fun l' ls' H' hls hps zq gq keep=>?_)
    ·unfold popQ at hp
     simp only [hpost,hps,Qr] at hp
     cases hp
     exact fin _ _ H' zq gq keep ((Pq (by simp)).trans (Pq (by simp)).symm)
    ·cases hls
     unfold popQ at hp
     simp only [hpost,hps,PJ] at hp
     cases hp
     exact fin _ _ H' zq gq keep (Pq (by simp)).symm
 ·rw [KW h8]
  refine ifF (ifF ?_)
  exact other fun q=>h8 q.1
end
def mB15 (f c1 c2:Ev->Option D):Ev->Option Out:=fun ρ=>((ρ[0]?.join).bind asL).bind fun ds=>(JU ds).bind fun cs=>((ρ[3]?.join).bind asI).bind fun deep=>((ρ[4]?.join).bind asI).bind fun KO =>
 if ρ.length=11 then (goQ deep KO ρ f c1 c2 cs [] [] 0).map fun r=>.rt (.tup [.lst r.1,.int r.2]) else none
abbrev tB15 (K:KC) (te tk1 tk2:TE):TS:=yF (yG (tLst ZS) (ZR 5)) (yF (yG (tLst (zW (tLst (zW (Zj 5) ZS)) ZS)) (ZR 6)) (yF (yG (tC (.int 0)) (ZR 7)) (yF (tFor (iList K (Zj 0)) (ZR 8) (tCell15 K 11 te tk1 tk2)) (wQ (Wv (zW (Zj 5) (zW (Zj 7) ZS)))))))
section
variable {K:KC} {te tk1 tk2:TE} {f c1 c2:Ev->Option D}
theorem sok_b15 {ol:List Nat} (hrow:∀ (Ub:Hp) (Uc:Kc->Prop) (σ:St) (H:Hp) (ρ:Ev) (d:D) (Q:VK),Md K Ub Uc [] σ H ρ->f ρ=some d->(∀ v H',zQ H H'->FR K H H' Uc d v->Q v H')->te σ H Q)
  (hk1:∀ (Ub:Hp) (Uc:Kc->Prop) (σ:St) (H:Hp) (ρ:Ev) (d:D) (Q:VK),Md K Ub Uc [] σ H ρ->c1 ρ=some d->(∀ v H',zQ H H'->Rep K H' Uc d v->Q v H')->tk1 σ H Q)
  (hk2:∀ (Ub:Hp) (Uc:Kc->Prop) (σ:St) (H:Hp) (ρ:Ev) (d:D) (Q:VK),Md K Ub Uc [] σ H ρ->c2 ρ=some d->(∀ v H',zQ H H'->Rep K H' Uc d v->Q v H')->tk2 σ H Q):SOk K false [] [] ol (tB15 K te tk1 tk2) (mB15 f c1 c2):=by
 intro Ub Uc σ H ρ o E mm q k
 obtain ⟨ds,q1,q2⟩:=zd q
 obtain ⟨x0,q3,q4⟩:=zd q1
 obtain ⟨cs,q5,q6⟩:=zd q2
 obtain ⟨deep,q8,q9⟩:=zd q6
 obtain ⟨y3,q10,q11⟩:=zd q8
 obtain ⟨KO,q12,q13⟩:=zd q9
 obtain ⟨y4,q14,q15⟩:=zd q12
 split at q13
 case isFalse=>cases q13
 rename_i hlen
 obtain ⟨res,q7,rfl⟩:=map_some q13
 have e3:y3=.int deep:=by cases y3 <;> simp only [asI] at q11 <;> cases q11;rfl
 have e4:y4=.int KO:=by cases y4 <;> simp only [asI] at q15 <;> cases q15;rfl
 subst e3 e4
 cases x0 <;> simp only [asL] at q4 <;> cases q4
 have eds:=W0 q5
 subst eds
 obtain ⟨v0,h0,r0⟩:=mm.sh 0 _ (Ye q3) (by simp)
 simp only [Rep] at r0
 obtain ⟨p,xs0,rfl,hl0,hr0⟩:=r0
 have e0:=hr0.ints'
 subst e0
 have hσ:σ.length=11:=by rw [mm.len];exact hlen
 have mb:=mm.base
 refine ⟨by show 0<=Kg;decide,fun a ha=>?_⟩
 have s1:zQ H (upd H a (.lst [])):=zx ha
 refine ⟨.ref a,zL (by rw [hσ];decide),by show 1<=Kg;decide,fun qa hqa=>⟨by show 1<=Kg;decide,fun w hw=>?_⟩⟩
 have qne:qa≠a:=fun e=>by rw [e,zu] at hqa;cases hqa
 have s2:zQ (upd H a (.lst [])) (upd (upd H a (.lst [])) qa (.lst [.ref a])):=zx hqa
 have wq:w≠qa:=fun e=>by rw [e,zu] at hw;cases hw
 have wa:w≠a:=fun e=>by rw [e,zv (Ne.symm qne),zu] at hw;cases hw
 have s3:zQ (upd (upd H a (.lst [])) qa (.lst [.ref a])) (upd (upd (upd H a (.lst [])) qa (.lst [.ref a])) w (.lst [.ref qa])):=zx hw
 have hqH:H qa=none:=s1.free hqa
 have hwH:H w=none:=s1.free (s2.free hw)
 have nB:∀ y,H y=none->¬ Uc y:=fun y hy hb=>by obtain ⟨u,qu⟩:=mm.blk y hb;rw [hy] at qu;cases qu
 have a3:upd (upd (upd H a (.lst [])) qa (.lst [.ref a])) w (.lst [.ref qa]) a=some (.lst []):=by rw [zv (Ne.symm wa),zv (Ne.symm qne),zu]
 have q3':upd (upd (upd H a (.lst [])) qa (.lst [.ref a])) w (.lst [.ref qa]) qa=some (.lst [.ref a]):=by rw [zv (Ne.symm wq),zu]
 have w3:upd (upd (upd H a (.lst [])) qa (.lst [.ref a])) w (.lst [.ref qa]) w=some (.lst [.ref qa]):=zu
 have s13:=s1.trans (s2.trans s3)
 generalize upd (upd (upd H a (.lst [])) qa (.lst [.ref a])) w (.lst [V.ref qa])=H3 at *
 have own3:∀ y∈yS w [⟨a,qa,[]⟩],H y=none:=fun y hy=>by
  rcases Ze.mp hy with rfl | ⟨v,hv,h⟩
  ·exact hwH
  ·rw [Qo.mp hv] at h
   rcases h with rfl | rfl | h
   ·exact ha
   ·exact hqH
   ·cases h
 have z0:Zq K H Uc H3 w ⟨a,qa,[]⟩ [] [] []:=by
  refine ⟨w3,⟨[],a3,.nil⟩,fun v hv=>?_,trivial,?_,fun y hy=>⟨own3 y hy,nB y (own3 y hy)⟩⟩
  ·rw [Qo.mp hv];exact ⟨q3',fun p hp=>by cases hp⟩
  ·simp [yS,Lv.own,wa,wq,Ne.symm qne]
 have g13:Goes H H3 Uc (Bq Uc w [⟨a,qa,[]⟩]):=Y8 (O:=fun _=>False) (fun e o h _=>s13 _ _ h) (fun e z=>z.elim) (fun e xs z=>z.elim) (fun e he=>by
  rcases he with he | he
  ·exact .inl he
  ·exact .inr (own3 e he))
 have m2:Md K H (Bq Uc w [⟨a,qa,[]⟩]) [] (((σ.set 5 (some (.ref a))).set 6 (some (.ref w))).set 7 (some (.int 0))) H3 (evQ ρ 0):=by
  have m:=mb.go g13 s13 (bq_le (fun y hy=>by obtain ⟨u,qu⟩:=mm.blk y hy;exact ⟨u,s13 _ _ qu⟩) z0)
  have m1:=((m.forget (i:=5) (v:=some (.ref a)) (by simp)).forget (i:=6) (v:=some (.ref w)) (by simp)).put (i:=7) (os':=[]) (v:=.int 0) (d:=.int 0) (fun _ z=>nomatch z) (fun _ z=>nomatch z) (by simp [Rep])
  exact md_sub m1 (by simp only [Qp,Yc]) (Wn (by simp only [Qp]) (QG (by simp only [Qp];omega)) fun i hi=>by
   rw [zc hi.2.2.1,zc hi.2.1,zc hi.1])
 have st0:St15 K H Uc ρ p [] [] 0 a (((σ.set 5 (some (.ref a))).set 6 (some (.ref w))).set 7 (some (.int 0))) H3:=by
  refine ⟨w,⟨a,qa,[]⟩,[],m2,z0,?_,rfl,?_,?_⟩
  ·rw [zc (by decide)];exact zL (by simp [hσ])
  ·rw [zc (by decide),zc (by decide)];exact zL (by rw [hσ];decide)
  ·rw [zc (by decide),zc (by decide),zc (by decide)];exact h0
 have e00:∀ u,(evQ ρ u)[0]?=some (some (.lst (cs.map .int))):=fun u=>by
  rw [JC (by decide)];exact Ye q3
 have cells:∀ {top fs u σ' H'},St15 K H Uc ρ p top fs u a σ' H'->SqL K H' p (cs.map V.int):=fun {top fs u σ' H'} st=>by
  obtain ⟨w',l',ls',md,-,-,-,-,g0⟩:=st.ex
  obtain ⟨v,u1,u2⟩:=md.sh 0 _ (e00 u) (by simp)
  rw [g0] at u1;cases u1
  simp only [Rep] at u2
  obtain ⟨p',xs,ep,hl,hr⟩:=u2
  cases ep
  rw [hr.ints'] at hl
  exact hl.sq
 have h0':((((σ.set 5 (some (V.ref a))).set 6 (some (.ref w))).set 7 (some (.int 0))):St)[0]?=some (some (.ref p)):=by
  rw [zc (by decide),zc (by decide),zc (by decide)];exact h0
 refine ⟨.ref p,h0',p,rfl,⟨_,cells st0⟩,?_⟩
 refine ⟨fun i n σ' H'=>n=cs.length - i/\i<=cs.length/\∃ top fs u,St15 K H Uc ρ p top fs u a σ' H'/\goQ deep KO ρ f c1 c2 (cs.drop i) top fs u=some res,⟨cs.length,by simp,Pd _,[],[],0,st0,by simpa using q7⟩,?_⟩
 rintro i n σ' H' ⟨rfl,hile,top,fs,u,st,hg⟩
 have hc:=cells st
 by_cases hlt:i<cs.length
 ·right
  rw [Pb hlt] at hg
  simp only [goQ] at hg
  obtain ⟨⟨⟨top',fs'⟩,u'⟩,r3,r4⟩:=zd hg
  refine ⟨⟨_,.int cs[i],hc,by simp [hlt]⟩,fun σ2 H3=>St15 K H Uc ρ p top' fs' u' a σ2 H3,fun σ2 H3 st2=>⟨cs.length - (i+1),by omega,rfl,hlt,top',fs',u',st2,r4⟩,fun x H3 y=>?_⟩
  obtain ⟨rfl,hy⟩:=y
  have hx:=hy _ hc
  rw [QO,Qv hlt] at hx
  cases hx
  obtain ⟨w',l',ls',md,zp,g6,gl,g5,g0⟩:=st.ex
  have md2:=md.put (i:=8) (os':=[]) (v:=.int cs[i]) (d:=.int cs[i]) (fun _ z=>nomatch z) (fun _ z=>nomatch z) (by simp [Rep])
  exact cell15 (E:={ nx:=fun _ _=>True,rt:=E.rt,bk:=wQ (Wv (zW (Zj 5) (zW (Zj 7) ZS))) E,ct:=fun _ _=>True }) hrow hk1 hk2 hlen (by decide) mm.blk (Ye q10) (Ye q14) md2 zp (by rw [zc (by decide)];exact g6) gl (by rw [zc (by decide)];exact g5) (by rw [zc (by decide)];exact g0) r3 fun σ2 H4 h=>h
 ·left
  have hi:i=cs.length:=by omega
  subst hi
  rw [Pg] at hg
  cases hg
  refine ⟨⟨_,hc,by simp⟩,?_⟩
  obtain ⟨w',l',ls',md,zp,g6,gl,g5,g0⟩:=st.ex
  have s7:σ'[7]?=some (some (.int u)):=by
   obtain ⟨v,h1,h2⟩:=md.sh 7 (.int u) (by unfold evQ;rw [QG (by simp only [Qp];omega)]) (by simp)
   simp only [Rep] at h2
   rw [h2] at h1;exact h1
  refine ⟨.ref a,g5,.int u,s7,by show 2<=Kg;decide,fun t ht=>?_⟩
  have st':zQ H' (upd H' t (.tup [.ref a,.int u])):=zx ht
  have hr:=zp.root
  rw [gl] at hr
  refine k _ _ ((mm.grow.trans md.grow).trans st') (fun y hy=>by obtain ⟨o,q⟩:=md.blk y (.inl hy);exact ⟨o,st' _ _ q⟩) ?_
  simp only [Rep]
  exact ⟨t,_,rfl,.inl (.inl zu),.cons (hr.up st') (.cons (by simp [Rep]) .nil)⟩
end
theorem sss_b15 {X:Cx} {ol:List Nat} {s1 s2 s3 s5:Kx} {a zX:List Kx} {tg it t9 t10 t11 c8:Kv} {p9 p10 p11 pi pf:KB} {te tk1 tk2:TE} {f c1 c2:Ev->Option D} {er e1 e2:Kv} (hr:SR X true [] er te f) (h1:SE X true [] e1 tk1 c1) (h2:SE X true [] e2 tk2 c2)
  (hp:PE X er te->PE X e1 tk1->PE X e2 tk2->PSs X [s1,s2,s3,.For tg it [.If c8 a (.Assign [t9] er p9::.Assign [t10] e1 p10::.Assign [t11] e2 p11::zX) pi] [] pf,s5] (tB15 X.K te tk1 tk2)) :
  SSs X false [] [] ol [s1,s2,s3,.For tg it [.If c8 a (.Assign [t9] er p9::.Assign [t10] e1 p10::.Assign [t11] e2 p11::zX) pi] [] pf,s5] (tB15 X.K te tk1 tk2) (mB15 f c1 c2):=by
 have e:∀ (Uc:Kc->Prop) (σ:St),BB true Uc [] σ=Uc:=fun Uc σ=>YB
 exact ⟨hp hr.pe h1.pe h2.pe,sok_b15 (fun Ub Uc σ H ρ d Q md hf k=>hr.ok Ub Uc σ H ρ d Q md hf fun v H' s fr=>k v H' s (by rw [e] at fr;exact fr)) (fun Ub Uc σ H ρ d Q md hf k=>h1.ok Ub Uc σ H ρ d Q md hf fun v H' s fr=>k v H' s (by rw [e] at fr;exact fr)) (fun Ub Uc σ H ρ d Q md hf k=>h2.ok Ub Uc σ H ρ d Q md hf fun v H' s fr=>k v H' s (by rw [e] at fr;exact fr))⟩
structure Kd where
 hd:KC->Hp->(Kc->Prop)->(Kc->Prop)->Kc->List D->Prop
 mtb:∀ {K:KC} {H:Hp} {B P:Kc->Prop} {h:Kc} {S:List D},hd K H B P h S->∀ b,P b->∃ o,H b=some o/\Mut (some o)
 goes:∀ {K:KC} {H H':Hp} {B B' P:Kc->Prop} {h:Kc} {S:List D},hd K H B P h S->Goes H H' B B'->(∀ b o,P b->H b=some o->H' b=some o)->hd K H' B' P h S
def kL:Kd where
 hd K H B P h S:=(∀ b,P b↔b=h)/\∃ hs,H h=some (.lst hs)/\zm K H B S hs
 mtb:=fun ⟨p,hs,e,_⟩ b hb=>⟨.lst hs,by rw [(p b).1 hb];exact e,trivial⟩
 goes:=fun ⟨p,hs,e,r⟩ g k=>⟨p,hs,k _ _ ((p _).2 rfl) e,zm.goes g _ _ r⟩
section
variable {K:KC} {κ:Kd} {Ub H H':Hp} {Uc P:Kc->Prop} {os:List Nat} {σ:St} {ρ:Ev} {h:Kc} {i:Nat} {S S':List D}
theorem Yf {B B' P:Kc->Prop} (h1:∀ e o,H e=some o->¬ P e->H' e=some o) (hm:∀ e o,P e->H e=some o->Mut (some o)) (hP:∀ e,P e->B e) (hB:∀ e,B' e->B e\/H e=none):Goes H H' B B':=by
 have nm:∀ e o,H e=some o->¬ Mut (some o)->H' e=some o:=fun e o q n=>h1 _ _ q fun z=>n (hm _ _ z q)
 have nb:∀ e o,H e=some o->¬ B e->H' e=some o/\¬ B' e:=fun e o q n=>⟨h1 _ _ q fun z=>n (hP _ z),fun z=>(hB e z).elim n fun z=>by rw [q] at z;cases z⟩
 refine ⟨fun a xs q=>?_,fun a xs q n=>?_,fun a KP q n=>nb _ _ q n,fun a o u q=>nm _ _ q fun z=>z,fun a xs q=>nm _ _ q fun z=>z⟩
 ·rcases q with q | ⟨o,q⟩
  ·exact .inl (nm _ _ q fun z=>z)
  ·exact .inr ⟨o,nm _ _ q fun z=>z⟩
 ·rcases q with q | ⟨o,q⟩
  ·exact ⟨.inl (nb _ _ q n).1,(nb _ _ q n).2⟩
  ·exact ⟨.inr ⟨o,(nb _ _ q n).1⟩,(nb _ _ q n).2⟩
theorem md_but {P:Kc->Prop} (m:Md K Ub Uc os σ H ρ) (hB:∀ b,P b->Uc b) (hn:∀ b,P b->Ub b=none) (hm:∀ b,P b->∃ o,H b=some o/\Mut (some o)) (hk:∀ b o,H b=some o->¬ P b->H' b=some o) (he:∀ b,P b->∃ o,H' b=some o):Md K Ub Uc os σ H' ρ/\Goes H H' (Bl Uc os σ) (Bl Uc os σ):=by
 have g:Goes H H' (Bl Uc os σ) (Bl Uc os σ):=Yf hk (fun e o z q=>by obtain ⟨o',q',n⟩:=hm e z;rw [q] at q';cases q';exact n) (fun e z=>.inl (hB e z)) fun e z=>.inl z
 refine ⟨⟨fun b u q=>hk _ _ (m.grow _ _ q) fun e=>(by rw [hn b e] at q;cases q),fun b hb=>?_,m.len,fun j d q n=>?_,fun j hj=>?_,m.sep⟩,g⟩
 ·by_cases e:P b
  ·exact he b e
  ·obtain ⟨o,q⟩:=m.blk b hb;exact ⟨o,hk _ _ q e⟩
 ·obtain ⟨v,h1,h2⟩:=m.sh j d q n
  exact ⟨v,h1,Rep.goes g _ _ h2⟩
 ·obtain ⟨a,u,d,h1,h2,h3,h4,h5⟩:=m.own j hj
  exact ⟨a,u,d,h1,h2,hk _ _ h3 (fun e=>h4.2 (hB a e)),h4,h5.goes g⟩
structure Wd (K:KC) (κ:Kd) (Ub:Hp) (Uc P:Kc->Prop) (os:List Nat) (i:Nat) (h:Kc) (S:List D) (σ:St) (H:Hp) (ρ:Ev):Prop where
 md:Md K Ub Uc os σ H ρ
 blk:∀ b,P b->Uc b
 new:∀ b,P b->Ub b=none
 at_:κ.hd K H (Bl Uc os σ) P h S
 slot:ρ[i]?=some (some (.adr h))
 off:i∉os
theorem Wd.ref (w:Wd K κ Ub Uc P os i h S σ H ρ):σ[i]?=some (some (.ref h)):=by
 obtain ⟨v,h1,h2⟩:=w.md.sh i _ w.slot w.off
 simp only [Rep] at h2
 rw [h2] at h1;exact h1
theorem Wd.write (w:Wd K κ Ub Uc P os i h S σ H ρ) (hk:∀ b o,H b=some o->¬ P b->H' b=some o) (r:κ.hd K H' (Bl Uc os σ) P h S'):Wd K κ Ub Uc P os i h S' σ H' ρ :=
 ⟨(md_but w.md w.blk w.new (κ.mtb w.at_) hk fun b z=>by obtain ⟨o,q,_⟩:=κ.mtb r b z;exact ⟨o,q⟩).1,w.blk,w.new,r,w.slot,w.off⟩
theorem Wd.goes (w:Wd K κ Ub Uc P os i h S σ H ρ) (hk:∀ b o,H b=some o->¬ P b->H' b=some o):Goes H H' (Bl Uc os σ) (Bl Uc os σ) :=
 Yf hk (fun e o z q=>by obtain ⟨o',q',n⟩:=κ.mtb w.at_ e z;rw [q] at q';cases q';exact n) (fun e z=>.inl (w.blk e z)) fun e z=>.inl z
def Yh (K:KC) (κ:Kd) (st:Bool) (os:List Nat) (i:Nat) (t:TE) (F:Ev->List D->Option (D×List D)):Prop :=
 ∀ (Ub:Hp) (Uc P:Kc->Prop) (h:Kc) (σ:St) (H:Hp) (ρ:Ev) (S:List D) (d:D) (S':List D) (Q:VK),Wd K κ Ub Uc P os i h S σ H ρ->F ρ S=some (d,S') ->
  (∀ v H',(∀ b o,H b=some o->¬ P b->H' b=some o)->Wd K κ Ub Uc P os i h S' σ H' ρ->Rep K H' (BB st Uc os σ) d v->Q v H')->t σ H Q
def WAOk (K:KC) (κ:Kd) (os:List Nat) (i:Nat) (t:TA) (F:Ev->List D->Option (List D×List D)):Prop :=
 ∀ (Ub:Hp) (Uc P:Kc->Prop) (h:Kc) (σ:St) (H:Hp) (ρ:Ev) (S:List D) (ds:List D) (S':List D) (Q:List V->Hp->Prop),Wd K κ Ub Uc P os i h S σ H ρ->F ρ S=some (ds,S') ->
  (∀ vs H',(∀ b o,H b=some o->¬ P b->H' b=some o)->Wd K κ Ub Uc P os i h S' σ H' ρ->zm K H' (Bl Uc os σ) ds vs->Q vs H')->t σ H Q
def WFOk (K:KC) (κ:Kd) (os:List Nat) (i:Nat) (t:TE) (F:Ev->List D->Option (D×List D)):Prop :=
 ∀ (Ub:Hp) (Uc P:Kc->Prop) (h:Kc) (σ:St) (H:Hp) (ρ:Ev) (S:List D) (d:D) (S':List D) (Q:VK),Wd K κ Ub Uc P os i h S σ H ρ->F ρ S=some (d,S') ->
  (∀ a o H',(∀ b o,H b=some o->¬ P b->H' b=some o)->Wd K κ Ub Uc P os i h S' σ H' ρ->H a=none->H' a=some o->Own K H' (fun b=>Bl Uc os σ b\/b=a) o d->κ.hd K H' (fun b=>Bl Uc os σ b\/b=a) P h S'->Q (.ref a) H')->t σ H Q
def wL {α:Type} (f:Ev->Option α):Ev->List D->Option (α×List D):=fun ρ S=>(f ρ).map fun d=>(d,S)
theorem Wd.up (w:Wd K κ Ub Uc P os i h S σ H ρ) (s:zQ H H'):Wd K κ Ub Uc P os i h S σ H' ρ :=
 ⟨w.md.up s,w.blk,w.new,κ.goes w.at_ (w.goes fun b o q _=>s _ _ q) fun b o _ q=>s _ _ q,w.slot,w.off⟩
theorem we_lift {st:Bool} {t:TE} {f:Ev->Option D} (e:EOk K st os t f):Yh K κ st os i t (wL f):=fun Ub Uc P h σ H ρ S d S' Q w q k=>by
 obtain ⟨d',q1,q2⟩:=map_some q
 cases q2
 exact e Ub Uc σ H ρ d Q w.md q1 fun v H' s r=>k v H' (fun b o q _=>s _ _ q) (w.up s) r
theorem wa_lift {t:TA} {f:Ev->Option (List D)} (e:AOk K true os t f):WAOk K κ os i t (wL f):=fun Ub Uc P h σ H ρ S d S' Q w q k=>by
 obtain ⟨d',q1,q2⟩:=map_some q
 cases q2
 exact e Ub Uc σ H ρ d Q w.md q1 fun v H' s r=>k v H' (fun b o q _=>s _ _ q) (w.up s) r
def WEnd (K:KC) (κ:Kd) (Ub:Hp) (Uc P:Kc->Prop) (os' ol:List Nat) (i:Nat) (h:Kc) (E:Ends):Out->List D->Prop
 | .nx ρ',S'=>∀ σ' H',Wd K κ Ub Uc P os' i h S' σ' H' ρ'->E.nx σ' H'
 | .rt d,S'=>∀ v H',zQ Ub H'->κ.hd K H' Uc P h S'->(∀ b,Uc b->∃ o,H' b=some o)->Rep K H' Uc d v->E.rt v H'
 | .bk ρ',S'=>∀ σ' H',Wd K κ Ub Uc P ol i h S' σ' H' ρ'->E.bk σ' H'
 | .ct ρ',S'=>∀ σ' H',Wd K κ Ub Uc P ol i h S' σ' H' ρ'->E.ct σ' H'
def WOk (K:KC) (κ:Kd) (os os' ol:List Nat) (i:Nat) (t:TS) (M:Ev->List D->Option (Out×List D)):Prop :=
 ∀ (Ub:Hp) (Uc P:Kc->Prop) (h:Kc) (σ:St) (H:Hp) (ρ:Ev) (S:List D) (o:Out) (S':List D) (E:Ends),Wd K κ Ub Uc P os i h S σ H ρ->M ρ S=some (o,S')->WEnd K κ Ub Uc P os' ol i h E o S'->t E σ H
open Classical in
def bare (os:List Nat) (σ:St) (H:Hp):Hp:=fun b=>if ∃ j,j∈os/\σ[j]?=some (some (.ref b)) then none else H b
theorem bare_own {b:Kc} (hb:∃ j,j∈os/\σ[j]?=some (some (.ref b))):bare os σ H b=none:=KR hb
theorem bare_no {b:Kc} (hb:¬ ∃ j,j∈os/\σ[j]?=some (some (.ref b))):bare os σ H b=H b:=KS hb
end
abbrev WF:=Ev->List D->Option (D×List D)
abbrev WM:=Ev->List D->Option (Out×List D)
section
variable {K:KC} {κ:Kd} {os os1 os' ol:List Nat} {i:Nat} {t u:TS} {M1 M2:WM} {Ub H H':Hp} {Uc P:Kc->Prop} {σ:St} {ρ:Ev} {h:Kc} {S S':List D}
theorem Rep.low {st:Bool} {d:D} {v:V} (r:Rep K H (Bl Uc os σ) d v):Rep K H (BB st Uc os σ) d v:=by
 cases st with
 | true=>exact r
 | false=>exact Rep.goes (Goes.less (B:=Bl Uc os σ) (fun a ha=>Or.inl ha) (.refl H)) _ _ r
def yo (M1 M2:WM):WM:=fun ρ S=>(M1 ρ S).bind fun r=>match r.1 with
 | .nx ρ'=>M2 ρ' r.2
 | o=>some (o,r.2)
theorem ws_seq (h1:WOk K κ os os1 ol i t M1) (h2:WOk K κ os1 os' ol i u M2):WOk K κ os os' ol i (yF t u) (yo M1 M2):=fun Ub Uc P h σ H ρ S o S' E w q k=>by
 obtain ⟨⟨o1,S1⟩,q1,q2⟩:=zd q
 refine h1 Ub Uc P h σ H ρ S o1 S1 _ w q1 ?_
 cases o1 with
 | nx ρ'=>exact fun σ' H' w'=>h2 Ub Uc P h σ' H' ρ' S1 o S' E w' q2 k
 | rt d=>cases q2;exact k
 | bk ρ'=>cases q2;exact k
 | ct ρ'=>cases q2;exact k
def WTOk (K:KC) (κ:Kd) (os:List Nat) (i:Nat) (t:TT) (c:Ev->List D->Option (Bool×List D)):Prop :=
 ∀ (Ub:Hp) (Uc P:Kc->Prop) (h:Kc) (σ:St) (H:Hp) (ρ:Ev) (S:List D) (b:Bool) (S':List D) (Q:Bool->Hp->Prop),Wd K κ Ub Uc P os i h S σ H ρ->c ρ S=some (b,S') ->
  (∀ H',(∀ b o,H b=some o->¬ P b->H' b=some o)->Wd K κ Ub Uc P os i h S' σ H' ρ->Q b H')->t σ H Q
theorem wt_lift {t:TT} {c:Ev->Option Bool} (hc:TOk K os t c):WTOk K κ os i t (wL c):=fun Ub Uc P h σ H ρ S b S' Q w q k=>by
 obtain ⟨d',q1,q2⟩:=map_some q
 cases q2
 exact hc Ub Uc σ H ρ b Q w.md q1 fun H' s=>k H' (fun b o q _=>s _ _ q) (w.up s)
def wTest (F:WF):Ev->List D->Option (Bool×List D):=fun ρ S=>(F ρ S).bind fun r=>(asB r.1).map fun b=>(b,r.2)
theorem wt_val {te:TE} {F:WF} (he:Yh K κ false os i te F):WTOk K κ os i (YH te) (wTest F):=fun Ub Uc P h σ H ρ S b S' Q w q k=>by
 obtain ⟨⟨x,S1⟩,h1,h2⟩:=zd q
 obtain ⟨c,h3,h4⟩:=map_some h2
 cases h4
 refine he Ub Uc P h σ H ρ S x S1 _ w h1 fun v H' hk w' r=>?_
 cases x <;> simp only [asB] at h3 <;> cases h3
 simp only [Rep] at r
 exact ⟨_,r,k H' hk w'⟩
def wIf (c:Ev->List D->Option (Bool×List D)) (M1 M2:WM):WM:=fun ρ S=>(c ρ S).bind fun r=>if r.1 then M1 ρ r.2 else M2 ρ r.2
theorem ws_if {tc:TT} {c:Ev->List D->Option (Bool×List D)} (hc:WTOk K κ os i tc c) (h1:WOk K κ os os' ol i t M1) (h2:WOk K κ os os' ol i u M2):WOk K κ os os' ol i (Wx tc t u) (wIf c M1 M2):=fun Ub Uc P h σ H ρ S o S' E w q k=>by
 obtain ⟨⟨b,S1⟩,q1,q2⟩:=zd q
 refine hc Ub Uc P h σ H ρ S b S1 _ w q1 fun H' s w'=>?_
 cases b with
 | true=>exact ifT (h1 Ub Uc P h σ H' ρ S1 o S' E w' q2 k)
 | false=>exact ifF (h2 Ub Uc P h σ H' ρ S1 o S' E w' q2 k)
def wy:WM:=fun ρ S=>some (.nx ρ,S)
theorem ws_next:WOk K κ os os ol i Jj wy:=fun Ub Uc P h σ H ρ S o S' E w q k=>by
 cases q
 exact k σ H w
theorem Wd.put {j:Nat} {d:D} {v:V} (w:Wd K κ Ub Uc P os i h S σ H ρ) (hj:j≠i) (hos:∀ x∈os,x≠j) (r:Rep K H (Bl Uc os σ) d v):Wd K κ Ub Uc P os i h S (σ.set j (some v)) H (ρ.set j (some d)) :=
 ⟨w.md.put (fun x hx=>⟨hx,hos x hx⟩) (fun x hx=>.inl hx) r,w.blk,w.new,κ.goes w.at_ (.less (fun a ha=>by
  rcases ha with ha | ⟨x,hx,e⟩
  ·exact .inl ha
  ·exact .inr ⟨x,hx,by rw [zc (hos x hx)] at e;exact e⟩) (.refl H)) (fun _ _ _ q=>q),by rw [zc (Ne.symm hj)];exact w.slot,w.off⟩
def Y0 (j:Nat) (F:WF):WM:=fun ρ S=>(F ρ S).map fun r=>(.nx (ρ.set j (some r.1)),r.2)
theorem ws_set {j:Nat} {te:TE} {F:WF} (he:Yh K κ true os i te F) (hj:j≠i) (hos:∀ x∈os,x≠j):WOk K κ os os ol i (yG te (ZR j)) (Y0 j F):=fun Ub Uc P h σ H ρ S o S' E w q k=>by
 obtain ⟨⟨d,S1⟩,q1,q2⟩:=map_some q
 cases q2
 exact he Ub Uc P h σ H ρ S d _ _ w q1 fun v H' hk w' r=>k _ _ (w'.put hj hos r)
def Jr (F:WF):WM:=fun ρ S=>(F ρ S).map fun r=>(.rt r.1,r.2)
theorem Wd.out (w:Wd K κ Ub Uc P os i h S σ H ρ):κ.hd K H Uc P h S:=κ.goes w.at_ (Goes.less (B:=Bl Uc os σ) (fun a ha=>Or.inl ha) (.refl H)) fun _ _ _ q=>q
theorem ws_ret {te:TE} {F:WF} (he:Yh K κ false os i te F):WOk K κ os os' ol i (wQ te) (Jr F):=fun Ub Uc P h σ H ρ S o S' E w q k=>by
 obtain ⟨⟨d,S1⟩,q1,q2⟩:=map_some q
 cases q2
 exact he Ub Uc P h σ H ρ S d _ _ w q1 fun v H' hk w' r=>k v H' w'.md.grow w'.out w'.md.blk r
def jG (F:WF):WM:=fun ρ S=>(F ρ S).map fun r=>(.nx ρ,r.2)
theorem ws_drop {te:TE} {F:WF} (he:Yh K κ false os i te F):WOk K κ os os ol i (YI te) (jG F):=fun Ub Uc P h σ H ρ S o S' E w q k=>by
 obtain ⟨⟨d,S1⟩,q1,q2⟩:=map_some q
 cases q2
 exact he Ub Uc P h σ H ρ S d _ _ w q1 fun v H' hk w' r=>k _ _ w'
theorem Wd.list {vs:List V} (w:Wd K kL Ub Uc P os i h S σ H ρ) (r:zm K H (Bl Uc os σ) S' vs):Wd K kL Ub Uc P os i h S' σ (upd H h (.lst vs)) ρ:=by
 obtain ⟨p,hs,h1,h2⟩:=w.at_
 have hk:∀ b o,H b=some o->¬ P b->upd H h (.lst vs) b=some o:=fun b o q n=>by rw [zv (fun e=>n ((p b).2 e))];exact q
 exact w.write hk ⟨p,vs,zu,zm.goes (w.goes hk) _ _ r⟩
def wApp (F:WF):WM:=fun ρ S=>(F ρ S).bind fun r=>if r.2.length<Kg then some (.nx ρ,r.2++[r.1]) else none
theorem ws_happ {te:TE} {F:WF} (he:Yh K kL true os i te F):WOk K kL os os ol i (YI (tBM K "list" Ya (Zj i) (zW te ZS))) (wApp F):=fun Ub Uc P h σ H ρ S o S' E w q k=>by
 obtain ⟨⟨d,S1⟩,q1,q2⟩:=zd q
 split at q2
 case isFalse=>cases q2
 rename_i hl
 cases q2
 obtain ⟨p,hs,h1,h2⟩:=w.at_
 refine ⟨.ref h,w.ref,.inl ⟨rfl,hs,.inl (.inl h1)⟩,?_⟩
 refine he Ub Uc P h σ H ρ S d S1 _ w q1 fun v H' hk w' r=>?_
 obtain ⟨p',hs',h1',h2'⟩:=w'.at_
 exact ⟨h,hs',v,rfl,rfl,h1',by rw [h2'.length];exact hl,k _ _ (w'.list (h2'.append (.one r)))⟩
def wExt (f:Ev->Option D):WM:=fun ρ S=>(f ρ).bind fun d=>(asL d).bind fun es=>if S.length+es.length<=Kg then some (.nx ρ,S++es) else none
theorem ws_hext {te:TE} {f:Ev->Option D} (he:EOk K true os te f):WOk K kL os os ol i (YI (tBM K "list" WU (Zj i) (zW te ZS))) (wExt f):=fun Ub Uc P h σ H ρ S o S' E w q k=>by
 obtain ⟨d,q1,q2⟩:=zd q
 obtain ⟨es,q3,q4⟩:=zd q2
 split at q4
 case isFalse=>cases q4
 rename_i hl
 cases q4
 cases d <;> simp only [asL] at q3 <;> cases q3
 obtain ⟨p,hs,h1,h2⟩:=w.at_
 refine ⟨.ref h,w.ref,.inl ⟨rfl,hs,.inl (.inl h1)⟩,?_⟩
 refine he Ub Uc σ H ρ _ _ w.md q1 fun v H' s r=>?_
 have r1:Rep K H' (Bl Uc os σ) (.lst es) v:=r
 simp only [Rep] at r1
 obtain ⟨b,zs,rfl,hb,hr⟩:=r1
 have hne:h≠b:=fun z=>hb.2 (.inl (w.blk b ((p b).2 z.symm)))
 exact ⟨h,b,_,_,rfl,rfl,s _ _ h1,hb.1,hne,by rw [h2.length,hr.length];exact hl,k σ _ ((w.up s).list ((zm.up s h2).append hr))⟩
def wIx (fk:Ev->Option D):WF:=fun ρ S=>(fk ρ).bind fun d=>(asI d).bind fun k=>(atI S k).map fun x=>(x,S)
theorem we_ix {st:Bool} {tk:TE} {fk:Ev->Option D} (he:EOk K true os tk fk):Yh K kL st os i (tOp (rIxL K) (Zj i) tk) (wIx fk):=fun Ub Uc P h σ H ρ S d S' Q w q k=>by
 obtain ⟨dk,q1,q2⟩:=zd q
 obtain ⟨n,q3,q4⟩:=zd q2
 obtain ⟨x,q5,q6⟩:=map_some q4
 cases q6
 have e:dk=.int n:=by cases dk <;> simp only [asI] at q3 <;> cases q3;rfl
 subst e
 refine ⟨.ref h,w.ref,he Ub Uc σ H ρ _ _ w.md q1 fun v H' s r=>?_⟩
 simp only [Rep] at r
 subst r
 have w':=w.up s
 obtain ⟨p,hs,h1,h2⟩:=w'.at_
 obtain ⟨v,e1,r1⟩:=h2.atI q5
 exact ⟨h,hs,n,v,rfl,rfl,.inl (.inl h1),e1,k v H' (fun b o q _=>s _ _ q) w' r1.low⟩
def J4 (F:WF) (fk:Ev->Option D):WM:=fun ρ S=>(F ρ S).bind fun r=>(fk ρ).bind fun d=>(asI d).bind fun k=>(ixN r.2.length k).map fun j=>(.nx ρ,r.2.set j r.1)
theorem ws_hset {te ti:TE} {F:WF} {fk:Ev->Option D} (he:Yh K kL true os i te F) (hk:EOk K false os ti fk):WOk K kL os os ol i (yG te (gSub (Zj i) ti rSetL)) (J4 F fk):=fun Ub Uc P h σ H ρ S o S' E w q k=>by
 obtain ⟨⟨d,S1⟩,q1,q2⟩:=zd q
 obtain ⟨kd,q3,q4⟩:=zd q2
 obtain ⟨n,q5,q6⟩:=zd q4
 obtain ⟨j,q7,q8⟩:=map_some q6
 cases q8
 refine he Ub Uc P h σ H ρ S d S1 _ w q1 fun v H1 hk1 w1 r1=>?_
 refine ⟨.ref h,w1.ref,?_⟩
 refine hk Ub Uc σ H1 ρ kd _ w1.md q3 fun w' H2 s2 r2=>?_
 have e2:=asI_v r2 q5
 subst e2
 have w2:=w1.up s2
 obtain ⟨p,hs,h1,h2⟩:=w2.at_
 exact ⟨h,_,n,j,rfl,rfl,h1,by rw [h2.length];exact q7,k σ _ (w2.list (h2.set j (Rep.up s2 r1)))⟩
def w2 (g:D->D->Option D) (F G:WF):WF:=fun ρ S=>(F ρ S).bind fun r=>(G ρ r.2).bind fun q=>(g r.1 q.1).map fun d=>(d,q.2)
theorem we_opOk {st:Bool} {r:R2} {g:D->D->Option D} {ta tb:TE} {F G:WF} (hr:ROk K r g) (ha:Yh K κ true os i ta F) (hb:Yh K κ true os i tb G):Yh K κ st os i (tOp r ta tb) (w2 g F G):=fun Ub Uc P h σ H ρ S d S' Q w q k=>by
 obtain ⟨⟨x,S1⟩,q1,q2⟩:=zd q
 obtain ⟨⟨y,S2⟩,q3,q4⟩:=zd q2
 obtain ⟨z,q5,q6⟩:=map_some q4
 cases q6
 refine ha Ub Uc P h σ H ρ S x S1 _ w q1 fun v H1 k1 w1 r1=>?_
 refine hb Ub Uc P h σ H1 ρ S1 y _ _ w1 q3 fun u H2 k2 w2 r2=>?_
 exact hr H2 (Bl Uc os σ) v u x y _ Q (fun a ha=>w2.md.tracked ha) (Rep.goes (w1.goes k2) _ _ r1) r2 q5 fun z H3 s3 r3=>k z H3 (fun b o q n=>s3 _ _ (k2 _ _ (k1 _ _ q n) n)) (w2.up s3) r3.low
theorem WFOk.eok {st:Bool} {te:TE} {F:WF} (h:WFOk K κ os i te F):Yh K κ st os i te F:=fun Ub Uc P h' σ H ρ S d S' Q w q k=>h Ub Uc P h' σ H ρ S d S' Q w q fun a o H' s w' hn ho hw _=>k _ _ s w' (Rep.bb (hw.rep ho (w.md.ntracked hn)))
abbrev WL:=Ev->List D->Option (List D×List D)
def zK (F:WF) (G:WL):WL:=fun ρ S=>(F ρ S).bind fun r=>(G ρ r.2).map fun q=>(r.1::q.1,q.2)
theorem wa_consOk {te:TE} {tl:TA} {F:WF} {G:WL} (ha:Yh K κ true os i te F) (hr:WAOk K κ os i tl G):WAOk K κ os i (zW te tl) (zK F G):=fun Ub Uc P h σ H ρ S ds S' Q w q k=>by
 obtain ⟨⟨x,S1⟩,q1,q2⟩:=zd q
 obtain ⟨⟨ys,S2⟩,q3,q4⟩:=map_some q2
 cases q4
 refine ha Ub Uc P h σ H ρ S x S1 _ w q1 fun v H1 k1 w1 r1=>?_
 refine hr Ub Uc P h σ H1 ρ S1 ys _ _ w1 q3 fun vs H2 k2 w2 r2=>?_
 exact k _ H2 (fun b o q n=>k2 _ _ (k1 _ _ q n) n) w2 (.cons (Rep.goes (w1.goes k2) _ _ r1) r2)
def wTup (G:WL):WF:=fun ρ S=>(G ρ S).bind fun r=>(JD r.1).map fun d=>(d,r.2)
theorem we_tupOk {st:Bool} {tl:TA} {G:WL} (ha:WAOk K κ os i tl G):Yh K κ st os i (Wv tl) (wTup G):=fun Ub Uc P h σ H ρ S d S' Q w q k=>by
 obtain ⟨⟨ds,S1⟩,q1,q2⟩:=zd q
 obtain ⟨d',q3,q4⟩:=map_some q2
 cases q4
 unfold JD at q3
 split at q3
 case isFalse=>cases q3
 cases q3
 rename_i hl
 refine ha Ub Uc P h σ H ρ S ds _ _ w q1 fun vs H1 k1 w1 r1=>⟨by rw [r1.length];exact hl,fun p hp=>?_⟩
 refine k _ _ (fun b o q n=>zx hp _ _ (k1 _ _ q n)) (w1.up (zx hp)) (Rep.low ?_)
 simp only [Rep]
 exact ⟨p,vs,rfl,.inl (.inl zu),r1.up (zx hp)⟩
def spW (K:KC) (κ:Kd) (i0:Nat) (m:List D->List D->Option (D×List D)):Sp:=fun vs H Q _=>∃ (B P:Kc->Prop) (ds:List D) (d:D) (S S':List D) (h:Kc),(∀ a,B a->∃ o,H a=some o)/\(∀ b,P b->B b)/\κ.hd K H B P h S/\zm K H B ds vs/\ds[i0]?=some (.adr h)/\m ds S=some (d,S') /\
 ∀ v H',(∀ b o,H b=some o->¬ P b->H' b=some o)->κ.hd K H' B P h S'->Rep K H' B d v->Q v H'
def yC (i0:Nat) (m:List D->List D->Option (D×List D)) (G:WL):WF:=fun ρ S=>(G ρ S).bind fun r=>m r.1 r.2
theorem we_callOk {st:Bool} {i0:Nat} {m:List D->List D->Option (D×List D)} {tl:TA} {G:WL} (ha:WAOk K κ os i tl G) (hi:∀ ρ S ds S',G ρ S=some (ds,S')->ds[i0]?=ρ[i]?.join):Yh K κ st os i (fun σ H Q=>tl σ H fun vs H1=>spW K κ i0 m vs H1 Q E0) (yC i0 m G):=fun Ub Uc P h σ H ρ S d S' Q w q k=>by
 obtain ⟨⟨ds,S1⟩,q1,q2⟩:=zd q
 refine ha Ub Uc P h σ H ρ S ds S1 _ w q1 fun vs H1 k1 w1 r=>?_
 refine ⟨Bl Uc os σ,P,ds,d,S1,S',h,fun a ha=>w1.md.tracked ha,fun b hb=>.inl (w1.blk b hb),w1.at_,r,by rw [hi ρ S ds S1 q1,w1.slot];rfl,q2,fun v H' hk r1 r2=>?_⟩
 exact k v H' (fun b o q n=>hk _ _ (k1 _ _ q n) n) (w1.write hk r1) r2.low
end
section
variable {K:KC} {κ:Kd} {Ub H H':Hp} {Uc P:Kc->Prop} {os os':List Nat} {σ σ':St} {ρ ρ':Ev} {h:Kc} {i:Nat} {S S':List D}
open Classical in
def YC (os:List Nat) (σ:St) (P:Kc->Prop) (H:Hp):Hp:=fun b=>if P b then none else bare os σ H b
theorem gw {b:Kc} (hb:¬ ∃ j,j∈os/\σ[j]?=some (some (.ref b))) (n:¬ P b):YC os σ P H b=H b:=by unfold YC;rw [KS n,bare_no hb]
theorem bareH_in {b:Kc} (n:P b):YC os σ P H b=none:=by unfold YC;rw [KR n]
theorem gv {b:Kc} {o:HO} (q:YC os σ P H b=some o):H b=some o/\¬ P b/\¬ ∃ j,j∈os/\σ[j]?=some (some (.ref b)):=by
 unfold YC at q
 by_cases n:P b
 ·rw [KR n] at q;cases q
 ·rw [KS n] at q
  by_cases z:∃ j,j∈os/\σ[j]?=some (some (.ref b))
  ·rw [bare_own z] at q;cases q
  ·rw [bare_no z] at q;exact ⟨q,n,z⟩
theorem Wd.bare (w:Wd K κ Ub Uc P os i h S σ H ρ):Wd K κ (YC os σ P H) Uc P os i h S σ H ρ:=by
 refine ⟨⟨fun b o q=>(gv q).1,w.md.blk,w.md.len,w.md.sh,fun j hj=>?_,w.md.sep⟩,w.blk,fun b hb=>bareH_in hb,w.at_,w.slot,w.off⟩
 obtain ⟨a,u,d,h1,h2,h3,h4,h5⟩:=w.md.own j hj
 refine ⟨a,u,d,h1,h2,h3,⟨?_,h4.2⟩,h5⟩
 cases q:YC os σ P H a with
 | none=>rfl
 | some o=>exact absurd ⟨j,hj,h1⟩ (gv q).2.2
theorem Wd.same0 (w:Wd K κ Ub Uc P os i h S σ H ρ) (s:zQ (YC os σ P H) H'):zQ Ub H':=fun b o q=>s _ _ (by
 rw [gw]
 ·exact w.md.grow _ _ q
 ·rintro ⟨j,hj,e⟩
  obtain ⟨a,u,d,h1,h2,h3,h4,h5⟩:=w.md.own j hj
  rw [e] at h1;cases h1
  rw [h4.1] at q;cases q
 ·intro z
  rw [w.new b z] at q;cases q)
theorem Wd.unbare (w:Wd K κ Ub Uc P os i h S σ H ρ) (w':Wd K κ (YC os σ P H) Uc P os' i h S' σ' H' ρ'):Wd K κ Ub Uc P os' i h S' σ' H' ρ':=by
 refine ⟨⟨w.same0 w'.md.grow,w'.md.blk,w'.md.len,w'.md.sh,fun j hj=>?_,w'.md.sep⟩,w.blk,w.new,w'.at_,w'.slot,w'.off⟩
 obtain ⟨a,u,d,h1,h2,h3,h4,h5⟩:=w'.md.own j hj
 refine ⟨a,u,d,h1,h2,h3,⟨?_,h4.2⟩,h5⟩
 cases q:Ub a with
 | none=>rfl
 | some o=>have:=w.same0 (H':=YC os σ P H) (.refl _) a o q;rw [h4.1] at this;cases this
theorem Wd.goesB (w:Wd K κ Ub Uc P os i h S σ H ρ) (w':Wd K κ (YC os σ P H) Uc P os' i h S' σ' H' ρ'):Goes H H' (Bl Uc os σ) (Bl Uc os' σ'):=by
 refine Yf (P:=fun b=>P b\/∃ j,j∈os/\σ[j]?=some (some (.ref b))) (fun e o q n=>w'.md.grow _ _ (by rw [gw (fun z=>n (.inr z)) fun z=>n (.inl z)];exact q)) (fun e o z q=>?_) (fun e z=>?_) fun e z=>?_
 ·rcases z with z | ⟨j,hj,z⟩
  ·obtain ⟨o',q',n⟩:=κ.mtb w.at_ e z;rw [q] at q';cases q';exact n
  ·obtain ⟨a,u,d,h1,h2,h3,h4,h5⟩:=w.md.own j hj
   rw [z] at h1;cases h1
   rw [q] at h3;cases h3
   exact h5.mut
 ·rcases z with z | z
  ·exact .inl (w.blk e z)
  ·exact .inr z
 ·rcases z with z | ⟨j,hj,z⟩
  ·exact .inl (.inl z)
  ·obtain ⟨a,u,d,g1,g2,g3,g4,g5⟩:=w'.md.own j hj
   rw [z] at g1;cases g1
   by_cases c:Bl Uc os σ e
   ·exact .inl c
   ·have:=g4.1
    rw [gw (fun z=>c (.inr z)) fun z=>c (.inl (w.blk e z))] at this
    exact .inr this
end
def forW (u:D->Ev->Option Ev) (M:WM):List D->Ev->List D->Option (Out×List D)
 | [],ρ,S=>some (.nx ρ,S)
 | d::ds,ρ,S=>(u d ρ).bind fun ρ1=>(M ρ1 S).bind fun r=>match r.1 with
  | .nx ρ2=>forW u M ds ρ2 r.2
  | .ct ρ2=>forW u M ds ρ2 r.2
  | .bk ρ2=>some (.nx ρ2,r.2)
  | .rt d=>some (.rt d,r.2)
def wFor (fi:Ev->Option (List D)) (u:D->Ev->Option Ev) (M:WM):WM:=fun ρ S=>(fi ρ).bind fun ds=>forW u M ds ρ S
def gD (i:Nat) (u:D->Ev->Option Ev):Prop:=∀ d ρ ρ',u d ρ=some ρ'->ρ'[i]?=ρ[i]?
section
variable {K:KC} {κ:Kd} {os ol:List Nat} {i:Nat}
theorem kg_name {j:Nat} (hj:j≠i:=by decide):gD i (zR j):=fun d ρ ρ' q=>by
 cases q
 exact zc (Ne.symm hj)
theorem ws_forOk {wi:TI} {g:TG} {tb:TS} {fi:Ev->Option (List D)} {ug:D->Ev->Option Ev} {M:WM} (hi:IOk K true os wi fi) (hg:GOk K os g ug) (hk:gD i ug) (hb:WOk K κ os os os i tb M):WOk K κ os os ol i (tFor wi g tb) (wFor fi ug M):=fun Ub Uc P h σ H ρ S o S' E w q k=>by
 obtain ⟨ds,h1,h2⟩:=zd q
 refine hi Ub Uc σ H ρ ds _ w.md h1 fun J H1 ok s1 W up mv ok1=>?_
 have w1:=w.up s1
 refine ⟨fun a n σ' H'=>n=ds.length - a/\a<=ds.length/\∃ ρ' S1,Wd K κ (YC os σ P H1) Uc P os i h S1 σ' H' ρ'/\forW ug M (ds.drop a) ρ' S1=some (o,S'),⟨ds.length,by simp,Pd _,ρ,S,w1.bare,by simpa using h2⟩,?_⟩
 rintro a n σ' H' ⟨rfl,hile,ρ',S1,wM,hf⟩
 have okN:=mv rfl _ _ _ _ (w1.goesB wM) ok1
 by_cases hlt:a<ds.length
 ·right
  have hd:ds[a]?=some ds[a]:=by simp [hlt]
  rw [Pb hlt] at hf
  simp only [forW] at hf
  obtain ⟨ρ1,q1,q2⟩:=zd hf
  obtain ⟨⟨o',S2⟩,q3,q4⟩:=zd q2
  refine ⟨W.go _ _ a _ okN hd,fun σ2 H2=>∃ ρ2 S3,Wd K κ (YC os σ P H1) Uc P os i h S3 σ2 H2 ρ2/\forW ug M (ds.drop (a+1)) ρ2 S3=some (o,S'),fun σ2 H2 ⟨ρ2,S3,m2,f2⟩=>⟨ds.length - (a+1),by omega,rfl,hlt,ρ2,S3,m2,f2⟩,fun x H2 y=>?_⟩
  obtain ⟨s2,rx⟩:=W.yld _ _ a _ x H2 okN hd y
  have w2:=wM.up s2
  refine hg _ Uc σ' H2 ρ' ρ1 ds[a] x _ w2.md rx q1 fun σ3 l3 a3 m3=>?_
  have w3:Wd K κ (YC os σ P H1) Uc P os i h S1 σ3 H2 ρ1:=by
   refine ⟨m3,w2.blk,w2.new,κ.goes w2.at_ (.less (fun b hb=>?_) (.refl H2)) (fun _ _ _ q=>q),(hk _ _ _ q1).trans w2.slot,w2.off⟩
   rcases hb with hb | ⟨j,hj,e⟩
   ·exact .inl hb
   ·exact .inr ⟨j,hj,by rw [<- a3 j hj];exact e⟩
  refine hb _ Uc P h σ3 H2 ρ1 S1 o' S2 _ w3 q3 ?_
  cases o' with
  | nx ρ2=>exact fun σ4 H4 w4=>⟨ρ2,S2,w4,q4⟩
  | ct ρ2=>exact fun σ4 H4 w4=>⟨ρ2,S2,w4,q4⟩
  | bk ρ2=>cases q4;exact fun σ4 H4 w4=>k σ4 H4 (w1.unbare w4)
  | rt d=>cases q4;exact fun v H4 s e b r=>k v H4 (w1.same0 s) e b r
 ·left
  have hi':a=ds.length:=by omega
  subst hi'
  rw [Pg] at hf
  cases hf
  exact ⟨W.stop _ _ _ okN (Ql _),k σ' H' (w1.unbare wM)⟩
end
def JY (u:D->Ev->Option Ev) (F:WF):List D->Ev->List D->Option (List D×List D)
 | [],_,S=>some ([],S)
 | d::ds,ρ,S=>(u d ρ).bind fun ρ1=>(F ρ1 S).bind fun r=>(JY u F ds ρ1 r.2).map fun q=>(r.1::q.1,q.2)
def wComp (k:Nat) (fi:Ev->Option (List D)) (u:D->Ev->Option Ev) (F:WF):WF:=fun ρ S=>(fi ρ).bind fun ds=>(JY u F ds (ρ++List.replicate k none) S).bind fun q=>(Jg q.1).map fun d=>(d,q.2)
section
variable {K:KC} {κ:Kd} {os:List Nat} {i:Nat}
theorem wf_compOk {k:Nat} {wi:TI} {g:TG} {te:TE} {fi:Ev->Option (List D)} {u:D->Ev->Option Ev} {F:WF} (hi:IOk K true os wi fi) (hg:GOk K os g u) (hkg:gD i u) (he:Yh K κ true os i te F) :
  WFOk K κ os i (Jk k wi g tYes te) (wComp k fi u F):=fun Ub Uc P h σ H ρ S d S' Q w q kk=>by
 obtain ⟨ds,h1,h2⟩:=zd q
 obtain ⟨⟨es,Sn⟩,h3,h4⟩:=zd h2
 obtain ⟨d',h5,h6⟩:=map_some h4
 cases h6
 unfold Jg at h5
 split at h5
 case isFalse=>cases h5
 rename_i hsz
 cases h5
 refine hi Ub Uc σ H ρ ds _ w.md h1 fun J H1 ok s1 W up mv ok1=>?_
 intro D' hD
 have w1:=w.up s1
 have mE:=w1.md.extend k hD
 have osl0:∀ j∈os,(σ++List.replicate k none)[j]?=σ[j]?:=fun j hj=>by
  obtain ⟨a,o,d,q1,_⟩:=w.md.own j hj
  rw [ZX q1,q1]
 have ok2:ok (upd H1 D' (.lst [])) (fun b=>Bl Uc os σ b\/b=D'):=up D' hD _ _ _ _ (.fresh hD (zx hD)) (fun b o _ q=>zx hD _ _ q) ok1
 have pD:¬ P D':=fun z=>by obtain ⟨o,q,_⟩:=κ.mtb w1.at_ D' z;rw [hD] at q;cases q
 have hH0:Ub D'=none:=(w.md.grow.trans s1).free hD
 have wE:Wd K κ Ub (fun b=>Uc b\/b=D') P os i h S (σ++List.replicate k none) (upd H1 D' (.lst [])) (ρ++List.replicate k none):=by
  refine ⟨mE,fun b hb=>.inl (w1.blk b hb),w1.new,κ.goes w1.at_ (Yf (P:=fun _=>False) (fun e o q _=>zx hD _ _ q) (fun _ _ z=>z.elim) (fun _ z=>z.elim) fun e z=>?_) (fun b o _ q=>zx hD _ _ q),ZX w1.slot,w1.off⟩
  rcases z with (z | z) | ⟨j,hj,z⟩
  ·exact .inl (.inl z)
  ·exact .inr (by rw [z];exact hD)
  ·exact .inl (.inr ⟨j,hj,by rw [<- osl0 j hj];exact z⟩)
 refine ⟨fun a mm ys σ' H'=>mm=ds.length - a/\a<=ds.length/\∃ ρ' S1 done zX,Wd K κ Ub (fun b=>Uc b\/b=D') P os i h S1 σ' H' ρ'/\(∀ j∈os,σ'[j]?=(σ++List.replicate k none)[j]?)/\H' D'=some (.lst ys) /\
  ok H' (fun b=>Bl Uc os σ b\/b=D')/\(∀ b o,H1 b=some o->¬ P b->H' b=some o)/\zm K H' (Bl (fun b=>Uc b\/b=D') os σ') done ys/\JY u F (ds.drop a) ρ' S1=some (zX,Sn)/\es=done++zX,⟨ds.length,by simp,Pd _,_,S,[],es,wE,fun _ _=>rfl,zu,ok2,fun b o q _=>zx hD _ _ q,.nil,by simpa using h3,rfl⟩,?_⟩
 rintro a mm ys σ' H' ⟨rfl,hile,ρ',S1,done,zX,wM,ag,hDl,okH,sm,rd,hcomp,hes⟩
 refine ⟨hDl,?_⟩
 have osl:∀ j∈os,σ'[j]?=σ[j]?:=fun j hj=>(ag j hj).trans (osl0 j hj)
 have blE:∀ b,Bl (fun b=>Uc b\/b=D') os σ' b↔(Bl Uc os σ b\/b=D'):=fun b=>by
  constructor
  ·rintro ((z | z) | ⟨j,hj,q⟩)
   ·exact .inl (.inl z)
   ·exact .inr z
   ·rw [osl j hj] at q;exact .inl (.inr ⟨j,hj,q⟩)
  ·rintro ((z | ⟨j,hj,q⟩) | z)
   ·exact .inl (.inl z)
   ·exact .inr ⟨j,hj,by rw [osl j hj];exact q⟩
   ·exact .inl (.inr z)
 have blF:Bl (fun b=>Uc b\/b=D') os σ'=fun b=>Bl Uc os σ b\/b=D':=funext fun b=>propext (blE b)
 by_cases hlt:a<ds.length
 ·right
  have hd:ds[a]?=some ds[a]:=by simp [hlt]
  refine ⟨W.go _ _ a _ okH hd,fun x H2 y=>?_⟩
  obtain ⟨s2,rx⟩:=W.yld _ _ a _ x H2 okH hd y
  rw [Pb hlt] at hcomp
  simp only [JY] at hcomp
  obtain ⟨ρ1,q1,q2⟩:=zd hcomp
  obtain ⟨⟨z,S2⟩,q5,q6⟩:=zd q2
  obtain ⟨⟨rest',Sx⟩,q7,q8⟩:=map_some q6
  cases q8
  have w2:=wM.up s2
  have rx':Rep K H2 (Bl (fun b=>Uc b\/b=D') os σ') ds[a] x:=by rw [blF];exact rx
  refine hg Ub _ σ' H2 ρ' ρ1 ds[a] x _ w2.md rx' q1 fun σ3 l3 a3 m3=>?_
  unfold tYes
  dsimp only
  rw [KR rfl]
  have ble:Bl (fun b=>Uc b\/b=D') os σ3=Bl (fun b=>Uc b\/b=D') os σ':=bl_eq a3
  have w3:Wd K κ Ub (fun b=>Uc b\/b=D') P os i h S1 σ3 H2 ρ1:=⟨m3,w2.blk,w2.new,by rw [ble];exact w2.at_,(hkg _ _ _ q1).trans w2.slot,w2.off⟩
  refine he Ub _ P h σ3 H2 ρ1 S1 z S2 _ w3 q5 fun v H5 k5 w5 r5=>?_
  have hDl5:H5 D'=some (.lst ys):=k5 _ _ (s2 _ _ hDl) pD
  have hlen:ys.length=done.length:=rd.length
  have hlt':ys.length<Kg:=by
   rw [hes] at hsz
   simp only [Qj,Qd] at hsz
   omega
  have g25:Goes H2 H5 (Bl (fun b=>Uc b\/b=D') os σ3) (Bl (fun b=>Uc b\/b=D') os σ3):=w3.goes k5
  have g6:Goes H5 (upd H5 D' (.lst (ys++[v]))) (Bl (fun b=>Uc b\/b=D') os σ3) (Bl (fun b=>Uc b\/b=D') os σ3):=.write (.inl (.inr rfl)) hDl5 trivial
  refine ⟨hDl5,hlt',ds.length - (a+1),by omega,rfl,hlt,ρ1,S2,done++[z],rest',⟨w5.md.upB (.inr rfl) hH0 hDl5 trivial,w5.blk,w5.new,κ.goes w5.at_ g6 (fun b o hb q=>by rw [zv (fun e=>pD (by rw [<- e];exact hb))];exact q),w5.slot,w5.off⟩,fun j hj=>(a3 j hj).trans (ag j hj),zu,?_,?_,?_,q7,?_⟩
  ·have o2:=up D' hD _ _ _ _ (.same s2) (fun b o _ q=>s2 _ _ q) okH
   have e3:(fun b=>Bl Uc os σ b\/b=D')=Bl (fun b=>Uc b\/b=D') os σ3:=by rw [ble,blF]
   rw [e3] at o2 ⊢
   exact mv rfl _ _ _ _ g6 (mv rfl _ _ _ _ g25 o2)
  ·intro b o q n
   by_cases hb:b=D'
   ·subst hb;rw [hD] at q;cases q
   ·rw [zv hb];exact k5 _ _ (s2 _ _ (sm _ _ q n)) n
  ·refine zm.goes g6 _ _ (zm.append ?_ (.one r5))
   refine zm.goes g25 _ _ ?_
   rw [ble]
   exact rd.up s2
  ·rw [hes];simp
 ·left
  have hi':a=ds.length:=by omega
  subst hi'
  refine ⟨W.stop _ _ _ okH (Ql _),?_⟩
  rw [Pg] at hcomp
  cases hcomp
  rw [QZ] at hes
  subst hes
  have gl:Goes H' H' (Bl (fun b=>Uc b\/b=D') os σ') (Bl Uc os σ):=.less (fun b z=>(blE b).mpr (.inl z)) (.refl H')
  refine kk D' _ H' (fun b o q n=>sm _ _ (s1 _ _ q) n) ⟨(md_but w1.md w1.blk w1.new (κ.mtb w1.at_) sm fun b z=>by obtain ⟨o,q,_⟩:=κ.mtb wM.at_ b z;exact ⟨o,q⟩).1,w1.blk,w1.new,κ.goes wM.at_ gl (fun _ _ _ q=>q),w1.slot,w1.off⟩ (s1.free hD) hDl ?_ ?_
  ·simp only [Own]
   rw [blF] at rd
   exact rd
  ·have:=wM.at_
   rw [blF] at this
   exact this
end
structure WE (X:Cx) (κ:Kd) (st:Bool) (os:List Nat) (i:Nat) (e:Kv) (t:TE) (F:WF):Prop where
 pe:PE X e t
 ok:Yh X.K κ st os i t F
structure WA (X:Cx) (κ:Kd) (os:List Nat) (i:Nat) (es:List Kv) (t:TA) (F:WL):Prop where
 pa:PA X es t
 ok:WAOk X.K κ os i t F
structure WB (X:Cx) (κ:Kd) (os:List Nat) (i:Nat) (e:Kv) (t:TT) (c:Ev->List D->Option (Bool×List D)):Prop where
 pt:PT X e t
 ok:WTOk X.K κ os i t c
structure WS (X:Cx) (κ:Kd) (os os' ol:List Nat) (i:Nat) (st:Kx) (t:TS) (M:WM):Prop where
 ps:PS X st t
 ok:WOk X.K κ os os' ol i t M
structure WSs (X:Cx) (κ:Kd) (os os' ol:List Nat) (i:Nat) (st:List Kx) (t:TS) (M:WM):Prop where
 ps:PSs X st t
 ok:WOk X.K κ os os' ol i t M
def HasAt (n i:Nat) (G:WL):Prop:=∀ ρ S ds S',G ρ S=some (ds,S')->ds[n]?=ρ[i]?.join
theorem wm {i:Nat} {G:WL}:HasAt 0 i (zK (wL (zb i)) G):=fun ρ S ds S' q=>by
 obtain ⟨⟨x,S1⟩,q1,q2⟩:=zd q
 obtain ⟨⟨ys,S2⟩,q3,q4⟩:=map_some q2
 obtain ⟨y,q5,q6⟩:=map_some q1
 cases q6
 cases q4
 exact q5.symm
theorem wW {n i:Nat} {F:WF} {G:WL} (h:HasAt n i G):HasAt (n+1) i (zK F G):=fun ρ S ds S' q=>by
 obtain ⟨⟨x,S1⟩,q1,q2⟩:=zd q
 obtain ⟨⟨ys,S2⟩,q3,q4⟩:=map_some q2
 cases q4
 exact h ρ S1 ys S2 q3
section
variable {X:Cx} {κ:Kd} {st fr:Bool} {os os1 os' ol:List Nat} {i:Nat} {e a b:Kv} {es:List Kv} {t u:TS} {ta tb te:TE} {tl:TA} {F F':WF} {G:WL} {M1 M2:WM} {x:Kw} {p pos:KB}
theorem SE.we {f:Ev->Option D} (h:SE X st os e te f):WE X κ st os i e te (wL f):=⟨h.pe,we_lift h.ok⟩
theorem SB.wb {c:Ev->Option Bool} {tt:TT} (h:SB X os e tt c):WB X κ os i e tt (wL c):=⟨h.pt,wt_lift h.ok⟩
theorem Z7:WA X κ os i [] ZS (wL zr):=⟨zY,wa_lift zk.ok⟩
theorem zA (ha:WE X κ true os i e te F) (hr:WA X κ os i es tl G) (hs:Ke (e::es) X.env=(false,Kz e X.env)::Ke es X.env:=by rfl):WA X κ os i (e::es) (zW te tl) (zK F G):=⟨zC ha.pe hr.pa hs,wa_consOk ha.ok hr.ok⟩
theorem we_tup {x1} (h:WA X κ os i es tl G):WE X κ st os i (.Tuple es x1 pos) (Wv tl) (wTup G):=⟨jO h.pa,we_tupOk h.ok⟩
theorem we_op {op:Operator} {r:R2} {g:D->D->Option D} (ho:OpR X (binaryOp op) r) (hr:ROk X.K r g) (ha:WE X κ true os i a ta F) (hb:WE X κ true os i b tb F'):WE X κ st os i (.BinOp a op b pos) (tOp r ta tb) (w2 g F F'):=⟨wC ho ha.pe hb.pe,we_opOk hr ha.ok hb.ok⟩
theorem wb_cmp {op:CmpOp} {r:R2} {g:D->D->Option D} (ho:OpR X (Km op) r) (hr:ROk X.K r g) (ha:WE X κ true os i a ta F) (hb:WE X κ true os i b tb F') (hm:behindInMarks op b=false):WB X κ os i (.Compare a [op] [b] pos) (YH (tOp r ta tb)) (wTest (w2 g F F')):=⟨YN ho ha.pe hb.pe hm,wt_val (we_opOk hr ha.ok hb.ok)⟩
theorem we_hix {f:Ev->Option D} (hb:SE X true os b tb f) (hN:X.N[i]?=some x:=by rfl) (hv:Vis X.env.scope x:=by first | exact Or.inl rfl | exact Or.inr (Or.inl rfl) | exact Or.inr (Or.inr rfl)) (hd:(x == ("__debug__":Kw))=false:=by decide)
  (hcd:(x == ("__classdict__":Kw))=false:=by decide) (hs:J2 b:=by intro _ _;rfl) {K':KC} (hK:X.K=K':=by rfl):WE X kL st os i (.Subscript (.Name x p) b pos) (tOp (rIxL K') (Zj i) tb) (wIx f):=by
 subst hK
 exact ⟨JQ jq (pv i hN hv hd hcd) hb.pe hs,we_ix hb.ok⟩
theorem we_call {k i0:Nat} {fn:Kc} {fd:Kh} {ps:List Kw} {m:List D->List D->Option (D×List D)} (F:FnOk X.prog X.w X.K X.mg X.base CX0 k fn fd ps (spW X.K κ i0 m)) (hr:Room k X.A) (hg:Gl X x) (hm:X.mg x=some (.ref fn)) (hk:keepIn X.K (.ref fn)=true) (hb:yR X.K fd ps [])
  (hi:HasAt i0 i G) (ha:WA X κ os i (e::es) tl G) (hdb:(x == ("__debug__":Kw))=false:=by decide) (he:Ke (e::es) X.env=(false,Kz e X.env)::Ke es X.env:=by rfl) (hpl:(Kq pos (Ke es X.env)).any (·.1)=false:=by rfl) {K':KC} (hK:X.K=K':=by rfl) :
  WE X κ st os i (.Call (.Name x p) (e::es) [] pos) (jI (spW K' κ i0 m) [] E0 tl) (yC i0 m G):=by
 subst hK
 refine ⟨Wj F hr hg hm hk hb .nil WZ ha.pa hdb he hpl,?_⟩
 have e:jI (spW X.K κ i0 m) [] E0 tl=fun σ H Q=>tl σ H fun vs H1=>spW X.K κ i0 m vs H1 Q E0:=by
  funext σ H Q
  unfold jI
  simp only [QZ]
 rw [e]
 exact we_callOk ha.ok hi
theorem j5:WSs X κ os os ol i [] Jj wy:=⟨jh,ws_next⟩
theorem zZ {s:Kx} {ss:List Kx} (h1:WS X κ os os1 ol i s t M1) (h2:WSs X κ os1 os' ol i ss u M2):WSs X κ os os' ol i (s::ss) (yF t u) (yo M1 M2):=⟨Zf h1.ps h2.ps,ws_seq h1.ok h2.ok⟩
theorem ZD {s:Kx} (h1:WS X κ os os' ol i s t M1):WSs X κ os os' ol i [s] t M1:=⟨Z8 h1.ps,h1.ok⟩
theorem yk {j:Nat} {pos':KB} (hN:X.N.Nodup) (hx:X.N[j]?=some x) (hlo:Loc X.env.scope x) (h:WE X κ true os i e te F) (hj:j≠i:=by decide) (hos:∀ y∈os,y≠j:=by decide)
  (hsw:Kt e (some (.Name x pos')) pos.line X.env=pure false:=by rfl) (hf:X.fn x=true\/X.env.scope.names.lookup x=some .local:=by first | exact .inl rfl | exact .inr rfl | assumption):WS X κ os os ol i (.Assign [.Name x pos'] e pos) (yG te (ZR j)) (Y0 j F):=⟨yV hN hx hlo h.pe hsw hf,ws_set h.ok hj hos⟩
theorem yH (h:WE X κ false os i e te F):WS X κ os os' ol i (.Return (some e) pos) (wQ te) (Jr F):=⟨YX h.pe,ws_ret h.ok⟩
theorem YY (h:WE X κ false os i e te F) (hs:Kt e none pos.line X.env=pure false:=by rfl):WS X κ os os ol i (.Expr e pos) (YI te) (jG F):=⟨Yl h.pe hs,ws_drop h.ok⟩
theorem jc {c:Kv} {as bs:List Kx} {tc:TT} {g:Ev->List D->Option (Bool×List D)} (hc:WB X κ os i c tc g) (ha:WSs X κ os os' ol i as t M1) (hb:WSs X κ os os' ol i bs u M2):WS X κ os os' ol i (.If c as bs pos) (Wx tc t u) (wIf g M1 M2):=⟨wA hc.pt ha.ps hb.ps,ws_if hc.ok ha.ok hb.ok⟩
theorem wst_for {tg iter:Kv} {body:List Kx} {wi:TI} {g:TG} {tb:TS} {fi:Ev->Option (List D)} {ug:D->Ev->Option Ev} (hc:X.calm=true) (hi:SI X true os tg iter wi fi) (hg:SG X os tg g ug) (hk:gD i ug) (hb:WSs X κ os os os i body tb M1)
  (hp:PassesOwn (Ky X.prog X.w) X.A X.env X.xe:=by exact PassesOwn.never) (hs:∀ x,foldedSetIterable iter X.env x=pure x:=by intro _;rfl):WS X κ os os ol i (.For tg iter body [] pos) (tFor wi g tb) (wFor fi ug M1):=⟨ps_for hp hc hi.pi hg.pg hb.ps hs,ws_forOk hi.ok hg.ok hk hb.ok⟩
theorem wst_app {apos cpos:KB} (h:WE X kL true os i e te F) (hN:X.N[i]?=some x:=by rfl) (hv:Vis X.env.scope x:=by first | exact Or.inl rfl | exact Or.inr (Or.inl rfl) | exact Or.inr (Or.inr rfl)) (hd:(x == ("__debug__":Kw))=false:=by decide)
  (hcd:(x == ("__classdict__":Kw))=false:=by decide) (hs1:Ke [e] X.env=(false,Kz e X.env)::Ke [] X.env:=by rfl)
  (hbase:Kp (.Name x p) "append" X.env (Kz (.Name x p) X.env)=Kz (.Name x p) X.env:=by rfl)
  (hfew:((Kq cpos (Ke [e] X.env)).all (fun x=>!x.1)&&(Kr cpos (Ks [] X.env)).all (fun x=>x.1.isSome)
   && decide ([e].length+([]:List Keyword).length+(if ([]:List Keyword).isEmpty then 0 else 1)<30))=true:=by rfl)
  (hline:(apos.endLine == cpos.line)=true:=by rfl) (hplain:(Kq cpos (Ke [] X.env)).any (·.1)=false:=by rfl) (hs:Kt (.Call (.Attribute (.Name x p) "append" apos) [e] [] cpos) none pos.line X.env=pure false:=by rfl) :
  WS X kL os os ol i (.Expr (.Call (.Attribute (.Name x p) "append" apos) [e] [] cpos) pos) (YI (tBM X.K "list" Ya (Zj i) (zW te ZS))) (wApp F):=⟨Yl (pe_append h.pe hN hv hd hcd hs1 hbase hfew hline hplain) hs,ws_happ h.ok⟩
theorem wst_ext {apos cpos:KB} {f:Ev->Option D} (h:SE X true os e te f) (hN:X.N[i]?=some x:=by rfl) (hv:Vis X.env.scope x:=by first | exact Or.inl rfl | exact Or.inr (Or.inl rfl) | exact Or.inr (Or.inr rfl)) (hd:(x == ("__debug__":Kw))=false:=by decide)
  (hcd:(x == ("__classdict__":Kw))=false:=by decide) (hs1:Ke [e] X.env=(false,Kz e X.env)::Ke [] X.env:=by rfl)
  (hbase:Kp (.Name x p) "extend" X.env (Kz (.Name x p) X.env)=Kz (.Name x p) X.env:=by rfl)
  (hfew:((Kq cpos (Ke [e] X.env)).all (fun x=>!x.1)&&(Kr cpos (Ks [] X.env)).all (fun x=>x.1.isSome)
   && decide ([e].length+([]:List Keyword).length+(if ([]:List Keyword).isEmpty then 0 else 1)<30))=true:=by rfl)
  (hline:(apos.endLine == cpos.line)=true:=by rfl) (hplain:(Kq cpos (Ke [] X.env)).any (·.1)=false:=by rfl) (hs:Kt (.Call (.Attribute (.Name x p) "extend" apos) [e] [] cpos) none pos.line X.env=pure false:=by rfl) :
  WS X kL os os ol i (.Expr (.Call (.Attribute (.Name x p) "extend" apos) [e] [] cpos) pos) (YI (tBM X.K "list" WU (Zj i) (zW te ZS))) (wExt f) :=
 ⟨Yl (pe_bm KJ PySem.F.slot_list_extend PySem.F.type_list_extend mt_extendS (pv i hN hv hd hcd) (zC h.pe zY hs1) hbase hfew hline hs1 hplain) hs,ws_hext h.ok⟩
theorem wst_hset {ik:Kv} {ti:TE} {fi:Ev->Option D} (h:WE X kL true os i e te F) (hk:SE X false os ik ti fi) (hN:X.N[i]?=some x:=by rfl) (hv:Vis X.env.scope x:=by first | exact Or.inl rfl | exact Or.inr (Or.inl rfl) | exact Or.inr (Or.inr rfl)) (hd:(x == ("__debug__":Kw))=false:=by decide)
  (hcd:(x == ("__classdict__":Kw))=false:=by decide) {spos:KB} (ha:∀ v,assign (.Subscript (.Name x p) ik spos) X.env v=(do
   let ov <- holding [v] (Kz (.Name x p) X.env)
   let iv <- holding [v,ov] (Kz ik X.env)
   standAt spos
   holding [v,ov,iv] (setItem ov iv v)
   release [v,ov,iv] []):=by intro _;rfl) (hs:swapsWithSole [.Subscript (.Name x p) ik spos] e pos.line X.env=pure false:=by rfl) (hw:swappedStores [.Subscript (.Name x p) ik spos] e X.env=pure none:=by rfl)
  (h1:(assignEach [.Subscript (.Name x p) ik spos] X.env).map (·.2)=[assign (.Subscript (.Name x p) ik spos) X.env]:=by rfl) :
  WS X kL os os ol i (.Assign [.Subscript (.Name x p) ik spos] e pos) (yG te (gSub (Zj i) ti rSetL)) (J4 F fi):=⟨ps_asg h.pe (pg_sub (pv i hN hv hd hcd) hk.pe set_list ha) hs hw h1,ws_hset h.ok hk.ok⟩
end
section
variable {X:Cx} {κ:Kd} {os os' ol:List Nat} {i:Nat} {pos:KB} {scope:Scope} {own N':List Kw} {k:Nat} {elt target iter:Kv} {wi:TI} {g:TG} {te:TE} {fi:Ev->Option (List D)} {u:D->Ev->Option Ev} {F:WF}
theorem wst_setComp {j:Nat} {x:Kw} {pos' spos:KB} (hN:X.N.Nodup) (hix:X.N[j]?=some x) (hx:X.env.scope.names.lookup x=some .local) (c:CompOk X scope own N' k) (hc:X.calm=true) (hi:SI X true os target iter wi fi) (hg:∀ s₂ H₂ fp C,SG (Zp X scope own N' s₂ H₂ fp C) os target g u) (hk:gD i u)
  (he:∀ s₂ H₂ fp C,WE (Zp X scope own N' s₂ H₂ fp C) κ true os i elt te F) (hj:j≠i:=by decide) (hos:∀ y∈os,y≠j:=by decide) (hsw:Kt (.ListComp elt [⟨target,iter,[],0⟩] scope pos) (some (.Name x pos')) spos.line X.env=pure true:=by rfl)
  (hs:∀ x,foldedSetIterable iter X.env x=pure x:=by intro _;rfl):WS X κ os os ol i (.Assign [.Name x pos'] (.ListComp elt [⟨target,iter,[],0⟩] scope pos) spos) (yG (Jk k wi g tYes te) (ZR j)) (Y0 j (wComp k fi u F)) :=
 ⟨WW hN hix hx c hc hi.pi (fun a b c d=>(hg a b c d).pg) (fun a b c d=>(yZ (os:=os)).pf) (fun a b c d=>(he a b c d).pe) hsw hs,ws_set (wf_compOk hi.ok (hg X.s₀ X.Ub [] 0).ok hk (he X.s₀ X.Ub [] 0).ok).eok hj hos⟩
end
section
variable {P:Ki} {w:Kk} {K:KC} {κ:Kd} {mg:Kw->Option Ka} {base:Kl}
def YD (k n:Nat) (M:WM):List D->List D->Option (D×List D):=fun ds S=>if ds.length=k then (M (zM n ds) S).bind fun r=>(outD r.1).map fun d=>(d,r.2) else none
open Classical in
theorem fnW_ok {x qual:Kw} {st:Kx} {f:Kc} {fd:Kh} {N ps:List Kw} {k i0:Nat} {M:WM} (F:Fun K x qual st f fd) (S:FnScope N ps (zF st)) (hi0:i0<ps.length)
  (hbody:∀ (cdv:Ka) (A:Kj) (outer:List Env) (s:Kb) (H:Hp) (E:XK),Room k (A.deeper (PyProof.Rows.envOfC qual (zF st) s.heap.objs.size f cdv)) ->
   ∃ t os',WSs (Jh CX0 P w K mg base N qual (zF st) f cdv A outer s H E).nox κ [] os' [] i0 (Zk st) t M):FnOk P w K mg base CX0 (k+1) f fd ps (spW K κ i0 (YD ps.length N.length M)):=by
 refine F.ok S (fun vs H Q E h=>?_) (fun cdv A outer s H vs Q E hr h=>?_)
 ·obtain ⟨B,Pt,ds,d,S0,S',h,hB,hb,h1,r,e,q,_⟩:=h
  unfold YD at q
  split at q
  ·rw [r.length];assumption
  ·cases q
 ·obtain ⟨B,Pt,ds,d,S0,S',h,hB,hb,h1,r,e,q,kk⟩:=h
  unfold YD at q
  split at q
  case isFalse=>cases q
  rename_i hlen
  obtain ⟨⟨o,S1⟩,q1,q2⟩:=zd q
  obtain ⟨d',q3,q4⟩:=map_some q2
  cases q4
  obtain ⟨t,os',hS⟩:=hbody cdv A outer s H E hr
  have m0:=jQ (N:=N) hB r
  have m1:Md K (fun b=>if Pt b then none else H b) B [] (L2.yi N vs) H (zM N.length ds):=⟨fun b o q=>by
   by_cases z:Pt b
   ·simp [z] at q
   ·simpa [z] using q,m0.blk,m0.len,m0.sh,fun i hi=>(by cases hi),fun i j a hi=>by cases hi⟩
  have slot:(zM N.length ds)[i0]?=some (some (.adr h)):=by
   unfold zM
   rw [QL (by rw [Qg];omega),QO,e];rfl
  have but:∀ {H':Hp},zQ (fun b=>if Pt b then none else H b) H'->∀ b o,H b=some o->¬ Pt b->H' b=some o:=fun s b o q n=>s b o (by simpa [n] using q)
  refine ⟨t,hS.ps,hS.ok (fun b=>if Pt b then none else H b) B Pt h (L2.yi N vs) H (zM N.length ds) S0 o _ _ ⟨m1,hb,fun b z=>by simp [z],by rw [YB];exact h1,slot,by simp⟩ q1 ?_⟩
  cases o with
  | nx ρ =>
   simp only [outD] at q3;cases q3
   exact fun σ' H' w'=>kk _ H' (but w'.md.grow) w'.out (by simp [Rep])
  | rt d' =>
   simp only [outD] at q3;cases q3
   exact fun v H' s' e1 _ r'=>kk v H' (but s') e1 r'
  | bk ρ=>cases q3
  | ct ρ=>cases q3
theorem _root_.L2.FnOk.noW {i0 k:Nat} {f:Kc} {fd:Kh} {ps:List Kw}:FnOk P w K mg base CX0 k f fd ps (spW K κ i0 fun _ _=>none) :=
 ⟨fun _ _ _ _ z=>(by obtain ⟨_,_,_,_,_,_,_,_,_,_,_,_,e,_⟩:=z;cases e),fun _ _ _ _ _ _ _ _ _ _ _ _ _ z=>(by obtain ⟨_,_,_,_,_,_,_,_,_,_,_,_,e,_⟩:=z;cases e)⟩
end
open Classical in
def mLend (j:Nat) (M:WM):Ev->Option Out:=fun ρ=>(ρ[j]?.join).bind fun x=>(asL x).bind fun S =>
 if h:∃ r:Ev×List D,∀ a,M (ρ.set j (some (.adr a))) S=some (.nx (r.1.set j (some (.adr a))),r.2) then some (.nx (h.choose.1.set j (some (.lst h.choose.2)))) else none
theorem mLend_eq {j:Nat} {M:WM} {ρ ρ':Ev} {S S':List D} (h1:ρ[j]?=some (some (.lst S))) (h2:∀ a,M (ρ.set j (some (.adr a))) S=some (.nx (ρ'.set j (some (.adr a))),S')):mLend j M ρ=some (.nx (ρ'.set j (some (.lst S')))):=by
 have h:∃ r:Ev×List D,∀ a,M (ρ.set j (some (.adr a))) S=some (.nx (r.1.set j (some (.adr a))),r.2):=⟨(ρ',S'),h2⟩
 unfold mLend
 rw [h1]
 simp only [Option.join_some,oB,asL]
 rw [dif_pos h]
 have e:=(h.choose_spec 0).symm.trans (h2 0)
 have e1:h.choose.2=S':=by
  have:=congrArg (fun o=>o.map Prod.snd) e
  simpa using this
 have e2:h.choose.1.set j (some (.adr 0))=ρ'.set j (some (.adr 0)):=by
  have:=congrArg (fun o=>o.map Prod.fst) e
  simpa using this
 have e3:=congrArg (fun l=>l.set j (some (D.lst S'))) e2
 simp only [List.set_set] at e3
 rw [e1,e3]
section
variable {K:KC} {fr:Bool} {os os1 ol ol1:List Nat} {j:Nat}
theorem sok_lend {t:TS} {M:WM} (hw:WOk K kL os1 os1 ol1 j t M) (hj:j∈os) (hn:j∉os1) (h1:∀ x∈os,x=j\/x∈os1) (h2:∀ x∈os1,x∈os):SOk K fr os os ol t (mLend j M):=fun Ub Uc σ H ρ o E mm q k=>by
 obtain ⟨x,q1,q2⟩:=zd q
 obtain ⟨S,q3,q4⟩:=zd q2
 split at q4
 case isFalse=>cases q4
 rename_i hc
 cases q4
 cases x <;> simp only [asL] at q3 <;> cases q3
 obtain ⟨a,ob,d,g1,g2,g3,g4,g5⟩:=mm.own j hj
 have q1':=Ye q1
 rw [q1'] at g2;cases g2
 cases ob <;> simp only [Own] at g5
 rename_i hs
 have hlj:j<ρ.length:=(Qh.mp q1').1
 have bl:∀ (σ':St),σ'[j]?=some (some (.ref a))->Bl (fun b=>Uc b\/b=a) os1 σ'=Bl Uc os σ':=fun σ' e=>funext fun b=>propext ⟨fun z=>by
  rcases z with (z | z) | ⟨x,hx,z⟩
  ·exact .inl z
  ·exact .inr ⟨j,hj,by rw [z];exact e⟩
  ·exact .inr ⟨x,h2 x hx,z⟩,fun z=>by
  rcases z with z | ⟨x,hx,z⟩
  ·exact .inl (.inl z)
  ·rcases h1 x hx with rfl | hx
   ·rw [e] at z;cases z;exact .inl (.inr rfl)
   ·exact .inr ⟨x,hx,z⟩⟩
 have w0:Wd K kL Ub (fun b=>Uc b\/b=a) (fun b=>b=a) os1 j a S σ H (ρ.set j (some (.adr a))):=by
  refine ⟨⟨mm.grow,fun b hb=>?_,by rw [Qp];exact mm.len,fun x d q n=>?_,fun x hx=>?_,fun x y b hx hy=>mm.sep x y b (h2 x hx) (h2 y hy)⟩,fun b hb=>.inr hb,fun b hb=>(by rw [hb];exact g4.1),⟨fun b=>Iff.rfl,hs,g3,by rw [bl σ g1];exact g5⟩,zL hlj,hn⟩
  ·rcases hb with hb | hb
   ·exact mm.blk b hb
   ·rw [hb];exact ⟨_,g3⟩
  ·by_cases e:x=j
   ·subst e
    rw [zL hlj] at q;cases q
    exact ⟨_,g1,by simp [Rep]⟩
   ·rw [zc e] at q
    obtain ⟨v,e1,e2⟩:=mm.sh x d q fun z=>(h1 x z).elim e n
    exact ⟨v,e1,by rw [bl σ g1];exact e2⟩
  ·have hne:x≠j:=fun e=>hn (e▸hx)
   obtain ⟨a',u,d,e1,e2,e3,e4,e5⟩:=mm.own x (h2 x hx)
   exact ⟨a',u,d,e1,by rw [zc hne];exact e2,e3,⟨e4.1,fun z=>z.elim e4.2 fun z=>hne (mm.sep x j a (h2 x hx) hj (by rw [<- z];exact e1) g1)⟩,by rw [bl σ g1];exact e5⟩
 refine hw Ub _ _ a σ H _ S _ _ E w0 (hc.choose_spec a) ?_
 generalize hc.choose=r at *
 intro σ' H' w'
 obtain ⟨p,hs',f1,f2⟩:=w'.at_
 have rf:=w'.ref
 have hl':j<r.1.length:=by
  have:=(Qh.mp w'.slot).1
  simpa using this
 refine k σ' H' ⟨w'.md.grow,fun b hb=>w'.md.blk b (.inl hb),by have:=w'.md.len;rw [Qp] at this ⊢;exact this,fun x d q n=>?_,fun x hx=>?_,fun x y b hx hy e1 e2=>?_⟩
 ·have hne:x≠j:=fun e=>n (e▸hj)
  rw [zc hne] at q
  obtain ⟨v,e1,e2⟩:=w'.md.sh x d (by rw [zc hne];exact q) fun z=>n (h2 x z)
  exact ⟨v,e1,by rw [<- bl σ' rf];exact e2⟩
 ·rcases h1 x hx with rfl | hx'
  ·exact ⟨a,_,_,rf,zL hl',f1,g4,by simp only [Own];rw [<- bl σ' rf];exact f2⟩
  ·have hne:x≠j:=fun e=>hn (e▸hx')
   obtain ⟨a',u,d,e1,e2,e3,e4,e5⟩:=w'.md.own x hx'
   rw [zc hne] at e2
   exact ⟨a',u,d,e1,by rw [zc hne];exact e2,e3,⟨e4.1,fun z=>e4.2 (.inl z)⟩,by rw [<- bl σ' rf];exact e5⟩
 ·rcases h1 x hx with rfl | hx' <;> rcases h1 y hy with e | hy'
  ·exact e.symm
  ·rw [rf] at e1;cases e1
   obtain ⟨a',u,d,c1,c2,c3,c4,c5⟩:=w'.md.own y hy'
   rw [e2] at c1;cases c1
   exact absurd (.inr rfl) c4.2
  ·subst e
   rw [rf] at e2;cases e2
   obtain ⟨a',u,d,c1,c2,c3,c4,c5⟩:=w'.md.own x hx'
   rw [e1] at c1;cases c1
   exact absurd (.inr rfl) c4.2
  ·exact w'.md.sep x y b hx' hy' e1 e2
end
theorem ss_lend {X:Cx} {fr:Bool} {os os1 ol ol1:List Nat} {j:Nat} {s:Kx} {t:TS} {M1:WM} (hw:WS X kL os1 os1 ol1 j s t M1) (hj:j∈os:=by decide) (hn:j∉os1:=by decide) (h1:∀ x∈os,x=j\/x∈os1:=by decide) (h2:∀ x∈os1,x∈os:=by decide):SS X fr os os ol s t (mLend j M1):=⟨hw.ps,sok_lend hw.ok hj hn h1 h2⟩
theorem se_globT {X:Cx} {st:Bool} {os:List Nat} {x:Kw} {a:Kc} {o:KA} {KQ:Array Ka} {n:Nat} {ds:List D} {vs:List V} {pos:KB} (hg:Gl X x) (hm:X.mg x=some (.ref a)) (hl:X.K.lookup a=some o) (hc:o.cls=.type "tuple") (hd:o.data=.seq KQ n) (hz:KQ.size<=Kg) (hv:zP vs KQ.toList)
  (hr:∀ H B,zm X.K H B ds vs) (hdb:(x == ("__debug__":Kw))=false:=by decide):SE X st os (.Name x pos) (tC (.ref a)) (fC (.tup ds)) :=
 ⟨Yb hg hm rfl hdb,fun Ub Uc σ H ρ d Q m q k=>by
  cases q
  refine k _ H (.refl H) ?_
  simp only [Rep]
  exact ⟨a,vs,rfl,.inr ⟨o,KQ,n,hl,hc,hd,hz,hv⟩,hr _ _⟩⟩
abbrev lFs (vb vl:V) (c:Int) (s:Kc):List (Kw×V):=[("bodies",vb),("laying",vl),("count",.int c),("steps",.ref s)]
def kO (C:Kc):Kd where
 hd K H B P h S:=∃ (dx s:Kc) (hs:List V) (c:Int) (vb vl:V) (b l:D) (st:List D),(∀ x,P x↔x=h\/x=s)/\h≠s/\H h=some (.ins C dx (lFs vb vl c s))/\H s=some (.lst hs)/\S=.int c::b::l::st/\Rep K H B b vb/\Rep K H B l vl/\zm K H B st hs
 mtb:=fun z x hx=>by
  obtain ⟨dx,s,hs,c,vb,vl,b,l,st,p,ne,h1,h2,_⟩:=z
  rcases (p x).1 hx with rfl | rfl
  ·exact ⟨_,h1,trivial⟩
  ·exact ⟨_,h2,trivial⟩
 goes:=fun z g k=>by
  obtain ⟨dx,s,hs,c,vb,vl,b,l,st,p,ne,h1,h2,e,r1,r2,r3⟩:=z
  exact ⟨dx,s,hs,c,vb,vl,b,l,st,p,ne,k _ _ ((p _).2 (.inl rfl)) h1,k _ _ ((p _).2 (.inr rfl)) h2,e,Rep.goes g _ _ r1,Rep.goes g _ _ r2,zm.goes g _ _ r3⟩
structure LCls (K:KC) (C:Kc):Prop where
 cls:Cls K C
 nb:Yj K C "bodies"
 nl:Yj K C "laying"
 nc:Yj K C "count"
 ns:Yj K C "steps"
def wFld (n:Nat):WF:=fun ρ S=>(S[n]?).map fun d=>(d,S)
section
variable {K:KC} {C:Kc} {os os' ol:List Nat} {i:Nat} {st:Bool}
theorem we_cnt (T:LCls K C):Yh K (kO C) st os i (wR K (Zj i) "count") (wFld 0):=fun Ub Uc P h σ H ρ S d S' Q w q k=>by
 obtain ⟨dx,s,hs,c,vb,vl,b,l,sts,p,ne,h1,h2,e,r1,r2,r3⟩:=w.at_
 subst e
 cases q
 exact ⟨.ref h,w.ref,h,C,dx,_,.int c,rfl,h1,T.cls,T.nc,rfl,k _ H (fun b o q _=>q) w (by simp [Rep])⟩
theorem we_bod (T:LCls K C):Yh K (kO C) st os i (wR K (Zj i) "bodies") (wFld 1):=fun Ub Uc P h σ H ρ S d S' Q w q k=>by
 obtain ⟨dx,s,hs,c,vb,vl,b,l,sts,p,ne,h1,h2,e,r1,r2,r3⟩:=w.at_
 subst e
 cases q
 exact ⟨.ref h,w.ref,h,C,dx,_,vb,rfl,h1,T.cls,T.nb,rfl,k _ H (fun b o q _=>q) w r1.low⟩
theorem we_lay (T:LCls K C):Yh K (kO C) st os i (wR K (Zj i) "laying") (wFld 2):=fun Ub Uc P h σ H ρ S d S' Q w q k=>by
 obtain ⟨dx,s,hs,c,vb,vl,b,l,sts,p,ne,h1,h2,e,r1,r2,r3⟩:=w.at_
 subst e
 cases q
 exact ⟨.ref h,w.ref,h,C,dx,_,vl,rfl,h1,T.cls,T.nl,rfl,k _ H (fun b o q _=>q) w r2.low⟩
def wIxL (F:WF) (fk:Ev->Option D):WF:=fun ρ S=>(F ρ S).bind fun r=>(asL r.1).bind fun ds=>(fk ρ).bind fun d=>(asI d).bind fun k=>(atI ds k).map fun x=>(x,r.2)
theorem we_wixOk {κ:Kd} {ta tb:TE} {F:WF} {fk:Ev->Option D} (ha:Yh K κ true os i ta F) (hb:EOk K true os tb fk):Yh K κ st os i (tOp (rIxL K) ta tb) (wIxL F fk):=fun Ub Uc P h σ H ρ S d S' Q w q k=>by
 obtain ⟨⟨y,S1⟩,q1,qa⟩:=zd q
 obtain ⟨ds,q2,qb⟩:=zd qa
 obtain ⟨dk,q3,qc⟩:=zd qb
 obtain ⟨n,q4,qd⟩:=zd qc
 obtain ⟨x,q5,q6⟩:=map_some qd
 cases q6
 cases y <;> simp only [asL] at q2 <;> cases q2
 refine ha Ub Uc P h σ H ρ S _ S1 _ w q1 fun v H1 k1 w1 r1=>?_
 refine hb Ub Uc σ H1 ρ dk _ w1.md q3 fun u H2 s2 r2=>?_
 have e2:=asI_v r2 q4
 subst e2
 have r1':Rep K H2 (Bl Uc os σ) (.lst ds) v:=Rep.up s2 r1
 simp only [Rep] at r1'
 obtain ⟨a,xs,rfl,hq,hr⟩:=r1'
 obtain ⟨v,e1,r3⟩:=hr.atI q5
 exact ⟨a,xs,n,v,rfl,rfl,.inl hq.1,e1,k v H2 (fun b o q n=>s2 _ _ (k1 _ _ q n)) (w1.up s2) r3.low⟩
def wDGet (F:WF) (fk:Ev->Option D):WF:=fun ρ S=>(F ρ S).bind fun r=>(fk ρ).bind fun y=>(gi r.1 y).map fun x=>(x,r.2)
theorem we_wdgetOk {κ:Kd} {ta tb:TE} {F:WF} {fk:Ev->Option D} (ha:Yh K κ true os i ta F) (hb:EOk K true os tb fk):Yh K κ st os i (tDGet ta tb) (wDGet F fk):=fun Ub Uc P h σ H ρ S d S' Q w q k=>by
 obtain ⟨⟨x,S1⟩,q1,qa⟩:=zd q
 obtain ⟨y,q2,qb⟩:=zd qa
 obtain ⟨z,h4,q6⟩:=map_some qb
 cases q6
 refine ha Ub Uc P h σ H ρ S _ S1 _ w q1 fun v H1 k1 w1 r1=>?_
 refine hb Ub Uc σ H1 ρ y _ w1.md q2 fun u H2 s2 r2=>?_
 cases x <;> cases y <;> simp only [gi] at h4 <;> try (cases h4)
 have r1':=Rep.up s2 r1
 simp only [Rep] at r1' r2
 obtain ⟨b,KP,rfl,⟨hb,_⟩,rfl,hr⟩:=r1'
 subst r2
 obtain ⟨w',g1,g2⟩:=look_v hr h4
 exact ⟨b,w',rfl,by rw [<- g1];exact DGet.k (k:=.inl _) hb,k w' H2 (fun b o q n=>s2 _ _ (k1 _ _ q n)) (w1.up s2) g2.low⟩
def wInc:WM:=fun ρ S=>match S with
 | .int c::r=>some (.nx ρ,.int (c+1)::r)
 | _=>none
theorem ws_inc (T:LCls K C):WOk K (kO C) os os ol i (sFldAug K (Zj i) (tC (.int 1)) rAdd "count") wInc:=fun Ub Uc P h σ H ρ S o S' E w q k=>by
 obtain ⟨dx,s,hs,c,vb,vl,b,l,sts,p,ne,h1,h2,e,r1,r2,r3⟩:=w.at_
 subst e
 cases q
 refine ⟨.ref h,w.ref,h,C,dx,_,.int c,rfl,h1,T.cls,T.nc,rfl,c,1,rfl,rfl,dx,_,h1,by show 4<1000;decide,?_⟩
 have hk:∀ b o,H b=some o->¬ P b->upd H h (.ins C dx (lFs vb vl (c+1) s)) b=some o:=fun b o q n=>by rw [zv (fun e=>n ((p b).2 (.inl e)))];exact q
 have g:=w.goes hk
 exact k σ _ (w.write hk ⟨dx,s,hs,c+1,vb,vl,b,l,sts,p,ne,zu,by rw [zv (Ne.symm ne)];exact h2,rfl,Rep.goes g _ _ r1,Rep.goes g _ _ r2,zm.goes g _ _ r3⟩)
def wStep (f:Ev->Option D):WM:=fun ρ S=>(f ρ).bind fun d=>if S.length<Kg then some (.nx ρ,S++[d]) else none
theorem ws_step (T:LCls K C) {te:TE} {f:Ev->Option D} (he:EOk K true os te f):WOk K (kO C) os os ol i (YI (tBM K "list" Ya (wR K (Zj i) "steps") (zW te ZS))) (wStep f):=fun Ub Uc P h σ H ρ S o S' E w q k=>by
 obtain ⟨d,q1,q2⟩:=zd q
 split at q2
 case isFalse=>cases q2
 rename_i hl
 cases q2
 obtain ⟨dx,s,hs,c,vb,vl,b,l,sts,p,ne,h1,h2,e,r1,r2,r3⟩:=w.at_
 subst e
 refine ⟨.ref h,w.ref,h,C,dx,_,.ref s,rfl,h1,T.cls,T.ns,rfl,.inl ⟨rfl,hs,.inl (.inl h2)⟩,?_⟩
 refine he Ub Uc σ H ρ d _ w.md q1 fun v H' s' r=>?_
 have w':=w.up s'
 have hk:∀ b o,H' b=some o->¬ P b->upd H' s (.lst (hs++[v])) b=some o:=fun b o q n=>by rw [zv (fun e=>n ((p b).2 (.inr e)))];exact q
 have g:=w'.goes hk
 have hlen:hs.length<Kg:=by rw [r3.length];simp only [Qd] at hl;omega
 exact ⟨s,hs,v,rfl,rfl,s' _ _ h2,hlen,k σ _ (w'.write hk ⟨dx,s,hs++[v],c,vb,vl,b,l,sts++[d],p,ne,by rw [zv ne];exact s' _ _ h1,zu,rfl,Rep.goes g _ _ (r1.up s'),Rep.goes g _ _ (r2.up s'),zm.goes g _ _ ((r3.up s').append (.one r))⟩)⟩
def Yq (i:Nat) (mf:List D->List D->Option (D×List D)) (G:WL):WF:=fun ρ S=>(ρ[i]?.join).bind fun x=>(G ρ S).bind fun r=>mf (x::r.1) r.2
theorem we_methOk {mn:Kw} {mf:List D->List D->Option (D×List D)} {tl:TA} {G:WL} (hm:∀ vb vl c s,(lFs vb vl c s).lookup mn=none) (ha:WAOk K (kO C) os i tl G):Yh K (kO C) st os i (Ww C mn (spW K (kO C) 0 mf) [] E0 (Zj i) tl) (Yq i mf G):=fun Ub Uc P h σ H ρ S d S' Q w q k=>by
 obtain ⟨x,q0,q⟩:=zd q
 obtain ⟨⟨ds,S1⟩,q1,q2⟩:=zd q
 have ex:=Ye q0
 rw [w.slot] at ex
 cases ex
 obtain ⟨dx,s,hs,c,vb,vl,b,l,sts,p,ne,h1,h2,e,r1,r2,r3⟩:=w.at_
 refine ⟨.ref h,w.ref,h,dx,_,rfl,h1,hm _ _ _ _,?_⟩
 refine ha Ub Uc P h σ H ρ S ds S1 _ w q1 fun vs H1 k1 w1 r=>?_
 rw [QZ]
 refine ⟨Bl Uc os σ,P,_,d,S1,S',h,fun a ha=>w1.md.tracked ha,fun b hb=>.inl (w1.blk b hb),w1.at_,.cons (by simp [Rep]) r,rfl,q2,fun v H' hk r1 r2=>?_⟩
 exact k v H' (fun b o q n=>hk _ _ (k1 _ _ q n) n) (w1.write hk r1) r2.low
end
section
variable {X:Cx} {C:Kc} {os os' ol:List Nat} {i:Nat} {st:Bool} {x:Kw} {p pos:KB}
theorem wl_fld {f:Kw} {F:WF} (hw:Yh X.K (kO C) st os i (wR X.K (Zj i) f) F) (hN:X.N[i]?=some x:=by rfl) (hv:Vis X.env.scope x:=by first | exact Or.inl rfl | exact Or.inr (Or.inl rfl) | exact Or.inr (Or.inr rfl)) (hd:(x == ("__debug__":Kw))=false:=by decide)
  (hcd:(x == ("__classdict__":Kw))=false:=by decide) (hb:Kp (.Name x p) f X.env (Kz (.Name x p) X.env)=Kz (.Name x p) X.env:=by rfl):WE X (kO C) st os i (.Attribute (.Name x p) f pos) (wR X.K (Zj i) f) F:=⟨pe_fld (pv i hN hv hd hcd) hb,hw⟩
theorem wl_ix {κ:Kd} {a b:Kv} {ta tb:TE} {F:WF} {fk:Ev->Option D} (ha:WE X κ true os i a ta F) (hb:SE X true os b tb fk) (hs:J2 b:=by intro _ _;rfl) {K':KC} (hK:X.K=K':=by rfl):WE X κ st os i (.Subscript a b pos) (tOp (rIxL K') ta tb) (wIxL F fk):=by
 subst hK
 exact ⟨JQ jq ha.pe hb.pe hs,we_wixOk ha.ok hb.ok⟩
theorem wl_dget {κ:Kd} {k:Nat} {a b:Kv} {ta tb:TE} {F:WF} {fk:Ev->Option D} (hr:Room k X.A) (ha:WE X κ true os i a ta F) (hb:SE X true os b tb fk) (hs:NoSl b:=by intro _ _;rfl):WE X κ st os i (.Subscript a b pos) (tDGet ta tb) (wDGet F fk):=⟨pe_dget (hu_of hr) ha.pe hb.pe hs,we_wdgetOk ha.ok hb.ok⟩
theorem wl_inc {tpos:KB} {j:Nat} {cp:KB} (T:LCls X.K C) (hN:X.N[i]?=some x:=by rfl) (hv:Vis X.env.scope x:=by first | exact Or.inl rfl | exact Or.inr (Or.inl rfl) | exact Or.inr (Or.inr rfl)) (hd:(x == ("__debug__":Kw))=false:=by decide)
  (hcd:(x == ("__classdict__":Kw))=false:=by decide):WS X (kO C) os os ol i (.AugAssign (.Attribute (.Name x p) "count" tpos) .Add (.Constant (.int 1) j cp) pos) (sFldAug X.K (Zj i) (tC (.int 1)) rAdd "count") wInc:=⟨ps_fldaug (pv i hN hv hd hcd) yK in_add,ws_inc T⟩
theorem wl_step {e:Kv} {te:TE} {f:Ev->Option D} {apos bpos cpos:KB} (T:LCls X.K C) (h:SE X true os e te f) (hN:X.N[i]?=some x:=by rfl) (hv:Vis X.env.scope x:=by first | exact Or.inl rfl | exact Or.inr (Or.inl rfl) | exact Or.inr (Or.inr rfl)) (hd:(x == ("__debug__":Kw))=false:=by decide)
  (hcd:(x == ("__classdict__":Kw))=false:=by decide) (hb:Kp (.Name x p) "steps" X.env (Kz (.Name x p) X.env)=Kz (.Name x p) X.env:=by rfl) (hs1:Ke [e] X.env=(false,Kz e X.env)::Ke [] X.env:=by rfl)
  (hbase:Kp (.Attribute (.Name x p) "steps" bpos) "append" X.env (Kz (.Attribute (.Name x p) "steps" bpos) X.env)=Kz (.Attribute (.Name x p) "steps" bpos) X.env:=by rfl)
  (hfew:((Kq cpos (Ke [e] X.env)).all (fun x=>!x.1)&&(Kr cpos (Ks [] X.env)).all (fun x=>x.1.isSome)
   && decide ([e].length+([]:List Keyword).length+(if ([]:List Keyword).isEmpty then 0 else 1)<30))=true:=by rfl)
  (hline:(apos.endLine == cpos.line)=true:=by rfl) (hplain:(Kq cpos (Ke [] X.env)).any (·.1)=false:=by rfl) (hs:Kt (.Call (.Attribute (.Attribute (.Name x p) "steps" bpos) "append" apos) [e] [] cpos) none pos.line X.env=pure false:=by rfl) :
  WS X (kO C) os os ol i (.Expr (.Call (.Attribute (.Attribute (.Name x p) "steps" bpos) "append" apos) [e] [] cpos) pos) (YI (tBM X.K "list" Ya (wR X.K (Zj i) "steps") (zW te ZS))) (wStep f) :=
 ⟨Yl (pe_bm KJ PySem.F.slot_list_append PySem.F.type_list_append Y6 (pe_fld (pv i hN hv hd hcd) hb) (zC h.pe zY hs1) hbase hfew hline hs1 hplain) hs,ws_step T h.ok⟩
variable {k:Nat} {fn:Kc} {fd:Kh} {ps:List Kw} {mf:List D->List D->Option (D×List D)} {mn:Kw}
theorem wl_meth {pl:Sem Bool} {e:Kv} {es:List Kv} {tl:TA} {G:WL} {apos:KB} (T:LCls X.K C) (hm:Meth X.K C mn fn) (F:FnOk X.prog X.w X.K X.mg X.base CX0 k fn fd ps (spW X.K (kO C) 0 mf)) (hr:Room k X.A) (hb:yR X.K fd ps []) (ha:WA X (kO C) os i (e::es) tl G)
  (hl:∀ vb vl c s,(lFs vb vl c s).lookup mn=none) (hN:X.N[i]?=some x:=by rfl) (hv:Vis X.env.scope x:=by first | exact Or.inl rfl | exact Or.inr (Or.inl rfl) | exact Or.inr (Or.inr rfl)) (hd:(x == ("__debug__":Kw))=false:=by decide) (hcd:(x == ("__classdict__":Kw))=false:=by decide)
  (hst:Ke (e::es) X.env=(false,Kz e X.env)::Ke es X.env:=by rfl) (hpl:(Kq pos (Ke es X.env)).any (·.1)=false:=by rfl)
  (ht:Kz (.Call (.Attribute (.Name x p) mn apos) (e::es) [] pos) X.env=(do
   let ov <- Kz (.Name x p) X.env
   standAt apos.atName
   let (f,first) <- holding [ov] (getMethod ov mn pl)
   callWith pos f first (Kq pos (Ke (e::es) X.env)) (Kr pos (Ks [] X.env))):=by rfl) {K':KC} (hK:X.K=K':=by rfl) :
  WE X (kO C) st os i (.Call (.Attribute (.Name x p) mn apos) (e::es) [] pos) (Ww C mn (spW K' (kO C) 0 mf) [] E0 (Zj i) tl) (Yq i mf G):=by
 subst hK
 exact ⟨pe_meth (pv i hN hv hd hcd) T.cls hm F hr hb .nil WZ ha.pa hst hpl ht,we_methOk hl ha.ok⟩
theorem wl_meth0 {pl:Sem Bool} {apos:KB} (T:LCls X.K C) (hm:Meth X.K C mn fn) (F:FnOk X.prog X.w X.K X.mg X.base CX0 k fn fd ps (spW X.K (kO C) 0 mf)) (hr:Room k X.A) (hb:yR X.K fd ps [])
  (hl:∀ vb vl c s,(lFs vb vl c s).lookup mn=none) (hN:X.N[i]?=some x:=by rfl) (hv:Vis X.env.scope x:=by first | exact Or.inl rfl | exact Or.inr (Or.inl rfl) | exact Or.inr (Or.inr rfl)) (hd:(x == ("__debug__":Kw))=false:=by decide) (hcd:(x == ("__classdict__":Kw))=false:=by decide)
  (ht:Kz (.Call (.Attribute (.Name x p) mn apos) [] [] pos) X.env=(do
   let ov <- Kz (.Name x p) X.env
   standAt apos.atName
   let (f,first) <- holding [ov] (getMethod ov mn pl)
   callWith pos f first (Kq pos (Ke [] X.env)) (Kr pos (Ks [] X.env))):=by rfl) {K':KC} (hK:X.K=K':=by rfl) :
  WE X (kO C) st os i (.Call (.Attribute (.Name x p) mn apos) [] [] pos) (Ww C mn (spW K' (kO C) 0 mf) [] E0 (Zj i) ZS) (Yq i mf (wL zr)):=by
 subst hK
 exact ⟨pe_meth0 (pv i hN hv hd hcd) T.cls hm F hr hb .nil WZ ht,we_methOk hl (wa_lift zk.ok)⟩
end
def inCls (s:Kx) (j:Nat):Kx:=match s with
 | .ClassDef _ _ _ body _ _ _ _ _ _ _=>body.getD j (.Pass ⟨0,0,0,0⟩)
 | _=>.Pass ⟨0,0,0,0⟩
def WI (K:KC) (C:Kc) (m:List D->Option D):Sp:=fun vs H Q _=>∃ (B:Kc->Prop) (x dx:Kc) (vb:V) (b l:D),vs=[.ref x,vb]/\(∀ a,B a->∃ o,H a=some o)/\H x=some (.ins C dx [])/\Rep K H (fun c=>B c\/c=x) b vb/\m [b]=some l /\
 ∀ H' s vl,(∀ c o,H c=some o->c≠x->H' c=some o)->s≠x->H s=none->H' s=some (.lst [])->H' x=some (.ins C dx (lFs vb vl 1 s))->Rep K H' (fun c=>B c\/c=x\/c=s) b vb->Rep K H' (fun c=>B c\/c=x\/c=s) l vl->Q .non H'
abbrev tInit (K:KC) (m:List D->Option D):TS:=yF (sFld K (Zj 0) (Zj 1) "bodies") (yF (sFld K (Zj 0) (jI (spM K m) [] E0 (zW (Zj 1) ZS)) "laying") (yF (sFld K (Zj 0) (tC (.int 1)) "count") (sFld K (Zj 0) (tLst ZS) "steps")))
theorem init_read {K:KC} {C:Kc} {m:List D->Option D} (T:LCls K C) {vs:List V} {H:Hp} {Q:VK} {E:XK} (h:WI K C m vs H Q E):tInit K m { nx:=fun _ H'=>Q .non H',rt:=Q } (L2.yi ["self","bodies"] vs) H:=by
 obtain ⟨B,x,dx,vb,b,l,rfl,hB,hx,rb,hm,k⟩:=h
 refine ⟨vb,rfl,.ref x,rfl,x,C,dx,[],rfl,hx,T.cls,T.nb,by show 0<1000;decide,?_⟩
 refine ⟨vb,rfl,?_⟩
 have ux:∀ {H1:Hp} {o:HO},upd H1 x o x=some o:=zu
 have un:∀ {H1:Hp} {o:HO} {c:Kc},c≠x->upd H1 x o c=H1 c:=fun n=>zv n
 refine ⟨fun c=>B c\/c=x,[b],l,fun a ha=>?_,.cons (Rep.goes (Goes.write (B:=fun c=>B c\/c=x) (.inr rfl) hx trivial) _ _ rb) .nil,hm,fun vl H2 s2 r2=>?_⟩
 ·by_cases e:a=x
  ·rw [e];exact ⟨_,ux⟩
  ·rw [un e];exact hB a (ha.resolve_right e)
 have h2x:=s2 _ _ (ux (H1:=H) (o:=.ins C dx (jD "bodies" vb [])))
 refine ⟨.ref x,rfl,x,C,dx,_,rfl,h2x,T.cls,T.nl,by show 1<1000;decide,?_⟩
 refine ⟨.ref x,rfl,x,C,dx,_,rfl,ux,T.cls,T.nc,by show 2<1000;decide,?_⟩
 refine ⟨by show 0<=_;omega,fun s hs=>?_⟩
 have hsx:s≠x:=fun e=>by rw [e,ux] at hs;cases hs
 refine ⟨.ref x,rfl,x,C,dx,_,rfl,by rw [zv (Ne.symm hsx)];exact ux,T.cls,T.ns,by show 3<1000;decide,?_⟩
 have hs2:H2 s=none:=by rwa [un hsx,un hsx] at hs
 have f2:∀ c o,H2 c=some o->c≠x->∀ (o1 o2 o3 o4:HO),upd (upd (upd (upd H2 x o1) x o2) s o3) x o4 c=some o:=fun c o q n o1 o2 o3 o4=>by
  rw [un n,zv (fun e=>by rw [e,hs2] at q;cases q),un n,un n];exact q
 have f0:∀ c o,H c=some o->c≠x->H2 c=some o:=fun c o q n=>s2 _ _ (by rw [un n];exact q)
 have hs0:H s=none:=by
  cases q:H s with
  | none=>rfl
  | some o=>have:=f0 s o q hsx;rw [hs2] at this;cases this
 refine k _ s vl (fun c o q n=>f2 c o (f0 c o q n) n _ _ _ _) hsx hs0 (by rw [un hsx];exact zu) ux ?_ ?_
 ·refine Rep.goes (Yf (P:=fun c=>c=x) (fun c o q n=>f2 c o (f0 c o q n) n _ _ _ _) (fun c o z q=>by rw [z,hx] at q;cases q;trivial) (fun c z=>.inr z) fun c z=>?_) _ _ rb
  rcases z with z | z | z
  ·exact .inl (.inl z)
  ·exact .inl (.inr z)
  ·exact .inr (by rw [z];exact hs0)
 ·refine Rep.goes (Yf (P:=fun c=>c=x) (fun c o q n=>f2 c o q n _ _ _ _) (fun c o z q=>by rw [z,h2x] at q;cases q;trivial) (fun c z=>.inr z) fun c z=>?_) _ _ r2
  rcases z with z | z | z
  ·exact .inl (.inl z)
  ·exact .inl (.inr z)
  ·exact .inr (by rw [z];exact hs2)
def TL (K:KC) (H H':Hp) (B:Kc->Prop) (d:D) (v:V):Prop:=∃ (p s:Kc) (c e:Int) (hs:List V) (st:List D),v=.ref p/\d=.tup [.int c,.lst st,.int e]/\H s=none/\H' s=some (.lst hs)/\SqT K H' p [.int c,.ref s,.int e]/\zm K H' (fun b=>B b\/b=s) st hs
theorem TL.rep {K:KC} {H H':Hp} {B:Kc->Prop} {d:D} {v:V} (h:TL K H H' B d v) (hB:∀ a,B a->∃ o,H a=some o):Rep K H' B d v:=by
 obtain ⟨p,s,c,e,hs,st,rfl,rfl,h1,h2,h3,h4⟩:=h
 have nb:¬ B s:=fun z=>by obtain ⟨o,q⟩:=hB s z;rw [h1] at q;cases q
 simp only [Rep]
 exact ⟨p,_,rfl,h3,.cons (by simp [Rep]) (.cons (by
  simp only [Rep]
  exact ⟨s,hs,rfl,⟨.inl h2,nb⟩,zm.goes (.less (fun _ z=>.inl z) (.refl H')) _ _ h4⟩) (.cons (by simp [Rep]) .nil))⟩
def spL (K:KC) (m:List D->Option D):Sp:=fun vs H Q _=>∃ (B:Kc->Prop) (ds:List D) (d:D),(∀ a,B a->∃ o,H a=some o)/\zm K H B ds vs/\m ds=some d/\∀ v H',zQ H H'->TL K H H' B d v->Q v H'
theorem _root_.L2.FnOk.told {P:Ki} {w:Kk} {K:KC} {mg:Kw->Option Ka} {base:Kl} {k:Nat} {f:Kc} {fd:Kh} {ps:List Kw} {m:List D->Option D} (h:FnOk P w K mg base CX0 k f fd ps (spL K m)):FnOk P w K mg base CX0 k f fd ps (spM K m) :=
 have z:∀ {vs:List V} {H:Hp} {Q:VK} {E:XK},spM K m vs H Q E->spL K m vs H Q E:=fun ⟨B,ds,d,hB,r,q,kk⟩=>⟨B,ds,d,hB,r,q,fun v H' s t=>kk v H' s (t.rep hB)⟩
 ⟨fun vs H Q E x=>h.len vs H Q E (z x),fun A outer s H bd us vs Q E hr I hb r x=>h.run A outer s H bd us vs Q E hr I hb r (z x)⟩
open Classical in
def mLaid (mp:List D->Option D) (f:Ev->Option D) (M2:WM):Ev->Option Out:=fun ρ=>(f ρ).bind fun b=>(mp [b]).bind fun l =>
 if h:∃ r:Int×List D,∀ a,∃ ρ',M2 (ρ.set 1 (some (.adr a))) [.int 1,b,l]=some (.nx ρ',r.2)/\ρ'[2]?=some (some (.int r.1)) then
  match h.choose.2 with
  | .int c::_::_::st=>some (.rt (.tup [.int c,.lst st,.int h.choose.1]))
  | _=>none
 else none
theorem mLaid_eq {mp:List D->Option D} {f:Ev->Option D} {M2:WM} {ρ:Ev} {b l b' l':D} {c e:Int} {st:List D} (h1:f ρ=some b) (h2:mp [b]=some l) (h3:∀ a,∃ ρ',M2 (ρ.set 1 (some (.adr a))) [.int 1,b,l]=some (.nx ρ',.int c::b'::l'::st)/\ρ'[2]?=some (some (.int e))) :
  mLaid mp f M2 ρ=some (.rt (.tup [.int c,.lst st,.int e])):=by
 have h:∃ r:Int×List D,∀ a,∃ ρ',M2 (ρ.set 1 (some (.adr a))) [.int 1,b,l]=some (.nx ρ',r.2)/\ρ'[2]?=some (some (.int r.1)):=⟨(e,_),h3⟩
 unfold mLaid
 rw [h1]
 simp only [oB]
 rw [h2]
 simp only [oB]
 rw [dif_pos h]
 obtain ⟨ρ1,a1,a2⟩:=h.choose_spec 0
 obtain ⟨ρ2,b1,b2⟩:=h3 0
 rw [b1] at a1
 injection a1 with a1
 injection a1 with a1 a3
 injection a1 with a1
 subst a1
 rw [b2] at a2
 injection a2 with a2
 injection a2 with a2
 injection a2 with a2
 rw [<- a2,<- a3]
abbrev tLaid (K:KC) (C:Kc) (mp:List D->Option D) (te:TE) (t2:TS):TS:=yF (yG (tMake C (WI K C mp) [] E0 (zW te ZS)) (ZR 1)) (yF t2 (wQ (Wv (zW (wR K (Zj 1) "count") (zW (wR K (Zj 1) "steps") (zW (Zj 2) ZS))))))
section
variable {P:Ki} {w:Kk} {K:KC} {mg:Kw->Option Ka} {base:Kl} {C:Kc}
theorem fnLaid_ok {x qual:Kw} {st:Kx} {f:Kc} {fd:Kh} {N ps:List Kw} {k:Nat} {mp:List D->Option D} {fe:Ev->Option D} {M2:WM} (T:LCls K C) (F:Fun K x qual st f fd) (S:FnScope N ps (zF st)) (hps:ps.length=1) (hN:N.length=3)
  (hbody:∀ (cdv:Ka) (A:Kj) (outer:List Env) (s:Kb) (H:Hp) (E:XK),Room k (A.deeper (PyProof.Rows.envOfC qual (zF st) s.heap.objs.size f cdv)) ->
   ∃ te t2,PSs (Jh CX0 P w K mg base N qual (zF st) f cdv A outer s H E).nox (Zk st) (tLaid K C mp te t2)/\EOk K true [] te fe/\WOk K (kO C) [] [] [] 1 t2 M2):FnOk P w K mg base CX0 (k+1) f fd ps (spL K (Z1 ps.length N.length (mLaid mp fe M2))):=by
 refine F.ok S (fun vs H Q E h=>?_) (fun cdv A outer s H vs Q E hr h=>?_)
 ·obtain ⟨B,ds,d,hB,r,q,_⟩:=h
  unfold Z1 at q
  split at q
  ·rw [r.length];assumption
  ·cases q
 ·obtain ⟨B,ds,d,hB,r,q,kk⟩:=h
  unfold Z1 at q
  split at q
  case isFalse=>cases q
  rename_i hlen
  obtain ⟨o,q1,q2⟩:=zd q
  obtain ⟨te,t2,hp,he,h2⟩:=hbody cdv A outer s H E hr
  obtain ⟨b,c1,c2⟩:=zd q1
  obtain ⟨l,c3,c4⟩:=zd c2
  split at c4
  case isFalse=>cases c4
  rename_i hc
  have spec:=hc.choose_spec
  generalize hc.choose=rr at *
  obtain ⟨e,S'⟩:=rr
  dsimp only at c4 spec
  have m0:=jQ (N:=N) hB r
  refine ⟨_,hp,he H B (L2.yi N vs) H (zM N.length ds) b _ m0 c1 fun vb H1 s1 rb=>?_⟩
  intro y dx hy hdx hne
  have rb':Rep K H1 B b vb:=by have:Rep K H1 (Bl B [] (L2.yi N vs)) b vb:=rb;rwa [YB] at this
  have d1:∀ a o,H1 a=some o->a≠y/\a≠dx:=fun a o q=>⟨fun z=>(by rw [z,hy] at q;cases q),fun z=>by rw [z,hdx] at q;cases q⟩
  have s1':zQ H1 (upd (upd H1 dx (.own y)) y (.ins C dx [])):=fun a o q=>by rw [zv (d1 a o q).1,zv (d1 a o q).2];exact q
  refine ⟨B,y,dx,vb,b,l,rfl,fun a ha=>by obtain ⟨o,q⟩:=hB a ha;exact ⟨o,s1' _ _ (s1 _ _ q)⟩,zu,Rep.goes (Yf (P:=fun _=>False) (fun a o q _=>s1' _ _ q) (fun _ _ z=>z.elim) (fun _ z=>z.elim) fun a z=>z.imp id fun z=>by rw [z];exact hy) _ _ rb',c3,fun H2 s' vl hk hsx hs0 hs2 hx2 r1 r2=>⟨rfl,?_⟩⟩
  have hs1:H1 s'=none:=by
   cases z:H1 s' with
   | none=>rfl
   | some o=>have:=s1' _ _ z;rw [hs0] at this;cases this
  have s12:zQ H1 H2:=fun a o q=>hk _ _ (s1' _ _ q) (d1 a o q).1
  have s02:zQ H H2:=s1.trans s12
  have hyN:H y=none:=s1.free hy
  have hsN:H s'=none:=s1.free hs1
  have gB:Goes H H2 B (fun c=>B c\/c=y\/c=s'):=Yf (P:=fun _=>False) (fun a o q _=>s02 _ _ q) (fun _ _ z=>z.elim) (fun _ z=>z.elim) fun a z=>by
   rcases z with z | z | z
   ·exact .inl z
   ·exact .inr (by rw [z];exact hyN)
   ·exact .inr (by rw [z];exact hsN)
  have ln:(zM N.length ds).length=3:=by rw [<- m0.len];simp [L2.yi,r.length,hlen,hps,hN]
  have w0:Wd K (kO C) H (fun c=>B c\/c=y\/c=s') (fun c=>c=y\/c=s') [] 1 y [.int 1,b,l] ((L2.yi N vs).set 1 (some (.ref y))) H2 ((zM N.length ds).set 1 (some (.adr y))):=by
   refine ⟨⟨s02,fun a ha=>?_,by rw [Qp,Qp];exact m0.len,fun j d q _=>?_,fun j hj=>(nomatch hj),fun j _ _ hj=>(nomatch hj)⟩,fun a z=>.inr z,fun a z=>?_,⟨dx,s',[],1,vb,vl,b,l,[],fun a=>Iff.rfl,Ne.symm hsx,hx2,hs2,rfl,by rw [YB];exact r1,by rw [YB];exact r2,.nil⟩,zL (by omega),by simp⟩
   ·rcases ha with ha | ha | ha
    ·obtain ⟨o,q⟩:=hB a ha;exact ⟨o,s02 _ _ q⟩
    ·rw [ha];exact ⟨_,hx2⟩
    ·rw [ha];exact ⟨_,hs2⟩
   ·rw [YB]
    by_cases ej:j=1
    ·subst ej
     rw [zL (by omega)] at q;cases q
     exact ⟨.ref y,zL (by rw [m0.len];omega),by simp [Rep]⟩
    ·rw [zc ej] at q
     obtain ⟨v,g1,g2⟩:=m0.sh j d q (by simp)
     rw [YB] at g2
     exact ⟨v,by rw [zc ej];exact g1,Rep.goes gB _ _ g2⟩
   ·rcases z with z | z
    ·rw [z];exact hyN
    ·rw [z];exact hsN
  obtain ⟨ρ',e1,e2⟩:=spec y
  refine h2 H _ _ y _ H2 _ _ _ _ _ w0 e1 fun σ' H' w'=>?_
  obtain ⟨dx',s2,hs',c,vb',vl',b',l',st',p,ne,f1,f2,f3,f4,f5,f6⟩:=w'.at_
  subst f3
  cases c4
  simp only [outD] at q2
  cases q2
  obtain ⟨ve,g1,g2⟩:=w'.md.sh 2 _ e2 (by simp)
  simp only [Rep] at g2
  subst g2
  refine ⟨.ref y,w'.ref,y,C,dx',_,.int c,rfl,f1,T.cls,T.nc,rfl,.ref y,w'.ref,y,C,dx',_,.ref s2,rfl,f1,T.cls,T.ns,rfl,.int e,g1,by show 3<=_;decide,fun p' hp'=>?_⟩
  have ns:s2≠p':=fun z=>by rw [z,hp'] at f2;cases f2
  refine kk _ _ (w'.md.grow.trans (zx hp')) ⟨p',s2,c,e,hs',st',rfl,rfl,w'.new s2 ((p s2).2 (.inr rfl)),by rw [zv ns];exact f2,.inl (.inl zu),?_⟩
  rw [YB] at f6
  exact zm.goes (.less (fun a z=>by
   rcases z with z | z
   ·exact .inl z
   ·rw [z];exact w'.blk s2 ((p s2).2 (.inr rfl))) (zx hp')) _ _ f6
end
theorem ld_mk {X:Cx} {C:Kc} {mp:List D->Option D} {fe:Ev->Option D} {M2:WM} {e:Kv} {te:TE} {x cn:Kw} {p pc pos pos':KB} {s2 s3:Kx} {t2:TS} (hE:SE X true [] e te fe) (hW:WS X (kO C) [] [] [] 1 s2 t2 M2)
  (h1:PE X e te->PS X (.Assign [.Name x pos'] (.Call (.Name cn p) [e] [] pc) pos) (yG (tMake C (WI X.K C mp) [] E0 (zW te ZS)) (ZR 1)))
  (h3:PS X s3 (wQ (Wv (zW (wR X.K (Zj 1) "count") (zW (wR X.K (Zj 1) "steps") (zW (Zj 2) ZS)))))) :
  ∃ te t2,PSs X [.Assign [.Name x pos'] (.Call (.Name cn p) [e] [] pc) pos,s2,s3] (tLaid X.K C mp te t2)/\EOk X.K true [] te fe/\WOk X.K (kO C) [] [] [] 1 t2 M2:=⟨te,t2,Zf (h1 hE.pe) (Zf hW.ps (Z8 h3)),hE.ok,hW.ok⟩
section
variable {X:Cx} {fr:Bool} {i:Nat} {os' ol:List Nat} {zX:List Kx} {t:TS} {m:Ev->Option Out} {pos:KB}
end
theorem se_globS {X:Cx} {st:Bool} {os:List Nat} {x s:Kw} {tk:Tok} {a:Kc} {od:Option Kc} {n:Nat} {sl:Array (Option Ka)} {pos:KB} (hg:Gl X x) (hm:X.mg x=some (.ref a)) (hl:X.K.lookup a=some ⟨.type "tuple",od,.seq #[.str s tk] n,sl⟩) (hdb:(x == ("__debug__":Kw))=false:=by decide) :
  SE X st os (.Name x pos) (tC (.ref a)) (fC (.tup [.str s])):=se_globT (vs:=[.str s]) hg hm hl rfl rfl (by show 1<=Kg;decide) (.cons ⟨tk,rfl⟩ .nil) (fun _ _=>.cons (by simp [Rep]) .nil) hdb
section
variable {K:KC} {κ:Kd} {os os1 os' ol:List Nat} {i:Nat} {t u:TS} {Ub H H':Hp} {Uc P:Kc->Prop} {σ:St} {ρ:Ev} {h:Kc} {S S':List D}
end
section
variable {K:KC} {κ:Kd} {os:List Nat} {i:Nat} {st:Bool}
end
section
variable {X:Cx} {κ:Kd} {st:Bool} {os os' ol:List Nat} {i:Nat} {e a b:Kv} {ta tb te:TE} {F G:WF} {x:Kw} {p pos:KB}
end
section
variable {X:Cx} {κ:Kd} {os os' ol:List Nat} {i:Nat} {pos:KB} {scope:Scope} {own N':List Kw} {k:Nat} {elt target iter:Kv} {wi:TI} {g:TG} {te:TE} {fi:Ev->Option (List D)} {u:D->Ev->Option Ev} {F:WF}
end
section
variable {i j:Nat} {f:Ev->Option D}
end
def rIsB:R2:=fun x y H Q=>∃ a b,x=.bl a/\y=.bl b/\Q (.bl (a == b)) H
theorem op_isB {X:Cx}:OpR X (Km .Is) rIsB:=by
 intro KK s σ H x y v u Q I rx ry h
 obtain ⟨a,b,rfl,rfl,q⟩:=h
 cases rx
 cases ry
 exact PyProof.Rows.is_bool (Zh I q rfl)
def dIsB:D->D->Option D
 | .bl a,.bl b=>some (.bl (a == b))
 | _,_=>none
theorem rok_isB {K:KC}:ROk K rIsB dIsB:=fun H B x y d1 d2 d Q hB r1 r2 e k=>by
 cases d1 <;> cases d2 <;> simp only [dIsB] at e <;> cases e
 simp only [Rep] at r1 r2
 exact ⟨_,_,r1,r2,k _ H (.refl H) (by simp [Rep])⟩
section
variable {K:KC} {fr:Bool} {os os' os1 os2 ol ol1:List Nat} {j:Nat}
end
section
variable {X:Cx} {st:Bool} {os:List Nat} {e:Kv} {es:List Kv} {tl:TA} {fl:Ev->Option (List D)} {x:Kw} {p pos:KB}
end
open Classical in
def hideF (mf:Kc->List D->Option D):List D->Option D:=fun ds=>if h:∃ d,∀ f,mf f (ds++[.adr f])=some d then some h.choose else none
end M
namespace L2
open PySem PySem.Spec PyProof.Rows
abbrev IsZ (h:Kl) (z:Kc) (f0 f1:Ka) (TI TO:Kc):Prop:=h.get? z=some { cls:=.type "zip",data:=.fields #[f0,f1,.bool false,.ref TI,.ref TO] }
section
variable {prog:Ki} {w:Kk} {A:Kj} {E:Ka->Kb->Prop} {s:Kb}
variable {z TI TO i1 i2 l1 l2:Kc} {j1 j2:Bool} {k1 k2:Nat} {xs ys:Array Ka} {x y a b:Ka}
theorem alive_ {a:Kc} {o:KA} {Q:Option KA->Kb->Prop} (h:s.heap.get? a=some o) (q:Q (some o) s):Ko (Ky prog w) A (loadIfAlive a) Q E s:=by
 intro Γ p hΓ
 unfold loadIfAlive
 rw [Sem.wp_loadIfAlive,h]
 exact q
theorem notFree {Q:Bool->Kb->Prop} {k0:Nat} {f1:Bool} {o0:KA} (hz:IsZ s.heap z (rawInt k0) (.bool f1) TI TO) (ho:s.heap.get? k0=some o0)
  (hQ:∀ g1,IsZ g1 z (rawInt k0) (.bool true) TI TO->g1.objs.size=s.heap.objs.size->(∀ c o,c≠z->s.heap.get? c=some o->g1.get? c=some o)->Q false { s with heap:=g1 }):Ko (Ky prog w) A (Builtin.SmallTypes.ownedTupleIsFree (.ref z)) Q E s:=by
 unfold Builtin.SmallTypes.ownedTupleIsFree
 refine Qa (QC hz rfl (x:=rawInt k0) rfl ?_)
 unfold rawInt
 dsimp only
 refine Qa (alive_ (by rw [Pe];exact ho) ?_)
 simp only [Option.isNone_some,Pk,if_false]
 refine Qa (QC hz rfl (x:=.bool f1) rfl ?_)
 cases f1 with
 | true =>
  rw [KS (by decide)]
  exact Qf (hQ s.heap hz rfl fun c o _ e=>e)
 | false =>
  rw [KR (by decide)]
  refine Qa (Q8 hz (by simp) fun g1 hz1 s1=>Qf ?_)
  exact hQ g1 hz1 s1.1 fun c o n e=>s1.extBut _ _ n e
theorem zipn_again {Q:Ka->Kb->Prop} (D:ZApart z TI TO i1 i2) (n1:J1 z TI TO i1 i2 l1) (n2:J1 z TI TO i1 i2 l2) {k0:Nat} {f1:Bool} {o0:KA} (hz:IsZ s.heap z (rawInt k0) (.bool f1) TI TO) (ho:s.heap.get? k0=some o0) (hTI:IsPair s.heap TI (.ref i1) (.ref i2))
  (h1:Zg j1 s.heap i1 l1 k1) (h2:Zg j2 s.heap i2 l2 k2) (hl1:SeqAt j1 s.heap l1 xs) (hl2:SeqAt j2 s.heap l2 ys) (hx:xs[k1]?=some x) (hy:ys[k2]?=some y)
  (hQ:∀ h',IsZ h' z (rawInt k0) (.bool true) TI TO->Zg j1 h' i1 l1 (k1+1)->Zg j2 h' i2 l2 (k2+1)->IsPair h' s.heap.objs.size x y->h'.objs.size=s.heap.objs.size+1 ->
   (∀ c o,c≠z->c≠i1->c≠i2->s.heap.get? c=some o->h'.get? c=some o)->Q (.ref s.heap.objs.size) { s with heap:=h' }) :
  Ko (Ky prog w) A (Builtin.«zip.__next__» ⟨[.ref z],[]⟩) (fun fin s'=>∃ v,fin=.done (.ret v)/\Q v s') E s:=by
 obtain ⟨p1,p2,p3,p4⟩:=n1
 obtain ⟨q1,q2,q3,q4⟩:=n2
 show Ko _ _ (field (.ref z) 2 >>= _) _ _ _;refine Qa (QC hz rfl (x:=.bool false) rfl ?_)
 show Ko _ _ (field (.ref z) 3 >>= _) _ _ _;refine Qa (QC hz rfl (x:=.ref TI) rfl ?_)
 refine Qa (QX hTI rfl ?_)
 show Ko _ _ (Builtin.SmallTypes.ownedTupleIsFree (.ref z) >>= _) _ _ _
 refine Qa (notFree hz ho fun g1 hz1 sz1 kp1=>?_)
 simp only [Pk,if_false]
 refine Qa ?_
 rw [<- Array.forIn_toList]
 simp only [PD,PL]
 refine Qa (Qa (Pf ?_))
 show Ko _ _ (Builtin.SmallTypes.nextOf (.ref i1) >>= _) _ _ _
 refine Qa (yD (h1.at fun o e=>kp1 _ o D.i1z e) (hl1.at fun o e=>kp1 _ o p1 e) hx fun g2 u2 s2=>Qf (Qf ?_))
 refine Qa (Qa (Pf ?_))
 show Ko _ _ (Builtin.SmallTypes.nextOf (.ref i2) >>= _) _ _ _
 refine Qa (yD ((h2.at fun o e=>kp1 _ o D.i2z e).but s2.extBut D.i12.symm) ((hl2.at fun o e=>kp1 _ o q1 e).but s2.extBut q3) hy fun g4 u4 s4=>Qf (Qf (Qf ?_)))
 show Ko _ _ (newTuple [x,y] >>= _) _ _ _
 refine Qa (wpAny_newTuple ?_)
 have sz:g4.objs.size=s.heap.objs.size:=by rw [s4.1,s2.1];exact sz1
 have hz4:IsZ g4 z (rawInt k0) (.bool true) TI TO:=s4.extBut _ _ D.i2z.symm (s2.extBut _ _ D.i1z.symm hz1)
 refine Qf ⟨_,rfl,?_⟩
 show Q (.ref g4.objs.size) _
 have T:IsPair (g4.push { cls:=.type "tuple",data:=.seq #[x,y] }) g4.objs.size x y:=Qq _ rfl
 rw [sz] at T ⊢
 refine hQ _ (Qb _ hz4) ((u2.but s4.extBut D.i12).at fun o e=>Qb _ e) (u4.at fun o e=>Qb _ e) T (by rw [QJ,sz]) fun c o c1 c2 c3 e=>Qb _ (s4.extBut _ _ c3 (s2.extBut _ _ c2 (kp1 _ _ c1 e)))
theorem zipn_out {Q:Fin->Kb->Prop} (hh:A.handled=none) (D:ZApart z TI TO i1 i2) (n1:J1 z TI TO i1 i2 l1) (n2:J1 z TI TO i1 i2 l2) {k0:Nat} {f1:Bool} {o0:KA} (hz:IsZ s.heap z (rawInt k0) (.bool f1) TI TO) (ho:s.heap.get? k0=some o0) (hTI:IsPair s.heap TI (.ref i1) (.ref i2))
  (h1:Zg j1 s.heap i1 l1 k1) (h2:Zg j2 s.heap i2 l2 k2) (hl1:SeqAt j1 s.heap l1 xs) (hl2:SeqAt j2 s.heap l2 ys) (hend:xs[k1]?=none\/ys[k2]?=none)
  (hE:∀ h' e,(∀ c o,c≠z->c≠i1->c≠i2->s.heap.get? c=some o->h'.get? c=some o)->(∃ o,h'.get? e=some o/\o.cls=.type "StopIteration")->E (.ref e) { s with heap:=h' }) :
  Ko (Ky prog w) A (Builtin.«zip.__next__» ⟨[.ref z],[]⟩) Q E s:=by
 obtain ⟨p1,p2,p3,p4⟩:=n1
 obtain ⟨q1,q2,q3,q4⟩:=n2
 show Ko _ _ (field (.ref z) 2 >>= _) _ _ _;refine Qa (QC hz rfl (x:=.bool false) rfl ?_)
 show Ko _ _ (field (.ref z) 3 >>= _) _ _ _;refine Qa (QC hz rfl (x:=.ref TI) rfl ?_)
 refine Qa (QX hTI rfl ?_)
 show Ko _ _ (Builtin.SmallTypes.ownedTupleIsFree (.ref z) >>= _) _ _ _
 refine Qa (notFree hz ho fun g1 hz1 sz1 kp1=>?_)
 simp only [Pk,if_false]
 refine Qa ?_
 rw [<- Array.forIn_toList]
 simp only [PD,PL]
 refine Qa (Qa (Pf ?_))
 show Ko _ _ (Builtin.SmallTypes.nextOf (.ref i1) >>= _) _ _ _
 cases hx:xs[k1]? with
 | none =>
  exact Qa (jn hh (h1.at fun o e=>kp1 _ o D.i1z e) (hl1.at fun o e=>kp1 _ o p1 e) hx fun g2 e s2 he=>hE g2 e (fun c o c1 c2 _ x=>s2 _ _ c2 (kp1 _ _ c1 x)) he)
 | some x =>
  have hy:ys[k2]?=none:=by rcases hend with h | h;rw [hx] at h;cases h;exact h
  refine Qa (yD (h1.at fun o e=>kp1 _ o D.i1z e) (hl1.at fun o e=>kp1 _ o p1 e) hx fun g2 u2 s2=>Qf (Qf ?_))
  refine Qa (Qa (Pf ?_))
  show Ko _ _ (Builtin.SmallTypes.nextOf (.ref i2) >>= _) _ _ _
  exact Qa (jn hh ((h2.at fun o e=>kp1 _ o D.i2z e).but s2.extBut D.i12.symm) ((hl2.at fun o e=>kp1 _ o q1 e).but s2.extBut q3) hy fun g4 e s4 he=>hE g4 e (fun c o c1 c2 c3 x=>s4 _ _ c3 (s2.extBut _ _ c2 (kp1 _ _ c1 x))) he)
structure ZSt (h:Kl) (z TI TO i1 i2 l1 l2:Kc) (j1 j2:Bool) (xs ys:Array Ka) (k:Nat):Prop where
 z:IsZip h z TI TO .none\/∃ (k0:Nat) (f1:Bool) (o0:KA),IsZ h z (rawInt k0) (.bool f1) TI TO/\h.get? k0=some o0/\z<k0
 ti:IsPair h TI (.ref i1) (.ref i2)
 to:∃ a b,IsPair h TO a b
 h1:Zg j1 h i1 l1 k
 h2:Zg j2 h i2 l2 k
 l1:SeqAt j1 h l1 xs
 l2:SeqAt j2 h l2 ys
structure ZLow (z TI TO i1 i2 l1 l2:Kc):Prop where
 ap:ZApart z TI TO i1 i2
 a:TI<z
 b:TO<z
 c:i1<z
 d:i2<z
 n1:J1 z TI TO i1 i2 l1
 n2:J1 z TI TO i1 i2 l2
theorem znext_item {Q:Option Ka->Kb->Prop} {k:Nat} (L:ZLow z TI TO i1 i2 l1 l2) (Z:ZSt s.heap z TI TO i1 i2 l1 l2 j1 j2 xs ys k) (hx:xs[k]?=some x) (hy:ys[k]?=some y)
  (hQ:∀ h',ZSt h' z TI TO i1 i2 l1 l2 j1 j2 xs ys (k+1)->IsPair h' s.heap.objs.size x y->h'.objs.size=s.heap.objs.size+1 ->
   (∀ c o,c≠z->c≠TO->c≠i1->c≠i2->s.heap.get? c=some o->h'.get? c=some o)->Q (some (.ref s.heap.objs.size)) { s with heap:=h' }):Ko (Ky prog w) A (pyNext (.ref z)) Q E s:=by
 obtain ⟨hz,hTI,⟨a,b,hTO⟩,h1,h2,hl1,hl2⟩:=Z
 have D:=L.ap
 have m1:=L.n1
 have m2:=L.n2
 rcases hz with hz | ⟨k0,f1,o0,hz,h0,g0⟩
 ·have zl:z<s.heap.objs.size:=Qm hz
  refine jy D L.n1 L.n2 hz hTI hTO h1 h2 hl1 hl2 hx hy fun h' b1 b2 b3 b4 b5 b6 b7=>hQ h' ⟨Or.inr ⟨_,_,_,b1,b5,zl⟩,b7 _ _ D.TIz D.TITO D.TIi1 D.TIi2 hTI,⟨_,_,b2⟩,b3,b4,hl1.at fun o e=>b7 _ o m1.1 m1.2.1 m1.2.2.1 m1.2.2.2 e,hl2.at fun o e=>b7 _ o m2.1 m2.2.1 m2.2.2.1 m2.2.2.2 e⟩ b5 b6 b7
 ·have hT:s.TypeIs (.ref z) "zip":=⟨_,hz,rfl⟩
  unfold pyNext
  have kz:k0≠z:=QE g0
  have ki1:k0≠i1:=QE (QI L.c g0)
  have ki2:k0≠i2:=QE (QI L.d g0)
  exact Qa (PN (QU (name:=Str.ofString "__next__") hT F.slot_zip_next (Q0 F.slot_zip_next hT F.entry_zip_next
   (zipn_again D L.n1 L.n2 hz h0 hTI h1 h2 hl1 hl2 hx hy fun h' b1 b3 b4 b5 b6 b7=>Qf (hQ h' ⟨Or.inr ⟨_,_,_,b1,b7 _ _ kz ki1 ki2 h0,g0⟩,b7 _ _ D.TIz D.TIi1 D.TIi2 hTI,⟨_,_,b7 _ _ D.TOz D.TOi1 D.TOi2 hTO⟩,b3,b4,hl1.at fun o e=>b7 _ o m1.1 m1.2.2.1 m1.2.2.2 e,hl2.at fun o e=>b7 _ o m2.1 m2.2.2.1 m2.2.2.2 e⟩ b5 b6 fun c o c1 _ c3 c4 e=>b7 c o c1 c3 c4 e)) (F.args_zip_next_1 _))))
theorem znext_end {Q:Option Ka->Kb->Prop} {k:Nat} (hh:A.handled=none) (L:ZLow z TI TO i1 i2 l1 l2) (Z:ZSt s.heap z TI TO i1 i2 l1 l2 j1 j2 xs ys k) (hend:xs[k]?=none\/ys[k]?=none)
  (hQ:∀ h',(∀ c o,c≠z->c≠TO->c≠i1->c≠i2->s.heap.get? c=some o->h'.get? c=some o)->Q none { s with heap:=h' }):Ko (Ky prog w) A (pyNext (.ref z)) Q E s:=by
 obtain ⟨hz,hTI,⟨a,b,hTO⟩,h1,h2,hl1,hl2⟩:=Z
 rcases hz with hz | ⟨k0,f1,o0,hz,h0,g0⟩
 ·exact jN hh L.ap L.n1 L.n2 hz hTI hTO h1 h2 hl1 hl2 hend hQ
 ·have hT:s.TypeIs (.ref z) "zip":=⟨_,hz,rfl⟩
  unfold pyNext
  refine Qa (PN (QU (name:=Str.ofString "__next__") hT F.slot_zip_next (Q0 F.slot_zip_next hT F.entry_zip_next (zipn_out hh L.ap L.n1 L.n2 hz h0 hTI h1 h2 hl1 hl2 hend fun h' e hk he=>?_) (F.args_zip_next_1 _))))
  obtain ⟨o,ho,hc⟩:=he
  refine Qa (wpAny_isInstance (T:="StopIteration") (b:=true) ⟨o,ho,hc⟩ isSubtype_stop ?_)
  exact Qf (hQ _ fun c o c1 _ c3 c4 e=>hk c o c1 c3 c4 e)
theorem ZSt.keep {h h':Kl} {k:Nat} {S:Kc} (L:ZLow z TI TO i1 i2 l1 l2) (hS:z<S) (n1:l1≠S) (n2:l2≠S) (Z:ZSt h z TI TO i1 i2 l1 l2 j1 j2 xs ys k) (hg:∃ o,h'.get? S=some o) (e:∀ b o,b≠S->h.get? b=some o->h'.get? b=some o):ZSt h' z TI TO i1 i2 l1 l2 j1 j2 xs ys k:=by
 have zS:z≠S:=Qu hS
 have aS:TI≠S:=Qu (QI L.a hS)
 have bS:TO≠S:=Qu (QI L.b hS)
 have cS:i1≠S:=Qu (QI L.c hS)
 have dS:i2≠S:=Qu (QI L.d hS)
 obtain ⟨hz,hTI,⟨a,b,hTO⟩,h1,h2,hl1,hl2⟩:=Z
 refine ⟨?_,e _ _ aS hTI,⟨a,b,e _ _ bS hTO⟩,h1.at fun o q=>e _ o cS q,h2.at fun o q=>e _ o dS q,hl1.at fun o q=>e _ o n1 q,hl2.at fun o q=>e _ o n2 q⟩
 rcases hz with hz | ⟨k0,f1,o0,hz,h0,g0⟩
 ·exact Or.inl (e _ _ zS hz)
 ·by_cases hk:k0=S
  ·subst hk
   obtain ⟨o,ho⟩:=hg
   exact Or.inr ⟨_,f1,o,e _ _ zS hz,ho,g0⟩
  ·exact Or.inr ⟨k0,f1,o0,e _ _ zS hz,e _ _ hk h0,g0⟩
structure ZG (h:Kl) (S:Kc) (xs ys:Array Ka) (as:List Kc):Prop where
 rise:as.Pairwise (·<·)
 above:∀ a∈as,S<a
 pairs:∀ (j:Nat) (a:Kc),as[j]?=some a->∃ x y,xs[j]?=some x/\ys[j]?=some y/\IsPair h a x y
theorem zip_loop {R:Result->Kb->Prop} {S:Kc} (hh:A.handled=none) (L:ZLow z TI TO i1 i2 l1 l2) (hS:z<S) (n1:l1≠S) (n2:l2≠S) {n:Nat} (e1:n<=xs.size) (e2:n<=ys.size) (e3:xs[n]?=none\/ys[n]?=none) (hn:n<=Kg) (res:Ka) {h₁:Kl}
  (hR:∀ h' acc c as,(∀ b o,b≠S->b≠z->b≠TO->b≠i1->b≠i2->h₁.get? b=some o->h'.get? b=some o)->h'.get? S=some { cls:=.type "list",dict:=none,data:=.seq acc c,slots:=#[] }->as.length=n->ZG h' S xs ys as ->
   acc.toList=as.map Value.ref->R (.ok (.ret res)) { s with heap:=h' }) :
  ∀ (k i:Nat) (h:Kl) (c:Nat) (acc:Array Ka) (as:List Kc),n - i=k->i<=n->ZSt h z TI TO i1 i2 l1 l2 j1 j2 xs ys i->(∀ b o,b≠S->b≠z->b≠TO->b≠i1->b≠i2->h₁.get? b=some o->h.get? b=some o) ->
   h.get? S=some { cls:=.type "list",dict:=none,data:=.seq acc c,slots:=#[] }->acc.toList=as.map Value.ref->as.length=i->ZG h S xs ys as ->
   codeAny (Ky prog w) A (.builtin "list.extend.loop" ⟨[.ref S,.ref z,res],[]⟩) R { s with heap:=h }:=by
 have zS:S≠z:=QE hS
 have bS:S≠TO:=QE (QI L.b hS)
 have cS:S≠i1:=QE (QI L.c hS)
 have dS:S≠i2:=QE (QI L.d hS)
 have far:∀ a,S<a->a≠z/\a≠TO/\a≠i1/\a≠i2:=fun a ha=>⟨QE (QI hS ha),QE (QI (QI L.b hS) ha),QE (QI (QI L.c hS) ha),QE (QI (QI L.d hS) ha)⟩
 intro k
 induction k with
 | zero =>
  intro i h c acc as hk hi hst hkeep hS' hacc hal hG
  have hin:i=n:=by omega
  refine codeAny_builtin PySem.F.entry_extend_loop ?_
  rw [Around.under_plainId PySem.F.plain_extend_loop _]
  show Ko _ A.in1 (pyNext (.ref z) >>= _) _ _ _
  refine Qa (znext_end (s:={ s with heap:=h }) (A:=A.in1) hh L hst (by rw [hin];exact e3) fun h' he=>?_)
  refine Qf (hR h' acc c as (fun b o b0 b1 b2 b3 b4 e=>he b o b1 b2 b3 b4 (hkeep b o b0 b1 b2 b3 b4 e)) (he S _ zS bS cS dS hS') (by omega) ⟨hG.rise,hG.above,fun j a hj=>?_⟩ hacc)
  obtain ⟨x,y,q1,q2,q3⟩:=hG.pairs j a hj
  obtain ⟨f1,f2,f3,f4⟩:=far a (hG.above a (QV hj))
  exact ⟨x,y,q1,q2,he a _ f1 f2 f3 f4 q3⟩
 | succ k ih =>
  intro i h c acc as hk hi hst hkeep hS' hacc hal hG
  have hlt:i<n:=by omega
  obtain ⟨x,hx⟩:∃ p,xs[i]?=some p:=⟨xs[i],Array.getElem?_eq_getElem (by omega)⟩
  obtain ⟨y,hy⟩:∃ p,ys[i]?=some p:=⟨ys[i],Array.getElem?_eq_getElem (by omega)⟩
  have hsz:acc.size=i:=by rw [<- Array.length_toList,hacc,Qg,hal]
  have hSl:S<h.objs.size:=Qm hS'
  refine codeAny_builtin PySem.F.entry_extend_loop ?_
  rw [Around.under_plainId PySem.F.plain_extend_loop _]
  show Ko _ A.in1 (pyNext (.ref z) >>= _) _ _ _
  refine Qa (znext_item (s:={ s with heap:=h }) L hst hx hy fun h' hst' ht hz hkp=>?_)
  dsimp only at ht hz hkp ⊢
  have hS2:=hkp S _ zS bS cS dS hS'
  have up:∀ b o,b≠S->h'.get? b=some o->(h'.update S (Obj.mapSeq (·.push (Value.ref h.objs.size)))).get? b=some o:=fun b o hb e=>(QM _ _ (Ne.symm hb)).trans e
  show Ko _ A.in1 (updateSeq S (·.push (Value.ref h.objs.size)) >>= _) _ _ _
  refine Qa ?_
  refine PV hS2 rfl (Qf ⟨plainId_quiet PySem.F.plain_extend_loop _,ih (i+1) _ _ (acc.push (Value.ref h.objs.size)) (as++[h.objs.size]) (by omega) hlt (hst'.keep L hS n1 n2 ⟨_,QH _ hS2 rfl⟩ up)
   (fun b o b0 b1 b2 b3 b4 e=>up b o b0 (hkp b o b1 b2 b3 b4 (hkeep b o b0 b1 b2 b3 b4 e))) (QH _ hS2 rfl) (by rw [Array.toList_push,hacc,Q5];rfl) (by rw [Qj,hal];rfl) ⟨?_,?_,?_⟩⟩) (by rw [hsz];omega) (by show (acc.push (Value.ref h.objs.size)).size<=Kg+1;rw [Array.size_push,hsz];omega)
  ·refine List.pairwise_append.mpr ⟨hG.rise,List.pairwise_singleton _ _,fun a ha b hb=>?_⟩
   rw [Qo.mp hb]
   obtain ⟨j,hj⟩:=List.mem_iff_getElem?.mp ha
   obtain ⟨_,_,_,_,q⟩:=hG.pairs j a hj
   exact Qm q
  ·intro a ha
   rcases QA.mp ha with ha | ha
   ·exact hG.above a ha
   ·rw [Qo.mp ha];exact hSl
  ·intro j a hj
   rw [List.getElem?_append] at hj
   split at hj
   ·obtain ⟨x',y',q1,q2,q3⟩:=hG.pairs j a hj
    have hab:=hG.above a (QV hj)
    obtain ⟨f1,f2,f3,f4⟩:=far a hab
    exact ⟨x',y',q1,q2,up _ _ (QE hab) (hkp _ _ f1 f2 f3 f4 q3)⟩
   ·rename_i hnl
    have hj0:j=i:=by
     rcases Nat.eq_or_lt_of_le (Nat.le_of_not_lt hnl) with q | q
     ·omega
     ·rw [Pu (by simp;omega)] at hj;cases hj
    subst hj0
    rw [hal,Nat.sub_self] at hj
    cases hj
    exact ⟨x,y,hx,hy,up _ _ (QE hSl) ht⟩
end
theorem zip_hint:typeLookup (Value.type "zip") (Str.ofString "__length_hint__")=pure none:=by rfl
theorem zip_len:typeLookup (Value.type "zip") (Str.ofString "__len__")=pure none:=by rfl
theorem zipv_hint {prog:Ki} {w:Kk} {A:Kj} {E:Ka->Kb->Prop} {s:Kb} {I:Kc} {Q:Bool->Kb->Prop} (T:s.TypeIs (.ref I) "zip") (q:Q true s) :
  Ko (Ky prog w) A (Builtin.List.listLengthHint (.ref I)) Q E s:=by
 unfold Builtin.List.listLengthHint
 refine Qa (wpAny_specialOf T zip_len ?_)
 dsimp only
 rw [KS (by decide)]
 rw [KS (by decide)]
 refine Qa (wpAny_specialOf T zip_hint ?_)
 exact Qf q
section
variable {prog:Ki} {w:Kk} {A:Kj} {E:Ka->Kb->Prop} {s:Kb}
variable {z TI TO i1 i2 l1 l2:Kc} {j1 j2:Bool} {xs ys:Array Ka}
theorem list_init_zip {R:Result->Kb->Prop} {S:Kc} (hh:A.handled=none) (L:ZLow z TI TO i1 i2 l1 l2) (hS:z<S) (n1:l1≠S) (n2:l2≠S) {n:Nat} (e1:n<=xs.size) (e2:n<=ys.size) (e3:xs[n]?=none\/ys[n]?=none) (hn:n<=Kg)
  (hz:IsZip s.heap z TI TO .none) (Z:ZSt s.heap z TI TO i1 i2 l1 l2 j1 j2 xs ys 0) (hS0:s.heap.get? S=some { cls:=.type "list",data:=.seq #[] })
  (hR:∀ h' acc c as,(∀ b o,b≠S->b≠z->b≠TO->b≠i1->b≠i2->s.heap.get? b=some o->h'.get? b=some o)->h'.get? S=some { cls:=.type "list",dict:=none,data:=.seq acc c,slots:=#[] }->as.length=n->ZG h' S xs ys as ->
   acc.toList=as.map Value.ref->R (.ok (.ret .none)) { s with heap:=h' }) :
  Ko (Ky prog w) A.in1 (Builtin.«list.__init__» { pos:=[.ref S,.ref z] }) (fun fin s'=>match fin with
   | .done f=>R (.ok f) s'
   | .again c'=>c'.quiet=true/\codeAny (Ky prog w) A c' R s') (fun e s'=>R (.error e) s') s:=by
 have zS:S≠z:=QE hS
 unfold Builtin.«list.__init__»
 dsimp only
 rw [KS (by simp)]
 rw [KS (by simp)]
 refine Qa (wpAny_listItems hS0 rfl ?_)
 refine Qa ?_
 unfold Builtin.List.listUpdate
 dsimp only
 refine PV hS0 rfl ?_ (by simp) (by simp)
 have hS2:(s.heap.update S (Obj.mapSeq fun _=>#[])).get? S=some { cls:=.type "list",data:=.seq #[] }:=QH _ hS0 rfl
 have mv:∀ b o,b≠S->s.heap.get? b=some o->(s.heap.update S (Obj.mapSeq fun _=>#[])).get? b=some o:=fun b o hb q=>((Heap.SameBut.update s.heap S (Obj.mapSeq fun _=>#[])).2 b hb).trans q
 generalize s.heap.update S (Obj.mapSeq fun _=>#[])=h2 at *
 refine Qa (wpAny_letGo ?_)
 have hz2:IsZip h2 z TI TO .none:=mv _ _ (Ne.symm zS) hz
 have T2:({ s with heap:=h2 }:Kb).TypeIs (.ref z) "zip":=⟨_,hz2,rfl⟩
 unfold Builtin.List.listExtendWith
 refine Qa (wpAny_typeOf T2 ?_)
 rw [KS (by simp [Builtin.List.listSameRef,zS])]
 refine Qa (wpAny_pyIter_zip (s:={ s with heap:=h2 }) hz2 ?_)
 refine Qa (Pf (zipv_hint T2 ?_))
 rw [KR (by rfl)]
 refine Qa (PQ ?_)
 refine Qa ?_
 show Ko _ A.in1 (updateSeq S (·.push .none) >>= fun _=>updateSeq S (·.pop)) _ _ _
 refine Qa (PV hS2 rfl ?_)
 have hS3:=QH (Obj.mapSeq (·.push Value.none)) hS2 rfl
 refine PV hS3 rfl ?_
 have hS4:=QH (Obj.mapSeq (·.pop)) hS3 rfl
 have oth:∀ b o,b≠S->h2.get? b=some o->((h2.update S (Obj.mapSeq (·.push Value.none))).update S (Obj.mapSeq (·.pop))).get? b=some o :=
  fun b o hb e=>(QM _ _ (Ne.symm hb)).trans ((QM _ _ (Ne.symm hb)).trans e)
 refine Qf ⟨plainId_quiet F.plain_extend_loop _,?_⟩
 exact zip_loop (s:=s) hh L hS n1 n2 e1 e2 e3 hn .none (h₁:=s.heap) hR n 0 _ _ _ [] (by omega) (by omega) (Z.keep L hS n1 n2 ⟨_,hS4⟩ fun b o hb e=>oth b o hb (mv b o hb e)) (fun b o b0 _ _ _ _ e=>oth b o b0 (mv b o b0 e)) hS4 rfl rfl ⟨List.Pairwise.nil,fun a ha=>(by cases ha),fun j a hj=>by simp at hj⟩
theorem call_list_zip {Q:Ka->Kb->Prop} (hh:A.handled=none) (L:ZLow z TI TO i1 i2 l1 l2) {n:Nat} (e1:n<=xs.size) (e2:n<=ys.size) (e3:xs[n]?=none\/ys[n]?=none) (hn:n<=Kg)
  (hz:IsZip s.heap z TI TO .none) (Z:ZSt s.heap z TI TO i1 i2 l1 l2 j1 j2 xs ys 0)
  (h:∀ h' acc c as,(∀ b o,b≠z->b≠TO->b≠i1->b≠i2->s.heap.get? b=some o->h'.get? b=some o)->h'.get? s.heap.objs.size=some { cls:=.type "list",dict:=none,data:=.seq acc c,slots:=#[] }->as.length=n->ZG h' s.heap.objs.size xs ys as ->
   acc.toList=as.map Value.ref->Q (.ref s.heap.objs.size) { s with heap:=h' }) :
  Ko (Ky prog w) A (call (.type "list") [.ref z]) Q E s:=by
 refine callType_codes F.called_list (F.typeCall_list_1 _) F.entry_list_init (code_list_new (.ref z) (Q₁:=fun obj s₁=>obj=.ref s.heap.objs.size/\s₁={ s with heap:=s.heap.push { cls:=.type "list",data:=.seq #[] } }) ⟨rfl,rfl⟩) ?_
 rintro obj s₁ ⟨rfl,rfl⟩
 have hnew:(s.heap.push { cls:=.type "list",data:=.seq #[] }).get? s.heap.objs.size=some { cls:=.type "list",data:=.seq #[] }:=Qq _ rfl
 have kp:∀ b o,s.heap.get? b=some o->(s.heap.push { cls:=.type "list",data:=.seq #[] }).get? b=some o:=fun b o q=>Qb _ q
 have zS:z<s.heap.objs.size:=Qm hz
 have ne1:l1≠s.heap.objs.size:=Qu (by cases j1 <;> (obtain ⟨o,ho,_⟩:=Z.l1;exact Qm ho))
 have ne2:l2≠s.heap.objs.size:=Qu (by cases j2 <;> (obtain ⟨o,ho,_⟩:=Z.l2;exact Qm ho))
 refine ⟨⟨_,hnew,rfl⟩,F.args_list_init_2 _ _,?_⟩
 refine list_init_zip (A:=A.in1) (s:={ s with heap:=s.heap.push { cls:=.type "list",data:=.seq #[] } }) hh L zS ne1 ne2 e1 e2 e3 hn (kp _ _ hz) (Z.keep L zS ne1 ne2 ⟨_,hnew⟩ fun b o _ e=>kp b o e) hnew fun h' acc c as k e al g ea=>?_
 exact ⟨rfl,h h' acc c as (fun b o b1 b2 b3 b4 q=>k b o (Qu (Qm q)) b1 b2 b3 b4 (kp b o q)) e al g ea⟩
end
end L2
namespace L2
open PySem PySem.Spec PyProof.Rows
def JS (H:Hp):List Kc->List (V×V)->Hp
 | a::as,p::ps=>JS (upd H a (.tup [p.1,p.2])) as ps
 | _,_=>H
theorem Y7:∀ (as:List Kc) (ps:List (V×V)) (H:Hp) (b:Kc),(∀ a∈as,b≠a)->JS H as ps b=H b
 | [],_,_,_,_=>rfl
 | _::_,[],_,_,_=>rfl
 | a::as,p::ps,H,b,h=>by
  unfold JS
  rw [Y7 as ps _ b fun c hc=>h c (Qe _ hc),zv (h a Qt)]
theorem layT_in:∀ (as:List Kc) (ps:List (V×V)) (H:Hp) (j:Nat) (a:Kc) (p:V×V),as.Pairwise (·<·)->as[j]?=some a->ps[j]?=some p->JS H as ps a=some (.tup [p.1,p.2])
 | [],_,_,j,_,_,_,h,_=>by simp at h
 | _::_,[],_,j,_,_,_,_,h=>by simp at h
 | b::as,q::ps,H,0,a,p,hp,h,h'=>by
  cases h
  cases h'
  unfold JS
  rw [Y7 as ps _ b fun c hc=>Qu ((Ua.mp hp).1 c hc),zu]
 | b::as,q::ps,H,j+1,a,p,hp,h,h'=>by
  unfold JS
  exact layT_in as ps _ j a p (Ua.mp hp).2 (by simpa using h) (by simpa using h')
theorem vals_refs:∀ as:List Kc,zP (as.map V.ref) (as.map Value.ref)
 | []=>.nil
 | _::as=>.cons rfl (vals_refs as)
section
variable {X:Cx} {a b:Kv} {ta:TA} {p p2 pos pos2:KB}
def tListZip (j1 j2:Bool) (K:KC) (ta:TA):TE:=fun σ H Q=>ta σ H fun vs H1=>∃ (fa fb:Kc) (xs ys:List V),vs=[.ref fa,.ref fb]/\Sq j1 K H1 fa xs/\Sq j2 K H1 fb ys /\
 ∀ (as:List Kc) (l:Kc),as.length=(xs.zip ys).length->as.Pairwise (·<·)->(∀ c∈as,H1 c=none/\l<c)->H1 l=none->Q (.ref l) (upd (JS H1 as (xs.zip ys)) l (.lst (as.map V.ref)))
theorem pe_listZip (j1 j2:Bool) {k:Nat} (hr:Room k X.A) (hg:Gl X "list") (hm:X.mg "list"=none) (hg2:Gl X "zip") (hm2:X.mg "zip"=none) (ha:PA X [a,b] ta)
  (hs:Ke [a,b] X.env=[(false,Kz a X.env),(false,Kz b X.env)]:=by rfl) (hs2:Ke [b] X.env=[(false,Kz b X.env)]:=by rfl)
  (h2:Ke [.Call (.Name "zip" p2) [a,b] [] pos2] X.env=(false,Kz (.Call (.Name "zip" p2) [a,b] [] pos2) X.env)::Ke [] X.env:=by rfl)
  (hpl:(Kq pos (Ke [] X.env)).any (·.1)=false:=by rfl) :
  PE X (.Call (.Name "list" p) [.Call (.Name "zip" p2) [a,b] [] pos2] [] pos) (tListZip j1 j2 X.K ta):=by
 intro KK s σ H Q I h
 refine Q9 (jT I hg hm boot_list ?_)
 refine KI ?_ h2 hpl
 rw [h2]
 show Ko _ _ (spliced ((false,Kz (.Call (.Name "zip" p2) [a,b] [] pos2) X.env)::Kq pos (Ke [] X.env))) _ _ s
 refine Calls.spliced_cons ?_
 refine Q9 (jT I hg2 hm2 boot_zip ?_)
 refine KI (thn (ha pos2 KK s σ H _ I h) fun us s1 ⟨vs,H1,I1,r1,q1⟩=>?_) (by rw [hs,hs2]) (by rw [hs2];rfl)
 obtain ⟨fa,fb,xs,ys,e,hx,hy,q⟩:=q1
 subst e
 cases r1 with
 | cons r rr =>
  cases rr with
  | cons r' rr =>
   cases rr
   cases r
   cases r'
   obtain ⟨its1,v1,p1,z1⟩:=I1.seq hx
   obtain ⟨its2,v2,p2',z2⟩:=I1.seq hy
   have L1:=v1.length
   have L2:=v2.length
   refine J0 p1 p2' fun h' c1 c2 c3 c4 c5 c6 up=>?_
   have I2:Inv X KK σ H1 { s1 with heap:=h' }:=I1.kept (t':=s1.toks) up
   have n1:fa<s1.heap.objs.size:=by cases j1 <;> (obtain ⟨o,ho,_⟩:=p1;exact Qm ho)
   have n2:fb<s1.heap.objs.size:=by cases j2 <;> (obtain ⟨o,ho,_⟩:=p2';exact Qm ho)
   have fO:∀ c,@LE.le Nat instLENat s1.heap.objs.size c->JG X KK H1 c:=fun c hc=>I1.fpOk (H':=H1) hc (I1.hok.fresh hc)
   generalize hN:s1.heap.objs.size=N at *
   have LO:ZLow (N+4) (N+2) (N+3) N (N+1) fa fb:=by
    refine ⟨zapart_new N,Q4 (Q1 _),Q1 _,Q4 (Q4 (Q4 (Q1 _))),Q4 (Q4 (Q1 _)),⟨?_,?_,?_,?_⟩,⟨?_,?_,?_,?_⟩⟩ <;> refine Qu ?_
    all_goals first | exact n1 | exact n2 | exact Nat.lt_add_right _ n1 | exact Nat.lt_add_right _ n2
   have Z:ZSt h' (N+4) (N+2) (N+3) N (N+1) fa fb j1 j2 its1.toArray its2.toArray 0:=⟨Or.inl c1,c2,⟨_,_,c3⟩,c4,c5,p1.at fun o e=>up _ o e,p2'.at fun o e=>up _ o e⟩
   have hl:(xs.zip ys).length=min its1.length its2.length:=by rw [List.length_zip,L1,L2]
   show Ko _ _ (spliced (Kq pos (Ke [] X.env))) _ _ _
   refine Qf ?_
   refine call_list_zip (s:={ s1 with heap:=h' }) hr.hd LO (n:=min its1.length its2.length) (by rw [Qk];exact Nat.min_le_left _ _) (by rw [Qk];exact Nat.min_le_right _ _) ?_ (by rw [<- L1];exact Qw (Nat.min_le_left _ _) z1) c1 Z fun h2 acc c as k2 e al g ea=>?_
   ·rcases Nat.le_total its1.length its2.length with q | q
    ·exact .inl (by rw [Pl q];simp)
    ·exact .inr (by rw [PP q];simp)
   have fr:H1 h'.objs.size=none:=I2.hok.fresh (Ql _)
   have fras:∀ c∈as,H1 c=none/\h'.objs.size<c:=fun c hc=>⟨I2.hok.fresh (Q6 (g.above c hc)),g.above c hc⟩
   refine ⟨.ref h'.objs.size,upd (JS H1 as (xs.zip ys)) h'.objs.size (.lst (as.map V.ref)),?_,rfl,q as _ (by rw [al,hl]) g.rise fras fr⟩
   have out:∀ b,H1 b≠none->upd (JS H1 as (xs.zip ys)) h'.objs.size (.lst (as.map V.ref)) b=H1 b:=fun b hb=>by
    rw [zv (fun z=>hb (by rw [z];exact fr)),Y7 _ _ _ _ fun c hc z=>hb (by rw [z];exact (fras c hc).1)]
   have old:∀ b o,h'.get? b=some o->upd (JS H1 as (xs.zip ys)) h'.objs.size (.lst (as.map V.ref)) b=H1 b:=fun b o ho=>by
    have hb:b<h'.objs.size:=Qm ho
    rw [zv (Qu hb),Y7 _ _ _ _ fun c hc=>Qu (QI hb (g.above c hc))]
   have k3:∀ b o,b∉[N+4,N+3,N,N+1]->h'.get? b=some o->h2.get? b=some o:=fun b o hb e=>by
    simp only [Qc,Qn,or_false,not_or] at hb
    exact k2 b o hb.1 hb.2.1 hb.2.2.1 hb.2.2.2 e
   have fch:∀ b∈[N+4,N+3,N,N+1],JG X KK H1 b:=fun b hb=>fO b (by
    simp only [Qc,Qn,or_false] at hb
    rcases hb with rfl | rfl | rfl | rfl
    ·exact Q7 _ 4
    ·exact Q7 _ 3
    ·exact Ql _
    ·exact Q7 _ 1)
   have hch:∀ b∈[N+4,N+3,N,N+1],(b∈X.ex\/X.s₀.heap.objs.size<=b)/\b≠X.env.locals/\(∀ x c,X.env.cells.lookup x=some c->c≠b)/\∀ p∈X.pn++KK,p.1≠b:=fun b hb=>by
    have fb:=fch b hb
    exact ⟨fb.2.2.2.1,fb.2.1,fb.2.2.2.2.1,fb.2.2.2.2.2⟩
   have ntr:∀ b u,H1 b=some u->b∉[N+4,N+3,N,N+1]:=fun b u e hb=>by rw [(fch b hb).1] at e;cases e
   have Hok:HOk X.prog X.w (upd (JS H1 as (xs.zip ys)) h'.objs.size (.lst (as.map V.ref))) h2:=fun c o e'=>by
    by_cases hcs:c=h'.objs.size
    ·subst hcs
     rw [zu] at e'
     cases e'
     exact ⟨by rw [Qg,al,<- L1];exact Qw (Nat.min_le_left _ _) z1,as.map Value.ref,_,vals_refs as,by rw [<- ea];simpa using e⟩
    ·by_cases hca:c∈as
     ·obtain ⟨j,hj⟩:=List.mem_iff_getElem?.mp hca
      obtain ⟨u1,u2,q1,q2,q3⟩:=g.pairs j c hj
      have hjl:j<(xs.zip ys).length:=by rw [hl,<- al];exact (Qh.mp hj).1
      obtain ⟨pr,hpr⟩:∃ pr,(xs.zip ys)[j]?=some pr:=⟨_,Qv hjl⟩
      rw [zv hcs,layT_in as (xs.zip ys) H1 j c pr g.rise hj hpr] at e'
      cases e'
      obtain ⟨x,y⟩:=pr
      have hz:=List.getElem?_zip_eq_some.mp hpr
      obtain ⟨u1',b1,ru1⟩:=v1.get hz.1
      obtain ⟨u2',b2,ru2⟩:=v2.get hz.2
      rw [List.getElem?_toArray] at q1 q2
      rw [b1] at q1
      rw [b2] at q2
      cases q1
      cases q2
      exact ⟨by show 2<=Kg;decide,[u1,u2],.cons ru1 (.cons ru2 .nil),⟨_,q3,rfl,_,rfl⟩⟩
     ·rw [zv hcs,Y7 _ _ _ _ fun d hd z=>hca (by rw [z];exact hd)] at e'
      refine (I2.hok c o e').stay (fun d v hd q'=>k3 d v ?_ q') (fun d q'=>?_) fun d xs q'=>?_
      ·rcases hd with rfl | hd
       ·exact ntr _ _ e'
       ·exact ntr _ _ hd
      ·rw [out d (by rw [q'];simp)];exact q'
      ·rw [out d (by rw [q'];simp)];exact q'
   refine I2.step (g':=s1.gens) (d':=s1.drawn) (t':=s1.toks) (ch:=[N+4,N+3,N,N+1]) hch (fun b o _ _ hb q _=>k3 b o hb q) (fun b o _ _ hb q _=>⟨o.slots,k3 b o hb q⟩) (fun b o _ q n=>by rw [old b o q];exact n) (fun b o hb q=>⟨o,k3 b o hb q⟩)
    (fun b xs q=>by rw [out b (by rw [q];simp)];exact q) (fun b o u q=>by rw [out b (by rw [q];simp)];exact q) (fun b ps q=>⟨#[],by rw [out b (by rw [q];simp),q];simp⟩) (fun m hm=>?_) Hok I2.bare
   obtain ⟨o,es,ep,ho,r⟩:=hm
   exact ⟨o,es,ep,k3 _ o (fun hb=>(hch _ hb).2.1 rfl) ho,r⟩
end
end L2
namespace L2
open PySem PySem.Spec PyProof.Rows
section
variable {X:Cx}
def rRepZ (K:KC):R2:=fun x y H Q=>∃ l k xs,x=.ref l/\y=.int k/\SqT K H l xs/\xs≠[]/\0<=k/\xs.length*k.toNat<=1000/\k<=1000/\(k=1->Q (.ref l) H)/\(k≠1->∀ p,H p=none->Q (.ref p) (upd H p (.tup (List.replicate k.toNat xs).flatten)))
theorem op_repZ {K':KC} (hK:X.K=K':=by rfl):OpR X (binaryOp .Mult) (rRepZ K'):=by
 subst hK
 intro KK s σ H x y v u Q I rx ry h
 obtain ⟨l,k,xs,rfl,rfl,hq,hne,h1,hz,hk,q1,q2⟩:=h
 cases rx
 obtain ⟨t,rfl⟩:=ry
 obtain ⟨KQ,r,hT,hlen⟩:=I.tuple hq
 have hT0:=hT
 obtain ⟨o,ho,hc,n,hd⟩:=hT
 have T:s.TypeIs (.ref l) "tuple":=⟨o,ho,hc⟩
 have hl:=r.length
 refine wpAny_binaryOp_repeat_ref (T:="tuple") (U:="int") (by decide) T (fun s'=>typeIs_int s' k t) J9 F.fills_int_mul F.slot_int_rmul repeat_tuple F.slot_int_index.lookup ?_
 refine Q0 F.slot_int_rmul (typeIs_int s k t) F.entry_int_rmul ?_ (F.args_int_rmul_2 _ _)
 unfold Builtin.«int.__rmul__» Builtin.Int.intBinary
 rw [show slotArgs "__rmul__" 1 { pos:=[Value.int k t,Value.ref l] }=pure (Value.int k t,[Value.ref l]) by rfl]
 refine Qa (Qf ?_)
 dsimp only
 rw [show Builtin.Int.intOfSelf (Value.int k t)=pure k by rfl]
 refine Qa (Qf ?_)
 refine Qa ?_
 show Ko _ _ (asInt? (Value.ref l)) _ _ _
 unfold asInt?
 refine Qa (wpAny_load ho ?_)
 rw [hd]
 refine Qf ?_
 refine Qa (PQ ?_)
 refine Qf ⟨_,rfl,rfl,T,?_⟩
 refine Q0 F.slot_tuple_mul T F.entry_tuple_mul ?_ (F.args_tuple_mul_2 _ _)
 refine Qa ?_
 rw [show asIndex (Value.int k t)=pure k by rfl]
 refine Qf ?_
 dsimp only
 rw [KS (by simp;omega)]
 unfold Builtin.Tuple.tupleItemsOf
 refine Qa (Qa (QX ho hd ?_))
 refine Qf ?_
 have hne':KQ≠[]:=fun e=>by rw [e] at hl;exact hne (List.eq_nil_of_length_eq_zero hl)
 have hem:KQ.toArray.isEmpty=false:=by
  cases KQ with
  | nil=>exact absurd rfl hne'
  | cons _ _=>rfl
 rw [hem,Bool.false_or]
 by_cases hk1:k=1
 ·subst hk1
  rw [KR (by rfl)]
  unfold Builtin.Tuple.tupleIsExact
  refine Qa (Qa (wpAny_typeOf T ?_))
  refine Qf ?_
  rw [KR (by rfl)]
  refine Qa (PQ ?_)
  exact Qf ⟨_,rfl,.ref l,H,I,rfl,q1 rfl⟩
 ·rw [KS (by simpa using hk1)]
  by_cases hk0:k=0
  ·subst hk0
   rw [KR (by rfl)]
   unfold Builtin.Tuple.tupleExact
   refine Qa (QS ?_ (by show 0<=Kg;decide))
   have hf:H s.heap.objs.size=none:=I.hok.fresh (Ql _)
   refine Qf ⟨_,rfl,.ref s.heap.objs.size,upd H s.heap.objs.size (.tup []),I.laid (t':=s.toks) (fun b u e=>Qb _ e) (Ql _) ?_,rfl,q2 hk1 _ hf⟩
   exact ⟨by show 0<=Kg;decide,[],.nil,⟨_,Qq _ rfl,rfl,_,rfl⟩⟩
  rw [KS (by simp;omega)]
  have hsz:KQ.toArray.size*k.toNat<=1000:=by rw [Qk,<- hl];exact hz
  have hcast:(KQ.toArray.size:Int)*k<=1000:=by
   have:((KQ.toArray.size*k.toNat:Nat):Int)=(KQ.toArray.size:Int)*k:=by
    rw [Int.natCast_mul,P6 (by omega)]
   omega
  rw [KS (by omega)]
  have htm:Builtin.Tuple.tupleTooMany ((KQ.toArray.size:Int)*k)=false:=by
   unfold Builtin.Tuple.tupleTooMany
   exact KW (Int.not_lt.mpr (Int.le_trans hcast (by decide)))
  rw [htm,KS Qi]
  have f0:List.foldl (fun x1 x2=>x1++x2) #[] (List.replicate k.toNat KQ.toArray)=(List.replicate k.toNat KQ).flatten.toArray:=by
   have:=wo KQ k.toNat []
   rw [Pn] at this
   exact this
  have hlen2:(List.replicate k.toNat KQ).flatten.length<=Kg:=by
   rw [len_rep,Nat.mul_comm]
   rw [Qk] at hsz
   exact Qw hsz (by decide)
  rw [f0]
  unfold Builtin.Tuple.tupleExact
  refine Qa (QS ?_ (by exact hlen2))
  have rr:zP (List.replicate k.toNat xs).flatten (List.replicate k.toNat KQ).flatten:=by
   generalize k.toNat=m
   induction m with
   | zero=>exact .nil
   | succ m ih =>
    rw [QN,QN,QY,QY]
    exact zP.append r ih
  have hf:H s.heap.objs.size=none:=I.hok.fresh (Ql _)
  refine Qf ⟨_,rfl,.ref s.heap.objs.size,upd H s.heap.objs.size (.tup (List.replicate k.toNat xs).flatten),I.laid (t':=s.toks) (fun b u e=>Qb _ e) (Ql _) ?_,rfl,q2 hk1 _ hf⟩
  exact ⟨by rw [rr.length];exact hlen2,_,rr,⟨_,Qq _ rfl,rfl,_,rfl⟩⟩
end
end L2
namespace M
open PySem PySem.Spec L2
open PySem.W (Frag)
theorem same_lay:∀ (as:List Kc) (ps:List (V×V)) (H:Hp),as.Pairwise (·<·)->(∀ a∈as,H a=none)->zQ H (JS H as ps)
 | [],_,H,_,_=>.refl H
 | _::_,[],H,_,_=>.refl H
 | a::as,p::ps,H,hp,h=>by
  unfold JS
  have hp':=Ua.mp hp
  exact (zx (h a Qt)).trans (same_lay as ps _ hp'.2 fun b hb=>by rw [zv (QE (hp'.1 b hb))];exact h b (Qe _ hb))
section
variable {X:Cx} {os:List Nat} {a b:Kv} {ta tb:TE} {ca cb:Ev->Option (List D)} {p p2 pos pos2:KB} {k:Nat}
def gf (ca cb:Ev->Option (List D)):Ev->Option D:=fun ρ=>(ca ρ).bind fun xs=>(cb ρ).map fun ys=>.lst (zipD xs ys)
theorem WK {s j1 j2:Bool} (hr:Room k X.A) (hg:Gl X "list") (hm:X.mg "list"=none) (hg2:Gl X "zip") (hm2:X.mg "zip"=none) (ha:SN X s j1 os a ta ca) (hb:SN X s j2 os b tb cb)
  (h1:Ke [a,b] X.env=(false,Kz a X.env)::Ke [b] X.env:=by rfl) (h2:Ke [b] X.env=(false,Kz b X.env)::Ke [] X.env:=by rfl)
  (hs:Ke [a,b] X.env=[(false,Kz a X.env),(false,Kz b X.env)]:=by rfl) (hs2:Ke [b] X.env=[(false,Kz b X.env)]:=by rfl)
  (h3:Ke [.Call (.Name "zip" p2) [a,b] [] pos2] X.env=(false,Kz (.Call (.Name "zip" p2) [a,b] [] pos2) X.env)::Ke [] X.env:=by rfl)
  (hpl:(Kq pos (Ke [] X.env)).any (·.1)=false:=by rfl) {K':KC} (hK:X.K=K':=by rfl) :
  SF X os (.Call (.Name "list" p) [.Call (.Name "zip" p2) [a,b] [] pos2] [] pos) (tListZip j1 j2 K' (zW ta (zW tb ZS))) (gf ca cb):=by
 subst hK
 exact
 ⟨pe_listZip j1 j2 hr hg hm hg2 hm2 (zC ha.pe (zC hb.pe zY h2) h1) hs hs2 h3 hpl,fun Ub Uc σ H ρ d Q m q kk=>by
  obtain ⟨dx,h1,h2⟩:=zd q
  obtain ⟨dy,h3,rfl⟩:=map_some h2
  refine ha.ok Ub Uc σ H ρ dx _ m h1 fun a xs H1 s1 hc1 r1=>?_
  refine hb.ok Ub Uc σ H1 ρ dy _ (m.up s1) h3 fun b ys H2 s2 hc2 r2=>?_
  have r1':=r1.up s2
  have hc1':=hc1.up s2
  refine ⟨a,b,xs,ys,rfl,hc1'.sq,hc2.sq,fun as l hal hp hfr hl=>?_⟩
  have hS:=same_lay as (xs.zip ys) H2 hp fun c hc=>(hfr c hc).1
  have hl':JS H2 as (xs.zip ys) l=none:=by rw [Y7 _ _ _ _ fun c hc=>Qu (hfr c hc).2];exact hl
  have hS2:=hS.trans (zx (o:=.lst (as.map V.ref)) hl')
  refine kk l _ _ (s1.trans (s2.trans hS2)) (s1.free (s2.free hl)) zu ?_
  have g:Goes H2 _ (Bl Uc os σ) (fun b=>Bl Uc os σ b\/b=l):=.fresh hl hS2
  have q1:=zm.goes g _ _ r1'
  have q2:=zm.goes g _ _ r2
  have l1:=r1'.length
  have l2:=r2.length
  refine zm.of_at (by rw [Qg,hal];simp [zipD,List.length_zip,l1,l2]) fun i d v e1 e2=>?_
  rw [QO] at e2
  obtain ⟨c,e3,rfl⟩:=PR.mp e2
  have hi:i<(xs.zip ys).length:=by rw [<- hal];exact (Qh.mp e3).1
  have hi':=hi
  rw [List.length_zip] at hi'
  obtain ⟨⟨x,y⟩,e4⟩:∃ pr,(xs.zip ys)[i]?=some pr:=⟨_,Qv hi⟩
  have hz:=List.getElem?_zip_eq_some.mp e4
  obtain ⟨u,h5,h5'⟩:=q1.get (i:=i) (d:=dx[i]) (by simp [show i<dx.length by omega])
  obtain ⟨v,h6,h6'⟩:=q2.get (i:=i) (d:=dy[i]) (by simp [show i<dy.length by omega])
  rw [hz.1] at h5;cases h5
  rw [hz.2] at h6;cases h6
  have e5:d=.tup [dx[i],dy[i]]:=by
   simp only [zipD] at e1
   rw [Ps] at e1
   simp [show i<dx.length by omega,show i<dy.length by omega] at e1
   exact e1.symm
  subst e5
  simp only [Rep]
  refine ⟨c,_,rfl,.inl (.inl ?_),.cons h5' (.one h6')⟩
  rw [zv (QE (hfr c (QV e3)).2)]
  exact layT_in as _ H2 i c (x,y) hp e3 e4⟩
end
def tNever:TS:=fun _ _ _=>False
def mNever:Ev->Option Out:=fun _=>none
theorem ss_never {X:Cx} {fr:Bool} {os os' ol:List Nat} {st:Kx}:SS X fr os os' ol st tNever mNever :=
 ⟨fun _ _ _ _ _ _ h=>h.elim,fun _ _ _ _ _ _ _ _ q _=>by cases q⟩
def rNotB:R2:=fun x y H Q=>∃ a b,x=.bl a/\y=.bl b/\Q (.bl (!(a == b))) H
theorem op_notB {X:Cx}:OpR X (Km .IsNot) rNotB:=by
 intro KK s σ H x y v u Q I rx ry h
 obtain ⟨a,b,rfl,rfl,q⟩:=h
 cases rx
 cases ry
 exact wpAny_isNot_plain rfl (Zh I q (by cases a <;> cases b <;> rfl))
def dNotB:D->D->Option D
 | .bl a,.bl b=>some (.bl (!(a == b)))
 | _,_=>none
theorem rok_notB {K:KC}:ROk K rNotB dNotB:=fun H B x y d1 d2 d Q hB r1 r2 e k=>by
 cases d1 <;> cases d2 <;> simp only [dNotB] at e <;> cases e
 simp only [Rep] at r1 r2
 exact ⟨_,_,r1,r2,k _ H (.refl H) (by simp [Rep])⟩
def wK:D->D->Option D
 | .tup ds,.int k=>if ds≠[]/\0<=k/\ds.length*k.toNat<=1000/\k<=1000 then some (.tup (List.replicate k.toNat ds).flatten) else none
 | _,_=>none
section
variable {X:Cx} {st:Bool} {os:List Nat} {a b:Kv} {ta tb:TE} {fa fb:Ev->Option D} {pos:KB}
theorem rok_repZ {K:KC}:ROk K (rRepZ K) wK:=fun H B x y d1 d2 d Q hB r1 r2 e kk=>by
 cases d1 <;> cases d2 <;> simp only [wK] at e <;> try (cases e)
 split at e
 case isFalse=>cases e
 rename_i hc
 cases e
 simp only [Rep] at r1 r2
 obtain ⟨l,xs,rfl,hq,hr⟩:=r1
 subst r2
 rename_i ds n
 have hl:=hr.length
 refine ⟨l,n,xs,rfl,rfl,hq,fun z=>?_,hc.2.1,by rw [hl];exact hc.2.2.1,hc.2.2.2,fun h1=>?_,fun h1 p hp=>?_⟩
 ·rw [z] at hl;exact hc.1 (List.eq_nil_of_length_eq_zero hl.symm)
 ·subst h1
  refine kk _ H (.refl H) ?_
  simp only [Rep]
  exact ⟨l,xs,rfl,hq,by simpa using hr⟩
 ·refine kk _ _ (zx hp) ?_
  simp only [Rep]
  exact ⟨p,_,rfl,.inl (.inl zu),(hr.rep n.toNat).up (zx hp)⟩
theorem se_repZ (ha:SE X st os a ta fa) (hb:SE X st os b tb fb) {K':KC} (hK:X.K=K':=by rfl):SE X st os (.BinOp a .Mult b pos) (tOp (rRepZ K') ta tb) (f2 wK fa fb):=by
 subst hK
 exact zy op_repZ rok_repZ ha hb
end
end M
namespace L2
open PySem PySem.Spec PyProof.Rows
section
variable {prog:Ki} {w:Kk} {A:Kj} {E:Ka->Kb->Prop} {s:Kb}
variable {z TI TO i1 i2 i3 l1 l2 l3:Kc} {j:Bool} {k:Nat} {xs ys zs:Array Ka} {x y u a b c:Ka}
end
section
variable {prog:Ki} {w:Kk} {A:Kj} {E:Ka->Kb->Prop} {s:Kb}
end
end L2
namespace L2
open PySem PySem.Spec PyProof.Rows
section
variable {prog:Ki} {w:Kk} {A:Kj} {E:Ka->Kb->Prop} {s:Kb} {z TI TO i1 i2 i3 l1 l2 l3:Kc} {j:Bool} {k:Nat} {xs ys zs:Array Ka} {x y u a b c:Ka}
end
section
variable {X:Cx}
end
end L2
namespace M
open PySem PySem.Spec L2
open PySem.W (Frag)
section
variable {X:Cx} {s j:Bool} {os:List Nat} {a b c:Kv} {ta tb tc:TE} {ca cb cc:Ev->Option (List D)} {pos p:KB}
end
section
variable {X:Cx} {st:Bool} {os:List Nat} {o e:Kv} {to te:TE} {fo fe:Ev->Option D} {apos cpos:KB}
end
theorem sqT {X:Cx} {os:List Nat} {e:Kv} {t:TE} {f:Ev->Option D} (h:SE X true os e t f):SC X true os e t (zh true f):=h.seq
theorem sqF {X:Cx} {os:List Nat} {e:Kv} {t:TE} {f:Ev->Option D} (h:SE X true os e t f):SC X false os e t (zh false f):=h.seq
theorem fsc {N P:List Kw} {sc:Scope} (h1:sc.kind=.function:=by rfl) (h2:sc.isCoroutine=false:=by rfl) (h3:sc.isGenerator=false:=by rfl) (h4:N.Nodup:=by decide +kernel) (h5:N.take P.length=P:=by rfl) (h6:∀ x∈P,sc.names.lookup x=some .local\/sc.names.lookup x=some .cell:=by decide +kernel) (h7:∀ y∈sc.names,y.2≠.free:=by decide +kernel):FnScope N P sc:=⟨h1,h2,h3,h4,h5,h6,h7⟩
end M
namespace L2
open PySem PySem.Spec
open PySem.W (Frag)
theorem Fun.bnd {K:KC} {x qual:Kw} {st:Kx} {f:Kc} {fd:Kh} {ps:List Kw} (F:Fun K x qual st f fd)
  (h:∀ (kV doc pm:Ka) (an:Option Kc) (cdv ct:Ka) (us:List Ka),us.length=ps.length->bindArgs (fnOf x qual (yQ st) (Zk st) (zF st) .none kV doc pm an cdv ct) ⟨us,[]⟩=pure (ps.zip us):=by
   exact fun _ _ _ _ _ _ us hl=>by first | exact (match us,hl with | [_],_=>rfl) | exact (match us,hl with | [_,_],_=>rfl) | exact (match us,hl with | [_,_,_],_=>rfl) | exact (match us,hl with | [_,_,_,_],_=>rfl) | exact (match us,hl with | [_,_,_,_,_],_=>rfl) | exact (match us,hl with | [_,_,_,_,_,_],_=>rfl) | exact (match us,hl with | [],_=>rfl)):yR K fd ps []:=F.binds h
theorem Fun.one {K:KC} {x qual y:Kw} {st:Kx} {f:Kc} {fd:Kh} (F:Fun K x qual st f fd)
  (h:∀ (kV doc pm:Ka) (an:Option Kc) (cdv ct u:Ka),bindArgs (fnOf x qual (yQ st) (Zk st) (zF st) .none kV doc pm an cdv ct) ⟨[u],[]⟩=pure [(y,u)]:=by exact fun _ _ _ _ _ _ _=>rfl) (s:Kb) (v:Ka):BindsTo s fd ⟨[v],[]⟩ [(y,v)]:=by
 obtain ⟨oc,od,kV,doc,pm,an,cdv,ct,osl,rfl,lk,hcd⟩:=F.ex
 exact .of_eq (h _ _ _ _ _ _ _)
end L2
namespace M
open PySem PySem.Spec L2
open PySem.W (Frag)
def ownT:Kv->List Kw
 | .Name x _=>[x]
 | .Tuple es _ _=>es.filterMap fun e=>match e with | .Name x _=>some x | _=>none
 | _=>[]
def ndB:List Kw->Bool
 | []=>true
 | x::xs=>!xs.contains x&&ndB xs
theorem nd_of:∀ {N:List Kw},ndB N=true->N.Nodup
 | [],_=>List.nodup_nil
 | x::xs,h=>by
  simp only [ndB,QK,PM] at h
  have q:x∉xs:=fun z=>by
   have:=h.1
   rw [List.contains_iff_mem.mpr z] at this
   exact nomatch this
  exact Qz.mpr (And.intro q (nd_of h.2))
section
variable {X:Cx} {fr:Bool} {os os' ol:List Nat} {pos:KB} {s:Bool} {scope:Scope} {k:Nat} {elt target iter:Kv} {ifs:List Kv} {wi:TI} {g:TG} {tc:TT} {te:TE} {fi:Ev->Option (List D)} {u:D->Ev->Option Ev} {cf:Ev->Option Bool} {e:Ev->Option D}
theorem ZU {i:Nat} {x:Kw} (hN:ndB X.N=true:=by kernel_rfl) (hi:X.N[i]?=some x:=by rfl) (hx:Loc X.env.scope x:=by first | exact Or.inl rfl | exact Or.inr rfl) (ho:i∉os:=by decide) (hf:X.fn x=true\/X.env.scope.names.lookup x=some .local:=by first | exact .inl rfl | exact .inr rfl | assumption) :
  SG X os (.Name x pos) (ZR i) (zR i):=sg_name (nd_of hN) hi hx ho hf
abbrev cxT (X:Cx) (scope:Scope) (target:Kv) (s₂:Kb) (H₂:Hp) (fp:List Kc) (C:Kc):Cx:=Zp X scope (ownT target) (X.N++ownT target) s₂ H₂ fp C
theorem Jl (hi:SI X false os target iter wi fi) (hg:∀ s₂ H₂ fp C,SG (cxT X scope target s₂ H₂ fp C) os target g u) (ht:∀ s₂ H₂ fp C,SPF (cxT X scope target s₂ H₂ fp C) os ifs tc cf) (he:∀ s₂ H₂ fp C,SE (cxT X scope target s₂ H₂ fp C) true os elt te e)
  (c:CompOk X scope (ownT target) (X.N++ownT target) k:=by exact Jc (by kernel_rfl)) (hc:X.calm=true:=by rfl) (hs:∀ x,foldedSetIterable iter X.env x=pure x:=by intro _;rfl):SF X os (.ListComp elt [⟨target,iter,ifs,0⟩] scope pos) (Jk k wi g tc te) (Z4 k fi u cf e):=sf_comp c hc hi hg ht he hs
theorem ss_sT {i:Nat} {x:Kw} {pos' spos:KB} (hN:X.N.Nodup) (hi:SI X false os target iter wi fi:=by left) (hg:∀ s₂ H₂ fp C,SG (cxT X scope target s₂ H₂ fp C) os target g u:=by left) (ht:∀ s₂ H₂ fp C,SPF (cxT X scope target s₂ H₂ fp C) os ifs tc cf:=by left) (he:∀ s₂ H₂ fp C,SE (cxT X scope target s₂ H₂ fp C) true os elt te e:=by left)
  (c:CompOk X scope (ownT target) (X.N++ownT target) k:=by exact Jc (by kernel_rfl)) (hix:X.N[i]?=some x:=by rfl) (hx:X.env.scope.names.lookup x=some .local:=by rfl) (hc:X.calm=true:=by rfl) (hsw:Kt (.ListComp elt [⟨target,iter,ifs,0⟩] scope pos) (some (.Name x pos')) spos.line X.env=pure true:=by rfl)
  (h1:∀ j∈os',j∈os/\j≠i:=by decide) (h2:∀ j∈os,j∈os'\/j=i:=by decide) (hs:∀ x,foldedSetIterable iter X.env x=pure x:=by intro _;rfl) :
  SS X fr os os' ol (.Assign [.Name x pos'] (.ListComp elt [⟨target,iter,ifs,0⟩] scope pos) spos) (yG (Jk k wi g tc te) (ZR i)) (Zi i (Z4 k fi u cf e)):=WH hN hix hx c hc hi hg ht he hsw h1 h2 hs
end
def Kn (P:Ki) (w:Kk) (K:KC) (mg:Kw->Option Ka) (base:Kl) (x:Kw) (k:Nat) (ps:List Kw) (sp:Sp):Prop :=
 ∃ f fd,FnOk P w K mg base CX0 k f fd ps sp/\mg x=some (.ref f)/\keepIn K (.ref f)=true/\yR K fd ps []
def KnM (P:Ki) (w:Kk) (K:KC) (mg:Kw->Option Ka) (base:Kl) (C:Kc) (x:Kw) (k:Nat) (ps:List Kw) (sp:Sp):Prop :=
 ∃ f fd,FnOk P w K mg base CX0 k f fd ps sp/\Meth K C x f/\yR K fd ps []
def Df (K:KC) (mg:Kw->Option Ka) (x:Kw) (st:Kx):Prop:=∃ f fd,Fun K x x st f fd/\mg x=some (.ref f)
def DfM (K:KC) (C:Kc) (x q:Kw) (st:Kx):Prop:=∃ f fd,Fun K x q st f fd/\Meth K C x f
def DfI (K:KC) (C:Kc) (q:Kw) (st:Kx):Prop:=∃ f fd,Fun K "__init__" q st f fd/\Mk K C f
def BD (x q:Kw) (st:Kx) (ps:List Kw):Prop:=∀ (kV doc pm:Ka) (an:Option Kc) (cdv ct:Ka) (us:List Ka),us.length=ps.length->bindArgs (fnOf x q (yQ st) (Zk st) (zF st) .none kV doc pm an cdv ct) ⟨us,[]⟩=pure (ps.zip us)
abbrev BoX (P:Ki) (w:Kk) (K:KC) (mg:Kw->Option Ka) (base:Kl) (N:List Kw) (q:Kw) (st:Kx) (k:Nat) (R:Cx->Prop):Prop :=
 ∀ (f:Kc) (cdv:Ka) (A:Kj) (outer:List Env) (s:Kb) (H:Hp) (E:XK),Room k (A.deeper (PyProof.Rows.envOfC q (zF st) s.heap.objs.size f cdv))->R (Jh CX0 P w K mg base N q (zF st) f cdv A outer s H E).nox
def KnI (P:Ki) (w:Kk) (K:KC) (mg:Kw->Option Ka) (base:Kl) (C:Kc) (k:Nat) (ps:List Kw) (sp:Sp):Prop :=
 ∃ f fd,FnOk P w K mg base CX0 k f fd ps sp/\Mk K C f/\yR K fd ps []
def TS1 (K:KC) (a:Kc) (s:Kw):Prop:=∃ (od:Option Kc) (tk:Tok) (n:Nat) (sl:Array (Option Ka)),K.lookup a=some ⟨.type "tuple",od,.seq #[.str s tk] n,sl⟩
theorem bd1 {x q:Kw} {st:Kx} {ps:List Kw} (h:BD x q st ps:=by exact fun _ _ _ _ _ _ us hl=>by first | exact (match us,hl with | [_],_=>rfl) | exact (match us,hl with | [_,_],_=>rfl) | exact (match us,hl with | [_,_,_],_=>rfl) | exact (match us,hl with | [_,_,_,_],_=>rfl) | exact (match us,hl with | [_,_,_,_,_],_=>rfl) | exact (match us,hl with | [_,_,_,_,_,_],_=>rfl) | exact (match us,hl with | [],_=>rfl)):BD x q st ps:=h
section
variable (P:Ki) (w:Kk) {K:KC} {mg:Kw->Option Ka} (base:Kl) {x q:Kw} {st:Kx} {κ:Kd} {C:Kc} {f:Kc} {fd:Kh}
theorem fn_kX (k:Nat) (N ps:List Kw) (m:Ev->Option Out) (F:Fun K x x st f fd) (nd:N.Nodup) (h:N.Nodup->BoX P w K mg base N x st k fun X=>∃ t os',SSs X false [] os' [] (Zk st) t m) (S:N.Nodup->FnScope N ps (zF st):=by exact fun nd=>⟨rfl,rfl,rfl,nd,rfl,by decide +kernel,by decide +kernel⟩):FnOk P w K mg base CX0 (k+1) f fd ps (spM K (Z1 ps.length N.length m)):=fn_ok F (S nd) (h nd f)
theorem jt (k:Nat) (N ps:List Kw) (m:Ev->Option Out) (F:Df K mg x st) (nd:N.Nodup) (h:N.Nodup->BoX P w K mg base N x st k fun X=>∃ t os',SSs X false [] os' [] (Zk st) t m) (S:N.Nodup->FnScope N ps (zF st):=by exact fun nd=>⟨rfl,rfl,rfl,nd,rfl,by decide +kernel,by decide +kernel⟩) (b:BD x x st ps:=by exact bd1):Kn P w K mg base x (k+1) ps (spM K (Z1 ps.length N.length m)):=by
 obtain ⟨f,fd,F,hm⟩:=F
 exact ⟨f,fd,fn_ok F (S nd) (h nd f),hm,F.kp,F.binds b⟩
theorem fn_kF (k:Nat) (N ps:List Kw) (m:Ev->Option Out) (F:Df K mg x st) (nd:N.Nodup) (h:N.Nodup->BoX P w K mg base N x st k fun X=>∃ t os',SSs X true [] os' [] (Zk st) t m) (S:N.Nodup->FnScope N ps (zF st):=by exact fun nd=>⟨rfl,rfl,rfl,nd,rfl,by decide +kernel,by decide +kernel⟩) (b:BD x x st ps:=by exact bd1):Kn P w K mg base x (k+1) ps (spF K (Z1 ps.length N.length m)):=by
 obtain ⟨f,fd,F,hm⟩:=F
 exact ⟨f,fd,fn_okF F (S nd) (h nd f),hm,F.kp,F.binds b⟩
theorem fn_kW (k:Nat) (N ps:List Kw) (i0:Nat) (κ:Kd) (m:WM) (F:Df K mg x st) (nd:N.Nodup) (h:N.Nodup->BoX P w K mg base N x st k fun X=>∃ t os',WSs X κ [] os' [] i0 (Zk st) t m) (hi:i0<ps.length:=by decide) (S:N.Nodup->FnScope N ps (zF st):=by exact fun nd=>⟨rfl,rfl,rfl,nd,rfl,by decide +kernel,by decide +kernel⟩) (b:BD x x st ps:=by exact bd1):Kn P w K mg base x (k+1) ps (spW K κ i0 (YD ps.length N.length m)):=by
 obtain ⟨f,fd,F,hm⟩:=F
 exact ⟨f,fd,fnW_ok F (S nd) hi (h nd f),hm,F.kp,F.binds b⟩
theorem fn_kM (k:Nat) (N ps:List Kw) (i0:Nat) (κ:Kd) (m:WM) (F:DfM K C x q st) (nd:N.Nodup) (h:N.Nodup->BoX P w K mg base N q st k fun X=>∃ t os',WSs X κ [] os' [] i0 (Zk st) t m) (hi:i0<ps.length:=by decide) (S:N.Nodup->FnScope N ps (zF st):=by exact fun nd=>⟨rfl,rfl,rfl,nd,rfl,by decide +kernel,by decide +kernel⟩) (b:BD x q st ps:=by exact bd1):KnM P w K mg base C x (k+1) ps (spW K κ i0 (YD ps.length N.length m)):=by
 obtain ⟨f,fd,F,hm⟩:=F
 exact ⟨f,fd,fnW_ok F (S nd) hi (h nd f),hm,F.binds b⟩
theorem fn_kI (k:Nat) (m:List D->Option D) (F:DfI K C q st) (T:LCls K C) (h:BoX P w K mg base ["self","bodies"] q st k fun X=>PSs X (Zk st) (tInit K m)) (S:FnScope ["self","bodies"] ["self","bodies"] (zF st):=by exact fsc) (b:BD "__init__" q st ["self","bodies"]:=by exact bd1):KnI P w K mg base C (k+1) ["self","bodies"] (WI K C m):=by
 obtain ⟨f,fd,F,hm⟩:=F
 refine ⟨f,fd,F.ok S (fun vs H Q E h=>?_) (fun cdv A outer s H vs Q E hr z=>⟨_,h f cdv A outer s H E hr,init_read T z⟩),hm,F.binds b⟩
 obtain ⟨_,_,_,_,_,_,rfl,_⟩:=h
 rfl
theorem fn_kL (k:Nat) (N ps:List Kw) (mp:List D->Option D) (fe:Ev->Option D) (M2:WM) (T:LCls K C) (F:Df K mg x st) (nd:N.Nodup) (h:N.Nodup->BoX P w K mg base N x st k fun X=>∃ te t2,PSs X (Zk st) (tLaid K C mp te t2)/\EOk K true [] te fe/\WOk K (kO C) [] [] [] 1 t2 M2) (hps:ps.length=1:=by rfl) (hN:N.length=3:=by rfl) (S:N.Nodup->FnScope N ps (zF st):=by exact fun nd=>⟨rfl,rfl,rfl,nd,rfl,by decide +kernel,by decide +kernel⟩) (b:BD x x st ps:=by exact bd1) :
  Kn P w K mg base x (k+1) ps (spL K (Z1 ps.length N.length (mLaid mp fe M2))):=by
 obtain ⟨f,fd,F,hm⟩:=F
 exact ⟨f,fd,fnLaid_ok T F (S nd) hps hN (h nd f),hm,F.kp,F.binds b⟩
end
section
variable {P:Ki} {w:Kk} {K:KC} {mg:Kw->Option Ka} {base:Kl} {x q:Kw} {st:Kx} {N ps:List Kw} {k i0:Nat} {κ:Kd} {C:Kc}
theorem Kn.no (F:Df K mg x st) (b:BD x x st ps:=by exact bd1):Kn P w K mg base x k ps (spM K fun _=>none):=by
 obtain ⟨f,fd,F,hm⟩:=F
 exact ⟨f,fd,FnOk.no,hm,F.kp,F.binds b⟩
theorem Kn.noW (F:Df K mg x st) (b:BD x x st ps:=by exact bd1):Kn P w K mg base x k ps (spW K κ i0 fun _ _=>none):=by
 obtain ⟨f,fd,F,hm⟩:=F
 exact ⟨f,fd,FnOk.noW,hm,F.kp,F.binds b⟩
theorem Kn.plain {m:List D->Option D} (h:Kn P w K mg base x k ps (spF K m)):Kn P w K mg base x k ps (spM K m):=by
 obtain ⟨f,fd,F,r⟩:=h
 exact ⟨f,fd,FnOk.plain F,r⟩
theorem Kn.told {m:List D->Option D} (h:Kn P w K mg base x k ps (spL K m)):Kn P w K mg base x k ps (spM K m):=by
 obtain ⟨f,fd,F,r⟩:=h
 exact ⟨f,fd,F.told,r⟩
theorem ZW {h:Kl} {f:Kc} {oc:Ka} {od an:Option Kc} {osl:Array (Option Ka)} {kV doc pm cdv ct:Ka} (X:K.In h) (G:h.Ns Kf mg) (a:nsIn K Kf x=some (some (.ref f)))
  (l:K.lookup f=some ⟨oc,od,.func (fnOf x x (yQ st) (Zk st) (zF st) .none kV doc pm an cdv ct),osl⟩) (c:codeIn K cdv x=true) (k:keepIn K (.ref f)=true):Df K mg x st:=⟨f,_,fun_mk l c k,PySem.W.mg_of X G a⟩
theorem df_mkM {f:Kc} {oc:Ka} {od an:Option Kc} {osl:Array (Option Ka)} {kV doc pm cdv ct:Ka} (a:KD K (.ref C) x=some (some (.ref f)))
  (l:K.lookup f=some ⟨oc,od,.func (fnOf x q (yQ st) (Zk st) (zF st) .none kV doc pm an cdv ct),osl⟩) (c:codeIn K cdv q=true) (k:keepIn K (.ref f)=true) (i:PySem.W.isFn K (.ref f)=true):DfM K C x q st:=⟨f,_,fun_mk l c k,a,i,k⟩
theorem df_mkI {f:Kc} {oc:Ka} {od an:Option Kc} {osl:Array (Option Ka)} {kV doc pm cdv ct:Ka} (a:KD K (.ref C) "__init__"=some (some (.ref f)))
  (l:K.lookup f=some ⟨oc,od,.func (fnOf "__init__" q (yQ st) (Zk st) (zF st) .none kV doc pm an cdv ct),osl⟩) (c:codeIn K cdv q=true) (k:keepIn K (.ref f)=true) (mk:PySem.W.makesIn K C=true) (i:PySem.W.isFn K (.ref f)=true) (kc:keepIn K (.ref C)=true):DfI K C q st:=⟨f,_,fun_mk l c k,mk,a,i,kc⟩
end
section
variable {X:Cx} {st:Bool} {os:List Nat} {e:Kv} {es:List Kv} {tl:TA} {fl:Ev->Option (List D)} {pos p:KB} {x:Kw} {k:Nat} {ps:List Kw} {m:List D->Option D}
theorem Zz (G:Kn X.prog X.w X.K X.mg X.base x k ps (spM X.K m)) (hr:Room k X.A) (ha:SA X st os (e::es) tl fl) (hg:Gl X x:=by rfl) (hdb:(x == ("__debug__":Kw))=false:=by decide) (he:Ke (e::es) X.env=(false,Kz e X.env)::Ke es X.env:=by rfl) (hpl:(Kq pos (Ke es X.env)).any (·.1)=false:=by rfl) {K':KC} (hK:X.K=K':=by rfl) :
  SE X st os (.Call (.Name x p) (e::es) [] pos) (jI (spM K' m) [] E0 tl) (fA m fl):=by
 obtain ⟨f,fd,F,hm,hk,hb⟩:=G
 exact se_call F hr hg hm hk hb ha hdb he hpl hK
theorem sr_kn (G:Kn X.prog X.w X.K X.mg X.base x k ps (spF X.K m)) (hr:Room k X.A) (ha:SA X st os (e::es) tl fl:=by left) (hg:Gl X x:=by rfl) (hdb:(x == ("__debug__":Kw))=false:=by decide) (he:Ke (e::es) X.env=(false,Kz e X.env)::Ke es X.env:=by rfl) (hpl:(Kq pos (Ke es X.env)).any (·.1)=false:=by rfl) :
  SR X st os (.Call (.Name x p) (e::es) [] pos) (jI (spF X.K m) [] E0 tl) (fA m fl):=by
 obtain ⟨f,fd,F,hm,hk,hb⟩:=G
 exact sr_call F hr hg hm hk hb ha hdb he hpl
theorem YZ {κ:Kd} {i i0:Nat} {mw:List D->List D->Option (D×List D)} {G:WL} (F:Kn X.prog X.w X.K X.mg X.base x k ps (spW X.K κ i0 mw)) (hr:Room k X.A) (hi:HasAt i0 i G) (ha:WA X κ os i (e::es) tl G) (hg:Gl X x:=by rfl) (hdb:(x == ("__debug__":Kw))=false:=by decide) (he:Ke (e::es) X.env=(false,Kz e X.env)::Ke es X.env:=by rfl) (hpl:(Kq pos (Ke es X.env)).any (·.1)=false:=by rfl) {K':KC} (hK:X.K=K':=by rfl) :
  WE X κ st os i (.Call (.Name x p) (e::es) [] pos) (jI (spW K' κ i0 mw) [] E0 tl) (yC i0 mw G):=by
 obtain ⟨f,fd,F,hm,hk,hb⟩:=F
 exact we_call F hr hg hm hk hb hi ha hdb he hpl hK
theorem wl_kn {mn:Kw} {i:Nat} {C:Kc} {mf:List D->List D->Option (D×List D)} {pl:Sem Bool} {G:WL} {apos:KB} (T:LCls X.K C) (F:KnM X.prog X.w X.K X.mg X.base C mn k ps (spW X.K (kO C) 0 mf)) (hr:Room k X.A) (ha:WA X (kO C) os i (e::es) tl G)
  (hl:∀ vb vl c s,(lFs vb vl c s).lookup mn=none:=by exact fun _ _ _ _=>rfl) (hN:X.N[i]?=some x:=by rfl) (hv:Vis X.env.scope x:=by first | exact Or.inl rfl | exact Or.inr (Or.inl rfl) | exact Or.inr (Or.inr rfl)) (hd:(x == ("__debug__":Kw))=false:=by decide) (hcd:(x == ("__classdict__":Kw))=false:=by decide)
  (hst:Ke (e::es) X.env=(false,Kz e X.env)::Ke es X.env:=by rfl) (hpl:(Kq pos (Ke es X.env)).any (·.1)=false:=by rfl)
  (ht:Kz (.Call (.Attribute (.Name x p) mn apos) (e::es) [] pos) X.env=(do
   let ov <- Kz (.Name x p) X.env
   standAt apos.atName
   let (f,first) <- holding [ov] (getMethod ov mn pl)
   callWith pos f first (Kq pos (Ke (e::es) X.env)) (Kr pos (Ks [] X.env))):=by rfl) {K':KC} (hK:X.K=K':=by rfl) :
  WE X (kO C) st os i (.Call (.Attribute (.Name x p) mn apos) (e::es) [] pos) (Ww C mn (spW K' (kO C) 0 mf) [] E0 (Zj i) tl) (Yq i mf G):=by
 obtain ⟨f,fd,F,hm,hb⟩:=F
 exact wl_meth T hm F hr hb ha hl hN hv hd hcd hst hpl ht hK
theorem wl_kn0 {mn:Kw} {i:Nat} {C:Kc} {mf:List D->List D->Option (D×List D)} {pl:Sem Bool} {apos:KB} (T:LCls X.K C) (F:KnM X.prog X.w X.K X.mg X.base C mn k ps (spW X.K (kO C) 0 mf)) (hr:Room k X.A)
  (hl:∀ vb vl c s,(lFs vb vl c s).lookup mn=none:=by exact fun _ _ _ _=>rfl) (hN:X.N[i]?=some x:=by rfl) (hv:Vis X.env.scope x:=by first | exact Or.inl rfl | exact Or.inr (Or.inl rfl) | exact Or.inr (Or.inr rfl)) (hd:(x == ("__debug__":Kw))=false:=by decide) (hcd:(x == ("__classdict__":Kw))=false:=by decide)
  (ht:Kz (.Call (.Attribute (.Name x p) mn apos) [] [] pos) X.env=(do
   let ov <- Kz (.Name x p) X.env
   standAt apos.atName
   let (f,first) <- holding [ov] (getMethod ov mn pl)
   callWith pos f first (Kq pos (Ke [] X.env)) (Kr pos (Ks [] X.env))):=by rfl) {K':KC} (hK:X.K=K':=by rfl) :
  WE X (kO C) st os i (.Call (.Attribute (.Name x p) mn apos) [] [] pos) (Ww C mn (spW K' (kO C) 0 mf) [] E0 (Zj i) ZS) (Yq i mf (wL zr)):=by
 obtain ⟨f,fd,F,hm,hb⟩:=F
 exact wl_meth0 T hm F hr hb hl hN hv hd hcd ht hK
theorem se_glS {a:Kc} {s:Kw} (hm:X.mg x=some (.ref a)) (hl:TS1 X.K a s) (hg:Gl X x:=by rfl) (hdb:(x == ("__debug__":Kw))=false:=by decide):SE X st os (.Name x pos) (tC (.ref a)) (fC (.tup [.str s])):=by
 obtain ⟨od,tk,n,sl,hl⟩:=hl
 exact se_globS hg hm hl hdb
theorem pe_kn {sp:Sp} {t:TA} (G:Kn X.prog X.w X.K X.mg X.base x k ps sp) (hr:Room k X.A) (hg:Gl X x) (ha:PA X (e::es) t) (hdb:(x == ("__debug__":Kw))=false:=by decide) (he:Ke (e::es) X.env=(false,Kz e X.env)::Ke es X.env:=by rfl) (hpl:(Kq pos (Ke es X.env)).any (·.1)=false:=by rfl) :
  PE X (.Call (.Name x p) (e::es) [] pos) (jI sp [] E0 t):=by
 obtain ⟨f,fd,F,hm,hk,hb⟩:=G
 exact Wj F hr hg hm hk hb .nil WZ ha hdb he hpl
theorem pe_mk {sp:Sp} {C:Kc} {t:TA} (G:KnI X.prog X.w X.K X.mg X.base C k ps sp) (hr:Room (k+1) X.A) (hg:Gl X x) (hm:X.mg x=some (.ref C)) (ha:PA X (e::es) t) (hdb:(x == ("__debug__":Kw))=false:=by decide) (he:Ke (e::es) X.env=(false,Kz e X.env)::Ke es X.env:=by rfl) (hpl:(Kq pos (Ke es X.env)).any (·.1)=false:=by rfl) :
  PE X (.Call (.Name x p) (e::es) [] pos) (tMake C sp [] E0 t):=by
 obtain ⟨f,fd,F,M1,hb⟩:=G
 exact pe_make M1 F hr hg hm hb .nil WZ ha hdb he hpl
end
theorem ts_mk {K:KC} {a:Kc} {s:Kw} {od:Option Kc} {tk:Tok} {n:Nat} {sl:Array (Option Ka)} (h:K.lookup a=some ⟨.type "tuple",od,.seq #[.str s tk] n,sl⟩):TS1 K a s:=⟨od,tk,n,sl,h⟩
theorem tx_mk {p:Kc->(Nat->Kc)->Prop} {C a:Kc} (h:p C fun _=>a):∃ C Z,p C Z:=⟨C,_,h⟩
theorem walk_kn {l:PySem.W.OpenLaw} {k:Nat} {q:Ki} {loose:List Kw} {XP:(Kw->Option Ka)->Kl->Prop} {YP:Kk->Kl->Prop} {d:DefRec} {K:Params->KC} {x:Kw} {m:List D->Option D} {st:Kx} (hn:l.most=some 63) (hdf:d.params.defaults=[]) (himp:PyProof.Rows.importsNone q=true) (htree:l.prog.given.tree=none)
  (hY:∀ (w:Kk) (h:Kl),YP w h->(K w.params).In h) (hd:d.name="law") (hr:Room k callerA)
  (hbd:∀ (kV doc pm:Ka) (an:Option Kc) (cdv ct u:Ka),bindArgs (fnOf "law" "law" (yQ st) (Zk st) (zF st) .none kV doc pm an cdv ct) ⟨[u],[]⟩=pure [(x,u)])
  (F:∀ (w:Kk) (mg:Kw->Option Ka) (h:Kl),(K w.params).In h->h.Ns Kf mg->Df (K w.params) mg "law" st/\∀ (base:Kl) (f:Kc) (fd:Kh),Fun (K w.params) "law" "law" st f fd->FnOk l.prog w (K w.params) mg base CX0 k f fd [x] (spM (K w.params) m))
  (hl:∀ ns:List Int,ns.length<=63->m [.scr ns]=some (.bl true)) :
  PySem.W.WalkO q loose XP YP l.row.toRowW d [] (fun f vs=>PySem.call f vs) :=
 L2.walk_of (n:=63) (k:=k) (x:=x) (CX:=fun _=>CX0) (sp:=fun w=>spM (K w.params) m) hn (by decide) hdf hr himp htree hY (fun w mg fa h X G hm=>by
  obtain ⟨⟨f,fd,Fu,hf⟩,hF⟩:=F w mg h X G
  rw [hd,hf] at hm
  cases hm
  exact ⟨fd,Fu.one hbd,fun base _ _=>hF base _ fd Fu⟩) (fun _ _ a ns hlen hO hS=>law_end (l:=l) hO hS (hl ns hlen)) fun _ _ _ _ _ z=>z
end M
namespace L2
open PySem PySem.Spec PyProof.Rows
def KpS (fs ex:List Kc) (h h':Kl):Prop :=
 (∀ b o,h.get? b=some o->b∉fs->b∉ex->h'.get? b=some o)/\∀ b o,h.get? b=some o->b∈fs->b∉ex->∃ sl,h'.get? b=some { o with slots:=sl }
def Fly (h:Kl) (e T:Kc) (cls a0 fl:Ka):Prop :=
 ∃ oe vs oT ts,h.get? e=some oe/\oe.cls=cls/\oe.dict=none/\oe.data=.fields vs/\vs[0]?=some a0/\vs[1]?=some (.ref T)/\T≠e/\h.get? T=some oT/\oT.data=.fields ts/\ts[3]?=some fl
section
variable {M:Model} {A:Kj} {E:Ka->Kb->Prop} {s:Kb}
theorem entryP {base:Kl} {env:Env} {outer:List Env} {L e:Kc} {oe:KA} {vs:Array Ka} {head a0:Ka} {hadNext:Bool} {Q:Unit->Kb->Prop}
  (hfr:A.frames=some (env::outer)) (hl:s.heap.FunFrames base (env::outer)) (hf:env.frame=some L) (he:s.heap.get? e=some oe) (hdn:oe.dict=none) (hd:oe.data=.fields vs) (zz:1<vs.size) (h0:vs[0]?=some a0)
  (h:∀ h' T,s.heap.get? T=none->Fly h' e T oe.cls a0 (rawInt L)->KpS (frs (env::outer)) [e] s.heap h'->Q () { s with heap:=h' }) :
  Ko M A (do let fr <- frameOf env;let at_ <- entryPlaceOf L hadNext;let tb <- EntryCells.newEntry head fr .none (rawInt L) .none at_;setField (.ref e) 1 tb) Q E s:=by
 have nfr:e∉(env::outer).filterMap (·.frame):=fun hm=>by
  obtain ⟨_,o,z,no⟩:=hl.mem hm
  rw [he] at z;cases z;exact no vs hd
 refine Qa (wpAny_frameOf_fun hfr hl hf fun g1 so=>?_)
 refine Qa (wpAny_entryPlaceOf fun pc wp=>?_)
 unfold EntryCells.newEntry newFields;refine Qa (QS ?_ (wp.sizeOk5 _ _ _ _ _))
 have q1:g1.get? e=some oe:=(so.2.1 e nfr).trans he
 have q2:=Qb (h:=g1) { cls:=.type "traceback",dict:=none,data:=.fields ([head,.ref L,.none,rawInt L,.none]++(if pc.isEmpty then List.replicate 6 Value.none else pc)).toArray } q1
 have fresh:s.heap.get? g1.objs.size=none:=by
  cases q:s.heap.get? g1.objs.size with
  | none=>rfl
  | some o =>
   obtain ⟨sl,q'⟩:=so.2.2 _ o q
   exact absurd (Qm q') (Q3 _)
 refine PK q2 hd zz (h _ g1.objs.size fresh ?_ ?_)
 ·have tne:g1.objs.size≠e:=QE (Qm q1)
  have d3:=Obj.data_mapFields hd (·.setIfInBounds 1 (Value.ref g1.objs.size))
  have q3:=QH (Obj.mapFields (·.setIfInBounds 1 (Value.ref g1.objs.size))) q2 (Obj.isFreed_of_fields d3)
  have t3:=(QM (g1.push { cls:=.type "traceback",dict:=none,data:=.fields ([head,.ref L,.none,rawInt L,.none]++(if pc.isEmpty then List.replicate 6 Value.none else pc)).toArray })
   (Obj.mapFields (·.setIfInBounds 1 (Value.ref g1.objs.size))) (Ne.symm tne)).trans (Qq g1 rfl)
  exact ⟨_,_,_,_,q3,Obj.cls_mapFields _ _,(by rw [<- hdn];obtain ⟨c,d,dt,sl⟩:=oe;cases dt <;> rfl),d3,by rw [Array.getElem?_setIfInBounds_ne (by decide)];exact h0,by simp [zz],tne,t3,rfl,by first | (simp;done) | (rcases wp with rfl | ⟨_,_,_,_,_,_,_,rfl⟩ <;> simp)⟩
 ·have keep:∀ b o,b∉[e]->g1.get? b=some o ->
    ((g1.push { cls:=.type "traceback",dict:=none,data:=.fields ([head,.ref L,.none,rawInt L,.none]++(if pc.isEmpty then List.replicate 6 Value.none else pc)).toArray }).update e (Obj.mapFields (·.setIfInBounds 1 (Value.ref g1.objs.size)))).get? b=some o :=
   fun b o hbe hb=>by
    rw [QM _ _ (fun z=>hbe (by rw [z];simp))]
    exact (Qb _ hb)
  refine ⟨fun b o q n m=>keep b o m ((so.2.1 b n).trans q),fun b o q n m=>?_⟩
  obtain ⟨sl,q'⟩:=so.2.2 b o q
  exact ⟨sl,keep b _ m q'⟩
theorem landP {e T:Kc} {cls a0 fl:Ka} {Q:Unit->Kb->Prop} (hx:Fly s.heap e T cls a0 fl)
  (h:∀ h',Fly h' e T cls a0 .none->KpS [] [T] s.heap h'->Q () { s with heap:=h' }):Ko M A (setFlight (.ref e) none) Q E s:=by
 obtain ⟨oe,vs,oT,ts,he,hc,hdn,hd,h0,h1,tne,hT,dT,h3⟩:=hx
 have z3:3<ts.size:=(Array.getElem?_eq_some_iff.mp h3).1
 have oth:∀ b,b≠T->(s.heap.update T (Obj.mapFields (·.setIfInBounds 3 ((none:Option Kc).elim Value.none fun f=>rawInt f)))).get? b=s.heap.get? b :=
  fun b ne=>QM _ _ (Ne.symm ne)
 unfold setFlight
 refine Qa (QC he hd h1 ?_);rw [KR (show (Value.ref T != Value.none)=true by simp)]
 refine PK hT dT z3 (h _ ?_ ⟨fun b o q _ m=>(oth b fun z=>m (by rw [z];simp)).trans q,fun b o q n _=>nomatch n⟩)
 exact ⟨oe,vs,_,_,(oth e (Ne.symm tne)).trans he,hc,hdn,hd,h0,h1,tne,QH _ hT (Obj.isFreed_of_fields (Obj.data_mapFields dT _)),Obj.data_mapFields dT _,by simp [z3]⟩
theorem leaveP {base h:Kl} {env:Env} {outer:List Env} {L e:Kc} {cls:Ka} {args:List Ka} {Q:Unit->Kb->Prop}
  (hfr:A.frames=some (env::outer)) (hf:env.frame=some L) (hl:h.FunFrames base (env::outer)) (hx:Heap.MadeExcOf h s.heap e cls args)
  (hQ:∀ h' T t,h.get? T=none->Fly h' e T cls (.ref t) .none->KpS (frs (env::outer)) [] h h'->Q () { s with heap:=h' }):Ko M A (leaving env (.ref e)) Q E s:=by
 obtain ⟨t,he,nt,tt⟩:=hx.there
 unfold leaving noteFrame
 simp only [hf]
 refine Qa (Qa (QC he rfl (x:=.none) rfl ?_))
 rw [KS (by decide)]
 refine entryP (base:=base) (a0:=.ref t) hfr (hl.of_keeps fun b o hb _=>⟨o,hx.keeps b o hb,rfl⟩) hf he rfl rfl (by show 1<6;decide) rfl fun h1 T hT fl k1=>?_
 refine landP fl fun h2 fl2 k2=>hQ h2 T t ?_ fl2 ⟨fun b o q n _=>?_,fun b o q n _=>?_⟩
 ·cases q:h.get? T with
  | none=>rfl
  | some o=>rw [hx.keeps _ _ q] at hT;cases hT
 ·have be:b∉[e]:=fun z=>by rw [Qo.mp z,hx.new] at q;cases q
  have bT:b∉[T]:=fun z=>by rw [Qo.mp z] at q;rw [hx.keeps _ _ q] at hT;cases hT
  exact k2.1 b o (k1.1 b o (hx.keeps _ _ q) n be) (by simp) bT
 ·have be:b∉[e]:=fun z=>by rw [Qo.mp z,hx.new] at q;cases q
  have bT:b∉[T]:=fun z=>by rw [Qo.mp z] at q;rw [hx.keeps _ _ q] at hT;cases hT
  obtain ⟨sl,q1⟩:=k1.2 b o (hx.keeps _ _ q) n be
  exact ⟨sl,k2.1 b _ q1 (by simp) bT⟩
theorem comeP {base:Kl} {env:Env} {outer:List Env} {L e T:Kc} {cls a0:Ka} {Q:Unit->Kb->Prop}
  (hfr:A.frames=some (env::outer)) (hf:env.frame=some L) (hl:s.heap.FunFrames base (env::outer)) (hx:Fly s.heap e T cls a0 .none)
  (hQ:∀ h' T',s.heap.get? T'=none->Fly h' e T' cls a0 (rawInt L)->KpS (frs (env::outer)) [e,T] s.heap h'->Q () { s with heap:=h' }):Ko M A (noteFrame (.ref e) env) Q E s:=by
 obtain ⟨oe,vs,oT,ts,he,hc,hdn,hd,h0,h1,tne,hT,dT,h3⟩:=hx
 subst hc
 unfold noteFrame
 simp only [hf]
 refine Qa (QC he hd h1 ?_);rw [KR (show (Value.ref T != Value.none)=true by simp)]
 refine Qa (QC hT dT h3 ?_)
 rw [KS (show ¬ ((Value.none == rawInt L)=true) by simp [rawInt])]
 refine Qa (PK hT dT (Array.getElem?_eq_some_iff.mp h3).1 ?_)
 have oth:∀ b,b≠T->(s.heap.update T (Obj.mapFields (·.setIfInBounds 3 Value.none))).get? b=s.heap.get? b:=fun b hb=>QM _ _ (Ne.symm hb)
 have nrec:∀ b o,s.heap.get? b=some o->(∀ vs,o.data≠.fields vs)->b≠T:=fun b o hb hnf q=>by
  rw [q,hT] at hb;injection hb with hb;subst hb;exact hnf ts dT
 refine entryP (base:=base) hfr (hl.of_keeps fun b o hb hnf=>⟨o,(oth b (nrec b o hb hnf)).trans hb,rfl⟩) hf ((oth e (Ne.symm tne)).trans he) hdn hd (Array.getElem?_eq_some_iff.mp h1).1 h0 fun h' T' q fl k=>hQ h' T' ?_ fl ⟨fun b o z n m=>?_,fun b o z n m=>?_⟩
 ·by_cases zT:T'=T
  ·exfalso
   subst zT
   have:=QH (Obj.mapFields (·.setIfInBounds 3 Value.none)) hT (Obj.isFreed_of_fields (Obj.data_mapFields dT _))
   rw [q] at this;cases this
  ·exact (oth T' zT).symm.trans q
 ·simp only [Qc,Qn,or_false,not_or] at m
  exact k.1 b o ((oth b m.2).trans z) n (by simpa using m.1)
 ·simp only [Qc,Qn,or_false,not_or] at m
  exact k.2 b o ((oth b m.2).trans z) n (by simpa using m.1)
end
end L2
namespace L2
open PySem PySem.Spec PyProof.Rows
section
variable {P:Ki} {w:Kk} {H H':Hp} {h h':Kl} {fs ex:List Kc}
theorem Z9.there {a:Kc} {o:HO} (x:Z9 P w H h a o):∃ u,h.get? a=some u:=by
 cases o with
 | lst xs=>obtain ⟨_,_,_,_,e⟩:=x;exact ⟨_,e⟩
 | tup xs=>obtain ⟨_,_,_,ob,e,_⟩:=x;exact ⟨_,e⟩
 | dK KP=>obtain ⟨_,_,_,_,o,_,_,e,_⟩:=x;exact ⟨_,e⟩
 | dT KP=>obtain ⟨_,_,_,_,o,_,_,e,_⟩:=x;exact ⟨_,e⟩
 | set S n=>obtain ⟨o,_,_,_,e,_⟩:=x;exact ⟨_,e⟩
 | ins C dx fs=>obtain ⟨_,_,_,e,_⟩:=x;exact ⟨_,e⟩
 | own y=>exact x
 | xd fs=>obtain ⟨_,⟨od,_,_,e,_⟩,_⟩:=x;exact ⟨_,e⟩
 | rng lo hi=>obtain ⟨_,_,_,e⟩:=x;exact ⟨_,e⟩
 | frz ob u=>exact ⟨_,x.1⟩
 | tbl ps=>exact ⟨_,x⟩
 | met f y=>exact ⟨_,x⟩
 | ext φ=>exact x.2.1
theorem HOk.kpS (ok:HOk P w H h) (k:KpS fs ex h h') (hf:∀ b∈fs,H b=none) (he:∀ b∈ex,H b=none):HOk P w H h':=fun a o e =>
 (ok a o e).stay (fun b u hb q=>k.1 b u q (fun z=>by rcases hb with rfl | hb <;> rw [hf b z] at*<;> simp_all) (fun z=>by rcases hb with rfl | hb <;> rw [he b z] at*<;> simp_all)) (fun _ q=>q) fun _ _ q=>q
theorem Un.kpS {Ub:Hp} {h₀:Kl} {fs':List Kc} (u:Un fs [] Ub H h₀ h) (k:KpS fs' ex h h') (hs:∀ b o,h₀.get? b=some o->b∈fs'->b∈fs) (hfs:∀ b∈fs',H b=none) (hx:∀ b∈ex,h₀.get? b=none):Un fs [] Ub H h₀ h':=by
 have nx:∀ b o,h₀.get? b=some o->b∉ex:=fun b o q z=>by rw [hx b z] at q;cases q
 refine ⟨fun b o q n m _=>k.1 b o (u.keep b o q n m (by simp)) (fun z=>m (hs b o q z)) (nx b o q),fun b o q n m _=>?_,fun b o q n _=>u.free b o q n (by simp),fun b o q _=>?_,u.tups,u.frzs,u.tbls⟩
 ·obtain ⟨sl,e⟩:=u.slot b o q n m (by simp)
  by_cases z:b∈fs'
  ·obtain ⟨sl',e'⟩:=k.2 b _ e z (nx b o q)
   exact ⟨sl',e'⟩
  ·exact ⟨sl,k.1 b _ e z (nx b o q)⟩
 ·obtain ⟨o',e⟩:=u.there b o q (by simp)
  by_cases z:b∈fs'
  ·obtain ⟨sl',e'⟩:=k.2 b _ e z (nx b o q)
   exact ⟨_,e'⟩
  ·exact ⟨_,k.1 b _ e z (nx b o q)⟩
end
def CXn (P:Ki) (w:Kk):CXT:=fun outer H s E x s'=>∃ (e T C:Kc) (a0:Ka) (H':Hp),x=.ref e/\s'.os=s.os/\AllBare s'.gens/\Un (frs outer) [] H H' s.heap s'.heap/\HOk P w H' s'.heap /\
 Fly s'.heap e T (.ref C) a0 .none/\s.heap.get? e=none/\s.heap.get? T=none/\H' e=none/\H' T=none/\E (.ref C) none H'
section
variable {X:Cx} {C:Kc} {x:Kw} {B newId initId:String} {bmB:List Ka} {np cpos pos:KB} {e:Kv} {es:List Kv} {t:TA}
def tRaise (t:TA) (W:Hp->Prop):TS:=fun _ σ H=>t σ H fun vs H'=>vs.length<=Kg/\W H'
theorem ps_raise {W:Hp->Prop} (O:X.K.In X.base->OwnCls x C bmB newId X.mg X.base) (FB:ExcBaseFacts B newId initId bmB) (hg:Gl X x) (ha:PA X (e::es) t) (hc:X.calm=true)
  (hx:∀ (KK:List (Kc×KA)) (σ:St) (H:Hp) (s:Kb) (h':Kl) (ea:Kc) (us:List Ka),Inv X KK σ H s->W H->Heap.MadeExcOf s.heap h' ea (.ref C) us->X.xe (.ref ea) { s with heap:=h' })
  (hdb:(x == ("__debug__":Kw))=false:=by decide) (he:Ke (e::es) X.env=(false,Kz e X.env)::Ke es X.env:=by rfl) (hpl:(Kq cpos (Ke es X.env)).any (·.1)=false:=by rfl) :
  PS X (.Raise (some (.Call (.Name x np) (e::es) [] cpos)) none pos) (tRaise t W):=by
 intro KK s σ H D I h
 have O:=O I.ok.mod.kin
 obtain ⟨tl,c1,c2,c3,c4,c5,c6,c7,c8,c9,d1,d2,d3,d4,d5,d6,mN,hC,hN,hni,T⟩:=O.obj
 refine wpAny_Raise_call_subT (C:=C) (N:=c1) (nm:=c2) (q:=c3) (bs:=c4) (bm:=tl) (hdct:=c5) (sn:=c6) (sub:=c7) (ab:=c8) (col:=c9) (dd:=d1) (k0:=d2) (k1:=d3) (k2:=d4) (k3:=d5) (k5:=d6) FB (mN:=mN) (T.hasType FB.hasBase) (I.ok.hd hc) (by rw [he];show (false||(Kq cpos (Ke es X.env)).any (·.1))=false;rw [hpl];rfl) hni (Ja I hg O.bound ⟨rfl,?_⟩ hdb)
 have hw:=ha cpos KK s σ H _ I h
 rw [he] at hw ⊢
 refine Calls.evalArgs_plain (QR hw (fun us s2 h2=>?_) fun _ _ y=>y)
 obtain ⟨vs,H2,I2,r,hl,hW⟩:=h2
 exact ⟨rfl,by rw [<- r.length];exact hl,I2.bk _ _ hC,hN.keeps I2.bk,T.keeps I2.bk,fun h' ea hm=>hx KK σ H2 s2 h' ea us I2 hW hm⟩
end
theorem raise_flies {P:Ki} {w:Kk} {K:KC} {mg:Kw->Option Ka} {base:Kl} {N:List Kw} {qual:Kw} {scope:Scope} {f:Kc} {cd:Ka} {A:Kj} {outer:List Env} {s₀:Kb} {Ub:Hp} {E:XK} {C:Kc}
  {KK:List (Kc×KA)} {σ:St} {H:Hp} {s:Kb} {h':Kl} {ea:Kc} {us:List Ka} (I:Inv (Jh (CXn P w) P w K mg base N qual scope f cd A outer s₀ Ub E) KK σ H s) (hE:E (.ref C) none H) (hm:Heap.MadeExcOf s.heap h' ea (.ref C) us) :
  (Jh (CXn P w) P w K mg base N qual scope f cd A outer s₀ Ub E).xe (.ref ea) { s with heap:=h' }:=by
 have hst:=I.stack
 show Ko (Ky P w) (A.deeper (envOfC qual scope s₀.heap.objs.size f cd)) (leaving (envOfC qual scope s₀.heap.objs.size f cd) (.ref ea)) _ _ _
 have new:∀ b,s.heap.get? b=none->s₀.heap.get? b=none:=fun b q=>by
  cases z:s₀.heap.get? b with
  | none=>rfl
  | some o=>obtain ⟨o',e'⟩:=I.base.there b o z (by simp [Jh]);rw [q] at e';cases e'
 have nH:∀ b,s.heap.get? b=none->H b=none:=fun b q=>by
  cases z:H b with
  | none=>rfl
  | some o =>
   obtain ⟨u,e⟩:=(I.hok b o z).there
   rw [q] at e;cases e
 refine leaveP (base:=base) (s:={ s with heap:=h' }) (h:=s.heap) I.ok.frames rfl hst hm fun h2 T t hT fl k=>?_
 refine ⟨ea,T,C,.ref t,H,rfl,I.os,I.bare,?_,I.hok.kpS k I.stkFree (fun b z=>nomatch z),fl,new _ hm.new,new _ hT,nH _ hm.new,nH _ hT,hE⟩
 refine I.base.kpS k (fun b o q z=>?_) I.stkFree fun b z=>nomatch z
 rcases Qc.mp (show b∈(s₀.heap.objs.size::frs outer) from z) with rfl | z
 ·exact absurd (Qm q) (Q3 _)
 ·exact z
end L2
namespace L2
open PySem PySem.Spec PyProof.Rows
section
variable {X:Cx} {KK:List (Kc×KA)} {σ:St} {H:Hp} {s:Kb}
abbrev Cx.more (X:Cx) (es:List Kc):Cx:={ X with ex:=es++X.ex }
structure NewTo (X:Cx) (KK:List (Kc×KA)) (b:Kc):Prop where
 s0:X.s₀.heap.get? b=none
 lc:b≠X.env.locals
 cl:∀ x c,X.env.cells.lookup x=some c->c≠b
 pn:∀ p∈X.pn++KK,p.1≠b
theorem Inv.newTo (I:Inv X KK σ H s) {b:Kc} (hx:b∉X.ex) (h:s.heap.get? b=none):NewTo X KK b:=by
 refine ⟨?_,?_,?_,?_⟩
 ·cases z:X.s₀.heap.get? b with
  | none=>rfl
  | some o=>obtain ⟨o',e'⟩:=I.base.there b o z hx;rw [h] at e';cases e'
 ·rintro rfl
  obtain ⟨m,⟨o,es,ep,ho,_⟩,_⟩:=I.loc
  rw [h] at ho;cases ho
 ·rintro x c hc rfl
  obtain ⟨v,hv⟩:=I.cell x c hc
  obtain ⟨o,ho,_⟩:=hv
  rw [h] at ho;cases ho
 ·rintro p hp rfl
  have:=(I.pin p hp).1
  rw [h] at this;cases this
theorem Inv.more (I:Inv X KK σ H s) {es:List Kc} (h:∀ b∈es,NewTo X KK b):Inv (X.more es) KK σ H s:=by
 have nb:∀ b o,X.s₀.heap.get? b=some o->b∉es:=fun b o q z=>by rw [(h b z).s0] at q;cases q
 refine ⟨⟨I.ok.mod,I.ok.kind,I.ok.glob,I.ok.blt,I.ok.above,I.ok.inj,I.ok.has,I.ok.cab,I.ok.hd,I.ok.frames,I.ok.stk,fun b hb=>?_,I.ok.bs,I.ok.bsz,fun b o q hb=>?_,fun b hb hf=>?_,I.ok.funs,I.ok.frf,I.ok.top,I.ok.tree⟩,I.os,I.bare,I.base.mono (fun _ z=>z) (fun b z=>QF _ z),I.loc,I.cell,I.free,I.freeC,I.pin,I.hok,I.len⟩
 ·rcases QA.mp hb with z | z
  ·exact ⟨(h b z).lc,(h b z).cl⟩
  ·exact I.ok.exf b z
 ·rcases QA.mp hb with z | z
  ·exact nb b o (I.ok.bs b o q).1 z
  ·exact I.ok.noex b o q z
 ·rcases QA.mp hb with z | z
  ·obtain ⟨_,o,ho,_⟩:=I.ok.funs.mem hf
   exact nb b o ho z
  ·exact I.ok.exfs b z hf
theorem Inv.less {es:List Kc} (ok:X.Ok) (h:∀ b∈es,X.s₀.heap.get? b=none) (I:Inv (X.more es) KK σ H s):Inv X KK σ H s:=by
 have nb:∀ b o,X.s₀.heap.get? b=some o->b∉X.ex->b∉es++X.ex:=fun b o q n z=>by
  rcases QA.mp z with z | z
  ·rw [h b z] at q;cases q
  ·exact n z
 exact ⟨ok,I.os,I.bare,⟨fun b o q n m k=>I.base.keep b o q n m (nb b o q k),fun b o q n m k=>I.base.slot b o q n m (nb b o q k),fun b o q n k=>I.base.free b o q n (nb b o q k),fun b o q k=>I.base.there b o q (nb b o q k),I.base.tups,I.base.frzs,I.base.tbls⟩,I.loc,I.cell,I.free,I.freeC,I.pin,I.hok,I.len⟩
theorem un_kpS {fs ex:List Kc} {h h':Kl} (k:KpS fs ex h h'):Un fs ex H H h h' :=
 ⟨fun b o q _ m n=>k.1 b o q m n,fun b o q _ m n=>k.2 b o q m n,fun _ _ _ n _=>n,fun b o q n=>by
  by_cases z:b∈fs
  ·obtain ⟨sl,e⟩:=k.2 b o q z n;exact ⟨_,e⟩
  ·exact ⟨_,k.1 b o q z n⟩,fun _ _ q=>q,fun _ _ _ q=>q,fun _ ps q=>⟨#[],by rw [q];simp⟩⟩
theorem Inv.kpS {es:List Kc} {h':Kl} (I:Inv X KK σ H s) (h:∀ b∈es,NewTo X KK b) (hH:∀ b∈es,H b=none) (k:KpS (frs X.stack) es s.heap h'):Inv X KK σ H { s with heap:=h' }:=by
 have I2:=I.more h
 have J:=I2.call (g':=s.gens) (t':=s.toks) (d':=s.drawn) (ch:=es) (un_kpS (H:=H) k) (I.hok.kpS k I.stkFree hH) I.bare fun b hb=>⟨.inl (P1 _ hb),(h b hb).lc,(h b hb).cl,(h b hb).pn⟩
 exact J.less I.ok fun b hb=>(h b hb).s0
end
section
variable {M:Model} {A:Kj} {E:Ka->Kb->Prop} {s:Kb}
theorem comesP {base:Kl} {env:Env} {outer:List Env} {L e T:Kc} {cls a0:Ka} {Q:Unit->Kb->Prop}
  (hfr:A.frames=some (env::outer)) (hf:env.frame=some L) (hl:s.heap.FunFrames base (env::outer)) (hx:Fly s.heap e T cls a0 .none)
  (hQ:∀ h' T',s.heap.get? T'=none->Fly h' e T' cls a0 .none->KpS (frs (env::outer)) [e,T] s.heap h'->Q () { s with heap:=h' }) :
  Ko M A (noteFrame (.ref e) env) (fun _ s₂=>Ko M A (setFlight (.ref e) none) Q E s₂) E s:=by
 refine comeP hfr hf hl hx fun h1 T' hT fl k=>landP fl fun h2 fl2 k2=>hQ h2 T' hT fl2 ⟨fun b o q n m=>?_,fun b o q n m=>?_⟩
 ·exact k2.1 b o (k.1 b o q n m) (by simp) fun z=>by rw [Qo.mp z,hT] at q;cases q
 ·obtain ⟨sl,e1⟩:=k.2 b o q n m
  exact ⟨sl,k2.1 b _ e1 (by simp) fun z=>by rw [Qo.mp z,hT] at q;cases q⟩
end
end L2
namespace L2
open PySem PySem.Spec PyProof.Rows
section
variable {X:Cx} {KK:List (Kc×KA)} {σ:St} {H:Hp} {s:Kb}
theorem name_goes {M:Model} {A:Kj} {E:Ka->Kb->Prop} {j:Nat} {n:Kw} {pos:KB} {Q:Unit->Kb->Prop} (I:Inv X KK σ H s) (hN:X.N.Nodup) (hj:X.N[j]?=some n) (hk:X.env.scope.names.lookup n=some .local)
  (h:∀ s',Inv X KK (σ.set j none) H s'->Q () s'):Ko M A (do bindName X.env n .none;unbindBehindTheSuite X.env n pos) Q E s:=by
 obtain ⟨m,hn,hl⟩:=id I.loc
 have cne:=I.cne
 refine wpAny_nameGoes_keeps hk hn (by rw [I.ok.kind];rfl) fun h' v hn' hs=>h _ ⟨I.ok,I.os,I.bare,I.base.but hs I.ok.above,⟨_,hn',fun i y v' e1 e2 e3=>?_⟩,fun y c e=>?_,I.free,I.freeC,fun p hp=>?_,I.hok.but hs I.free,by simpa using I.len⟩
 ·by_cases hi:i=j
  ·subst hi
   rw [QG (by rw [I.len];exact (Qh.mp hj).1)] at e2
   cases e2
  ·rw [Px (Ne.symm hi)] at e2
   obtain ⟨u',r',q⟩:=hl i y v' e1 e2 e3
   refine ⟨u',r',?_⟩
   rcases q with ⟨k,e⟩ | ⟨k,c,e,z⟩
   ·refine .inl ⟨k,?_⟩
    have:y≠n:=fun e=>hi (W2 hN e1 (e▸hj))
    simp [this,e]
   ·exact .inr ⟨k,c,e,z.sameBut hs (cne y c e)⟩
 ·obtain ⟨w',z⟩:=I.cell y c e
  exact ⟨w',z.sameBut hs (cne y c e)⟩
 ·obtain ⟨e,n,ne,nf,d⟩:=I.pin p hp
  exact ⟨(hs.2 p.1 ne).trans e,n,ne,nf,d⟩
def wP (e C:Kc) (h:Kl):Prop:=∃ o vs,h.get? e=some o/\o.cls=.ref C/\o.data=.fields vs/\o.dict=none
theorem Inv.track (I:Inv X KK σ H s) {e:Kc} {o:HO} (hn:NewTo X KK e) (hH:H e=none) (ho:Z9 X.prog X.w (upd H e o) s.heap e o):Inv X KK σ (upd H e o) s:=by
 have ne:∀ {b u},H b=some u->b≠e:=fun {b u} q z=>by rw [z,hH] at q;cases q
 refine ⟨I.ok,I.os,I.bare,⟨I.base.keep,I.base.slot,fun b u q n m=>?_,I.base.there,fun b xs q=>?_,fun b u v q=>?_,fun b ps q=>?_⟩,I.loc,I.cell,?_,fun x c hc=>?_,fun p hp=>?_,fun b u q=>?_,I.len⟩
 ·rw [zv (fun z=>by rw [z,hn.s0] at q;cases q)];exact I.base.free b u q n m
 ·have:=I.base.tups b xs q;rw [zv (ne this)];exact this
 ·have:=I.base.frzs b u v q;rw [zv (ne this)];exact this
 ·obtain ⟨mo,this⟩:=I.base.tbls b ps q;exact ⟨mo,by rw [zv (ne this)];exact this⟩
 ·rw [zv (Ne.symm hn.lc)];exact I.free
 ·rw [zv (hn.cl x c hc)];exact I.freeC x c hc
 ·obtain ⟨e1,n1,r⟩:=I.pin p hp
  exact ⟨e1,by rw [zv (hn.pn p hp)];exact n1,r⟩
 ·by_cases z:b=e
  ·subst z
   rw [zu] at q;cases q
   exact ho
  ·rw [zv z] at q
   exact (I.hok b u q).stay (fun _ _ _ q=>q) (fun c hc=>by rw [zv (ne hc)];exact hc) fun c xs hc=>by rw [zv (ne hc)];exact hc
end
end L2
namespace L2
open PySem PySem.Spec PyProof.Rows
theorem KpS.more {ex:List Kc} {h h':Kl} (k:KpS [] ex h h') (fs:List Kc):KpS fs ex h h':=⟨fun b o q _ m=>k.1 b o q (by simp) m,fun b o q _ m=>⟨o.slots,k.1 b o q (by simp) m⟩⟩
abbrev Cx.held (X:Cx) (e:Ka):Cx:={ X with A:=X.A.mark (some e),calm:=false,xe:=fun _ _=>False }
section
variable {X:Cx} {KK:List (Kc×KA)} {σ:St} {H:Hp} {s:Kb}
theorem Inv.held (I:Inv X KK σ H s) (e:Ka):Inv (X.held e) KK σ H s :=
 ⟨⟨I.ok.mod,I.ok.kind,I.ok.glob,I.ok.blt,I.ok.above,I.ok.inj,I.ok.has,I.ok.cab,(fun z=>nomatch z),I.ok.frames,I.ok.stk,I.ok.exf,I.ok.bs,I.ok.bsz,I.ok.noex,I.ok.exfs,I.ok.funs,I.ok.frf,I.ok.top,I.ok.tree⟩,I.os,I.bare,I.base,I.loc,I.cell,I.free,I.freeC,I.pin,I.hok,I.len⟩
theorem Inv.unheld {e:Ka} (ok:X.Ok) (I:Inv (X.held e) KK σ H s):Inv X KK σ H s:=⟨ok,I.os,I.bare,I.base,I.loc,I.cell,I.free,I.freeC,I.pin,I.hok,I.len⟩
theorem Inv.noH (I:Inv X KK σ H s) {b:Kc} (q:s.heap.get? b=none):H b=none:=by
 cases z:H b with
 | none=>rfl
 | some o =>
  obtain ⟨u,e⟩:=(I.hok b o z).there
  rw [q] at e;cases e
end
def tTry (K:KC) (CB:Kc) (i j:Nat) (sp:Sp) (t:TA):TS:=fun D σ H=>t σ H fun vs H1=>sp vs H1 (fun _ H2=>D.nx σ H2) fun cls _ H2 =>
 ∃ C,cls=.ref C/\PySem.W.exmOne K (.ref C) (.ref CB)=some true/\∀ ea,H2 ea=none->D.nx ((σ.set i (some (.ref ea))).set j none) (upd H2 ea (.ext (wP ea C)))
section
variable {X:Cx} {k i j:Nat} {f CB:Kc} {fd:Kh} {ps:List Kw} {sp:Sp} {x y n xc:Kw} {p cpos epos yp tp np apos hpos pos:KB} {e:Kv} {es:List Kv} {t:TA}
theorem ps_tryAs (F:FnOk X.prog X.w X.K X.mg X.base (CXn X.prog X.w) k f fd ps sp) (hr:Room k X.A) (hg:Gl X x) (hm:X.mg x=some (.ref f)) (hk:keepIn X.K (.ref f)=true) (hb:yR X.K fd ps [])
  (ha:PA X.nox (e::es) t) (hgy:Gl X y) (hmy:X.mg y=some (.ref CB)) (hstk:X.stack=X.env::X.outer) (hfr:X.env.frame=some X.env.locals) (hex:X.ex=[])
  (hN:X.N.Nodup) (hi:X.N[i]?=some xc) (hj:X.N[j]?=some n) (hij:i≠j) (hlx:X.env.scope.names.lookup xc=some .local) (hln:X.env.scope.names.lookup n=some .local)
  (hdb:(x == ("__debug__":Kw))=false:=by decide) (hdy:(y == ("__debug__":Kw))=false:=by decide) (hdn:(n == ("__debug__":Kw))=false:=by decide) (hcn:(n == ("__classdict__":Kw))=false:=by decide)
  (he:Ke (e::es) X.env=(false,Kz e X.env)::Ke es X.env:=by rfl) (hpl:(Kq cpos (Ke es X.env)).any (·.1)=false:=by rfl)
  (hsw:Kt (.Call (.Name x p) (e::es) [] cpos) none epos.line X.env=pure false:=by rfl) (hsn:Kt (.Name n np) (some (.Name xc tp)) apos.line X.env=pure false:=by rfl) :
  PS X (.Try [.Expr (.Call (.Name x p) (e::es) [] cpos) epos] [.ExceptHandler (some (.Name y yp)) (some n) [.Assign [.Name xc tp] (.Name n np) apos] hpos] [] [] pos) (tTry X.K CB i j sp t):=by
 intro KK s σ H D I h
 let E':Ka->Kb->Prop:=fun x s₁=>∃ (ea T C:Kc) (a0:Ka) (H2:Hp),x=.ref ea/\Inv X KK σ H2 s₁/\Fly s₁.heap ea T (.ref C) a0 .none/\NewTo X KK ea/\NewTo X KK T/\H2 ea=none/\H2 T=none /\
  PySem.W.exmOne X.K (.ref C) (.ref CB)=some true/\D.nx ((σ.set i (some (.ref ea))).set j none) (upd H2 ea (.ext (wP ea C)))
 have body:Ko (Ky X.prog X.w) X.A (exec (.Expr (.Call (.Name x p) (e::es) [] cpos) epos) X.env) (fun f s₁=>f=.next/\∃ H2,Inv X KK σ H2 s₁/\D.nx σ H2) E' s:=by
  refine wpAny_Expr_any ?_ I.quiet hsw
  refine Q9 (Ja I hg hm ?_ hdb)
  refine PySem.W.callWith_K (h₀:=X.base) I.ok.mod.kin hk (QR (ha cpos KK s σ H _ (I.wish _) h) (fun us s1 ⟨vs,H1,I1,r,q⟩=>⟨I1.unwish.kIn,?_⟩) fun _ _ z=>z.elim) he hpl
  have I1:=I1.unwish
  have hl:(us++[]).length=ps.length:=by rw [QZ,<- r.length];exact F.len _ _ _ _ q
  have hbb:=hb s1 us I1.kIn hl
  rw [QZ] at hbb
  refine wpAny_call (codeAny_mono (F.run X.A X.stack s1 H1 ⟨us,[]⟩ us vs _ _ hr I1.env0 hbb r q) fun r s' hq=>?_)
  cases r with
  | error ex =>
   obtain ⟨ea,T,C,a0,H2,rfl,os,bare,un,hok,fly,n1,n2,h1,h2,C',eC,hx,hd⟩:=hq
   cases eC
   obtain ⟨hh,g,d,tk,os'⟩:=s'
   obtain rfl:os'=s1.os:=os
   exact ⟨ea,T,C,a0,H2,rfl,I1.call (h':=hh) (g':=g) (d':=d) (t':=tk) (ch:=[]) un hok bare (fun b z=>absurd z (by simp)),fly,I1.newTo (by rw [hex];simp) n1,I1.newTo (by rw [hex];simp) n2,h1,h2,hx,hd ea h1⟩
  | ok fl =>
   cases fl with
   | ret u =>
    obtain ⟨v,H2,I2,_,q2⟩:=I1.after hq
    exact ⟨rfl,H2,I2,q2⟩
   | next=>exact False.elim hq
   | brk=>exact False.elim hq
   | cont=>exact False.elim hq
 refine wpAny_Try_except (wpAny_execs_cons (QR body (fun f s₁ hq=>?_) fun ex s₁ hq=>?_))
 ·obtain ⟨rfl,H2,I2,q⟩:=hq
  exact PB (PB ⟨σ,H2,I2,q⟩)
 obtain ⟨ea,T,C,a0,H2,rfl,I1,fly,ne,nT,he2,hT2,hx,hd⟩:=hq
 have hfrs:X.A.frames=some (X.env::X.outer):=by rw [<- hstk];exact I1.ok.frames
 have hst:s₁.heap.FunFrames X.base (X.env::X.outer):=by rw [<- hstk];exact I1.stack
 refine comesP hfrs hfr hst fly fun h3 T' hT' fly3 k3=>?_
 have nT':NewTo X KK T':=I1.newTo (by rw [hex];simp) hT'
 have I3:Inv X KK σ H2 { s₁ with heap:=h3 }:=I1.kpS (es:=[ea,T]) (fun b hb=>by rcases Qc.mp hb with rfl | hb;exact ne;rw [Qo.mp hb];exact nT) (fun b hb=>by rcases Qc.mp hb with rfl | hb;exact he2;rw [Qo.mp hb];exact hT2) (by rw [hstk];exact k3)
 refine wpAny_handleBy_cons (codeAny_handlers_test ?_) (by intro q;cases q)
 refine Ja (X:=X.held (.ref ea)) (I3.held _) hgy hmy ?_ hdy
 have LT:PySem.W.Looks (Ky X.prog X.w) h3 (typeOf (.ref ea)) (.ref C):=by
  obtain ⟨oe,vs,oT,ts,q1,q2,_⟩:=fly3
  rw [<- q2]
  exact (PySem.W.Looks.ld q1).andThen .now
 refine (PySem.W.exm_one (M:=Ky X.prog X.w) I3.kIn LT hx).at ?_
 show codeAny _ _ _ _ _
 refine codeAny_handlers_suite_as (landP fly3 fun h5 fly5 k5=>?_)
 have I5:Inv X KK σ H2 { s₁ with heap:=h5 }:=I3.kpS (es:=[T']) (fun b hb=>by rw [Qo.mp hb];exact nT') (fun b hb=>by rw [Qo.mp hb];exact I1.noH hT') (k5.more _)
 have I6:Inv X KK σ (upd H2 ea (.ext (wP ea C))) { s₁ with heap:=h5 }:=by
  obtain ⟨oe,vs,oT,ts,q1,q2,q3,q4,_⟩:=fly5
  exact I5.track ne he2 ⟨⟨oe,vs,q1,q2,q4,q3⟩,⟨oe,q1⟩,fun h1 h2 ⟨o,vs,a1,a2,a3,a4⟩ kk=>⟨o,vs,kk _ a1,a2,a3,a4⟩⟩
 refine WC I6 hN hj (.inl hln) (v:=.ref ea) rfl (fun s7 I7=>?_) (.inr hln)
 have P:=Z8 (yV (X:=X.held (.ref ea)) (i:=i) (pos:=apos) (pos':=tp) hN hi (.inl hlx) (pe_var (X:=X.held (.ref ea)) (i:=j) (pos:=np) hj (.inl hln) hdn hcn) hsn (.inr hlx))
 refine QR (P KK s7 _ _ { rt:=fun _ _=>False,nx:=fun σ' H'=>σ'=(σ.set j (some (.ref ea))).set i (some (.ref ea))/\H'=upd H2 ea (.ext (wP ea C)) } (I7.held _) ⟨.ref ea,QG (by rw [I.len];exact (Qh.mp hj).1),rfl,rfl⟩) (fun f s8 hq=>?_) fun _ _ z=>z.elim
 cases f with
 | next =>
  obtain ⟨σ',H',I8,rfl,rfl⟩:=hq
  refine name_goes (I8.unheld I.ok) hN hj hln fun s9 I9=>⟨_,_,I9,?_⟩
  rw [List.set_comm _ _ (Ne.symm hij),List.set_set]
  exact hd
 | brk=>obtain ⟨_,_,_,q⟩:=hq;exact q.elim
 | cont=>obtain ⟨_,_,_,q⟩:=hq;exact q.elim
 | ret u=>obtain ⟨_,_,_,_,_,q⟩:=hq;exact q.elim
end
end L2
namespace L2
open PySem PySem.Spec PySem.W PySem.Calls PyProof.Rows Builtin Builtin.ObjectAttr Builtin.Getset_descriptor
structure XCls (K:KC) (C:Kc):Prop where
 ga:findIn K (.ref C) "__getattribute__"=some (some (.builtin "BaseException.__getattribute__"))
 cl:findIn K (.ref C) "__class__"=some (some (.builtin "object.__class__"))
 gt:findIn K (.ref C) "__getattr__"=some none
 mo:mroIn K C (.type "object")=some true
 sb:subIn K (.ref C) (.type "BaseException")=some true
 hd:hasDictIn K C=true
section
variable {prog:Ki} {w:Kk} {A:Kj} {E:Ka->Kb->Prop} {s:Kb} {K:KC} {C e:Kc}
theorem exc_get {tp:Ka} {R:Result->Kb->Prop} (X:K.In s.heap) (L0:∀ M,Looks M s.heap (typeOf (.ref e)) (.ref C)) (hm:mroIn K C (.type "object")=some true)
  (h:R (.ok (.ret (.ref C))) s):codeAny (Ky prog w) A (.call (.builtin "getset_descriptor.__get__") ⟨[.builtin "object.__class__",.ref e,tp],[]⟩) R s:=by
 obtain ⟨hp,g,dr,t,os⟩:=s
 have L0:=L0 (Ky prog w)
 have L1:=looks_mroIn (M:=Ky prog w) X hm;refine codeAny_call_builtin KF.slot_gs.plain KF.entry_gs (KF.slot_gs.check _ _ _ _ _ _ _ _ KF.type_class (KF.args_gs _ _ _) ?_)
 unfold Builtin.«getset_descriptor.__get__» descrGet;rw [dga_obj]
 refine Qa (Qf ?_);unfold descrGetter descrCheckInstance descrNameAndClass isInstance
 simp only [KF.owner_class]
 (repeat lk);refine ⟨Code.quiet_builtin _ (by decide +kernel),codeAny_builtin KF.entry_class ?_⟩
 unfold Builtin.«object.__class__» shownTypeOf;repeat lk
 exact h
theorem exc_entry {tk:Tok} {Q:Fin->Kb->Prop} (X:K.In s.heap) (L0:∀ M,Looks M s.heap (typeOf (.ref e)) (.ref C)) (T:XCls K C) (hq:Q (.done (.ret (.ref C))) s) :
  Ko (Ky prog w) A (Builtin.«object.__getattribute__» ⟨[.ref e,.str "__class__" tk],[]⟩) Q E s:=by
 obtain ⟨hp,g,dr,t,os⟩:=s
 have M0:=L0 (Ky prog w)
 have M1:=looks_findIn (M:=Ky prog w) X T.cl;have f5:=F.typeOf_object_class
 have f6:=F.slot_gs_get.lookup
 have f7:=F.slot_gs_set.lookup
 have f8:(⟨hp,g,dr,t,os⟩:Kb).TypeIs (.builtin "object.__class__") "getset_descriptor":=F.typeOf_object_class
 repeat (any_goals (first | assumption | with_reducible refine Qa (M0.at ?_) | with_reducible refine Qa (M1.at ?_) | wp_step))
 refine exc_get X L0 T.mo ?_;repeat (any_goals (first | assumption | wp_step))
theorem exc_call {tk:Tok} {R:Result->Kb->Prop} (X:K.In s.heap) (L0:∀ M,Looks M s.heap (typeOf (.ref e)) (.ref C)) (T:XCls K C) (hq:R (.ok (.ret (.ref C))) s) :
  codeAny (Ky prog w) A (.call (.builtin "BaseException.__getattribute__") ⟨[.ref e,.str "__class__" tk],[]⟩) R s:=by
 obtain ⟨hp,g,dr,t,os⟩:=s
 refine codeAny_call_builtin F.excAttr_ValueError.ga.plain F.entry_bexc_ga ?_
 have g1:builtinKind "BaseException.__getattribute__"=some .slot:=by decide +kernel
 have g2:splitId "BaseException.__getattribute__"=some ("BaseException","__getattribute__"):=by decide +kernel
 have g3:=F.args_bexc_ga (.ref e) (.str "__class__" tk)
 have LI:Looks (Ky prog w) hp (isInstance (.ref e) (.type "BaseException")) true:=(L0 _).andThen (looks_subIn X T.sb)
 simp only [checkBuiltinCall,g1,g2]
 refine Qa (LI.at ?_)
 repeat (any_goals (first | assumption | with_reducible apply exc_entry X L0 T | wp_step))
theorem exc_by {tk:Tok} {Q:Ka->Kb->Prop} (X:K.In s.heap) (L0:∀ M,Looks M s.heap (typeOf (.ref e)) (.ref C)) (T:XCls K C) (hq:Q (.ref C) s):Ko (Ky prog w) A (getAttrBy (.ref e) (.str "__class__" tk) false) Q E s:=by
 obtain ⟨hp,g,dr,t,os⟩:=s
 have M0:=L0 (Ky prog w)
 have M1:=looks_findIn (M:=Ky prog w) X T.ga
 have M2:=looks_findIn (M:=Ky prog w) X T.gt
 have f3:=F.excAttr_ValueError.ga.bind (.ref e)
 have f4:(onTheHeap (Value.ref C)&&Value.builtin "BaseException.__getattribute__" == Value.builtin "object.__getattribute__")=false:=by
  rw [show (Value.builtin "BaseException.__getattribute__" == Value.builtin "object.__getattribute__")=false by decide +kernel,Bool.and_false]
 repeat (any_goals (first | assumption | with_reducible refine Qa (M0.at ?_) | with_reducible refine Qa (M1.at ?_) | with_reducible refine Qa (M2.at ?_) | wp_step))
 refine exc_call X L0 T ?_;repeat (any_goals (first | assumption | wp_step))
theorem exc_attr {Q:Option Ka->Kb->Prop} (X:K.In s.heap) (L0:∀ M,Looks M s.heap (typeOf (.ref e)) (.ref C)) (T:XCls K C) (hq:Q (some (.ref C)) { s with toks:=s.toks+1 }):Ko (Ky prog w) A (getAttr? (.ref e) "__class__") Q E s:=by
 obtain ⟨hp,g,dr,t,os⟩:=s
 unfold getAttr? getAttrBy?
 exact Qa (wpAny_mkText (Qa (PN (exc_by (s:=⟨hp,g,dr,t+1,os⟩) X L0 T (Qf hq)))))
end
theorem exc_looks {e C:Kc} {h:Kl} (p:wP e C h) (M:Model):Looks M h (typeOf (.ref e)) (.ref C):=by
 obtain ⟨o,vs,q1,q2,_⟩:=p
 rw [<- q2]
 exact (Looks.ld q1).andThen .now
theorem kitx_exc {K:KC} {e C:Kc} (T:XCls K C):KitX K (.ref e) (.ref C) (wP e C) where
 ty:=fun M _ _ p=>exc_looks p M
 it:=fun M h X _=>by
  obtain ⟨cdD,hcD,_⟩:=any_some T.hd
  unfold clsIn at hcD
  split at hcD
  ·rename_i ho
   intro A' Q' E' s' k q
   unfold isType loadHead;exact Qa (wpAny_loadPart (k _ _ (X _ _ ho)) (Qf q))
  ·cases hcD
 ne:=fun h tp dd KQ n sl X htp=>by
  obtain ⟨cdD,hcD,_⟩:=any_some T.hd
  refine Bool.eq_false_iff.mpr fun q=>?_
  obtain rfl:C=tp:=Value.ref.inj (beq_iff_eq.mp q)
  unfold clsIn at hcD
  split at hcD
  ·rename_i ho
   have z:=(X _ _ ho).symm.trans htp;cases z
  ·cases hcD
 ca:=fun X p k=>exc_attr X (exc_looks p) T k
end L2
namespace L2
open PySem PySem.Spec PySem.W PyProof.Rows
def vC:V->Ka
 | .ref a=>.ref a
 | .ty n=>.type n
 | _=>.none
def isC:V->Bool
 | .ref _=>true
 | .ty _=>true
 | _=>false
theorem vC_rel:∀ {v:V} {u:Ka},isC v=true->Zl v u->u=vC v
 | .ref _,_,_,r=>r
 | .ty _,_,_,r=>r
theorem vC_rels:∀ {vs:List V} {us:List Ka},(∀ v∈vs,isC v=true)->zP vs us->us=vs.map vC
 | _,_,_,.nil=>rfl
 | _,_,h,.cons r rs=>by rw [Qr,vC_rel (h _ (by simp)) r,vC_rels (fun v hv=>h v (by simp [hv])) rs]
def rIsx (K:KC):List V->Hp->VK->Prop:=fun xs H Q=>∃ e C b,XCls K C/\H e=some (.ext (wP e C)) /\
 ((∃ c,xs=[.ref e,c]/\isC c=true/\kitOne K (.ref C) (vC c)=some b)\/∃ tp KQ,xs=[.ref e,.ref tp]/\SqT K H tp KQ/\(∀ c∈KQ,isC c=true)/\kitAny K (.ref C) (KQ.map vC)=some b)/\Q (.bl b) H
theorem gu {X:Cx}:Jq X (.builtin "isinstance") (rIsx X.K):=by
 intro KK s σ H xs us Q I r h
 obtain ⟨e,C,b,T,hH,hc,q⟩:=h
 have p:wP e C s.heap:=(I.hok e _ hH).1
 have fin:∀ tk,EP X KK σ Q (.bool b) { s with toks:=tk }:=fun tk=>⟨.bl b,H,I.tok tk,rfl,q⟩
 rcases hc with ⟨c,rfl,hc,hk⟩ | ⟨tp,KQ,rfl,ht,hc,hk⟩
 ·obtain ⟨u,u',rfl,ru,ru'⟩:=vals2 r
  obtain rfl:u=Value.ref e:=ru
  rw [vC_rel hc ru']
  exact kia_one (kitx_exc T) I.kIn p hk (by intro z;cases z) fin
 ·obtain ⟨u,u',rfl,ru,ru'⟩:=vals2 r
  obtain rfl:u=Value.ref e:=ru
  obtain rfl:u'=Value.ref tp:=ru'
  obtain ⟨js,rj,⟨o,q1,q2,n,q3⟩,_⟩:=I.tuple ht
  rw [vC_rels hc rj] at q3
  obtain ⟨oc,od,dt,sl⟩:=o
  dsimp only at q2 q3
  subst q2 q3
  exact kia_tup (kitx_exc T) I.kIn p q1 hk (by intro z;cases z) fin
theorem Fun.okX {P:Ki} {w:Kk} {K:KC} {mg:Kw->Option Ka} {base:Kl} {x qual:Kw} {st:Kx} {f:Kc} {fd:Kh} {N ps:List Kw} {k:Nat} {sp:Sp} (F:Fun K x qual st f fd) (S:FnScope N ps (zF st)) (len:∀ vs H Q E,sp vs H Q E->vs.length=ps.length)
  (hbody:∀ (cdv:Ka) (A:Kj) (outer:List Env) (s:Kb) (H:Hp) (vs:List V) (Q:VK) (E:XK),Room k (A.deeper (envOfC qual (zF st) s.heap.objs.size f cdv))->sp vs H Q E ->
   ∃ t,PSs (Jh (CXn P w) P w K mg base N qual (zF st) f cdv A outer s H E) (Zk st) t/\t { nx:=fun _ H'=>Q .non H',rt:=Q } (yi N vs) H):FnOk P w K mg base (CXn P w) (k+1) f fd ps sp:=by
 obtain ⟨oc,od,kV,doc,pm,an,cdv,ct,osl,rfl,lk,hcd⟩:=F.ex
 exact fn_of lk hcd S len fun A outer s H vs Q E hr hsp=>hbody cdv A outer s H vs Q E hr hsp
theorem PS.nox {X:Cx} {st:Kx} {t:TS} (h:PS X.nox st t):PS X st t:=fun KK s σ H D I hw =>
 QR (h KK s σ H D (I.wish _) hw) (fun _ _ q=>q.unwish) fun _ _ z=>False.elim z
end L2
namespace M
open PySem PySem.Spec L2
open PySem.W (Frag)
def spX (K:KC) (C:Kc) (p n:Nat) (m1 m2:Ev->Option Out) (c:Ev->Option Bool):Sp:=fun vs H _ E=>∃ (B:Kc->Prop) (ds:List D) (ρ1 ρ2:Ev),(∀ a,B a->∃ o,H a=some o)/\zm K H B ds vs/\ds.length=p/\m1 (zM n ds)=some (.nx ρ1)/\m2 ρ1=some (.nx ρ2)/\c ρ2=some true/\∀ H',zQ H H'->E (.ref C) none H'
theorem fn_raises {P:Ki} {w:Kk} {K:KC} {mg:Kw->Option Ka} {base:Kl} {x qual:Kw} {st:Kx} {f C:Kc} {fd:Kh} {N ps:List Kw} {k:Nat} {m1 m2:Ev->Option Out} {c:Ev->Option Bool} (F:Fun K x qual st f fd) (S:FnScope N ps (zF st)) (msg:Kw)
  (hbody:∀ (cdv:Ka) (A:Kj) (outer:List Env) (s:Kb) (H:Hp) (E:XK),Room k (A.deeper (PyProof.Rows.envOfC qual (zF st) s.heap.objs.size f cdv)) ->
   ∃ t1 t2 tc t4,PSs (Jh (CXn P w) P w K mg base N qual (zF st) f cdv A outer s H E) (Zk st) (yF t1 (yF t2 (yF (Wx tc (tRaise (zW (tC (.str msg)) ZS) fun H'=>E (.ref C) none H') Jj) t4))) /\
    SOk K false [] [] [] t1 m1/\SOk K false [] [] [] t2 m2/\TOk K [] tc c):FnOk P w K mg base (CXn P w) (k+1) f fd ps (spX K C ps.length N.length m1 m2 c):=by
 refine F.okX S (fun vs H Q E h=>?_) (fun cdv A outer s H vs Q E hr h=>?_)
 ·obtain ⟨B,ds,ρ1,ρ2,hB,r,hl,_⟩:=h
  rw [r.length];exact hl
 ·obtain ⟨B,ds,ρ1,ρ2,hB,r,hl,q1,q2,q3,kk⟩:=h
  obtain ⟨t1,t2,tc,t4,hp,h1,h2,h3⟩:=hbody cdv A outer s H E hr
  refine ⟨_,hp,?_⟩
  refine h1 H B (L2.yi N vs) H (zM N.length ds) (.nx ρ1) _ (jQ hB r) q1 fun σ1 H1 e1=>?_
  refine h2 H B σ1 H1 ρ1 (.nx ρ2) _ e1 q2 fun σ2 H2 e2=>?_
  refine h3 H B σ2 H2 ρ2 true _ e2 q3 fun H3 s3=>?_
  exact ⟨by show 1<=Kg;decide,kk H3 (zQ.trans e2.grow s3)⟩
end M
namespace L2
open PySem PySem.Spec PySem.W PyProof.Rows
theorem own_in {K:KC} {h:Kl} {mg:Kw->Option Ka} {x:Kw} {C:Kc} {bmB:List Ka} {newId:String} (X:K.In h) (hm:mg x=some (.ref C)) (q:excIn K C bmB newId=true):OwnCls x C bmB newId mg h:=by
 refine ⟨hm,?_⟩
 unfold excIn at q
 split at q
 case h_2=>cases q
 rename_i d1 cd sl ho
 split at q
 case h_2=>cases q
 rename_i C' bm a0 a1 a2 a3 nn a5 m1 m2
 simp only [QK,beq_iff_eq,PM] at q
 obtain ⟨⟨⟨⟨⟨rfl,rfl⟩,z1⟩,z2⟩,z3⟩,z4⟩:=q
 obtain ⟨b1,b2,b3,b4,b5,b6,b7,b8,b9,c1,c2⟩:=cd
 dsimp only at m1 z1 z3 z4
 subst m1 z1
 obtain ⟨l⟩:=sl
 simp only at m2
 subst m2
 exact ⟨bm,b4,b1,b5,b2,b6,b7,b8,b9,c1,d1,a0,a1,a2,a3,a5,h.nsMap b4,X _ _ ho,.of_isNs (isNs_of_in X z3),nsMap_none_of_in X z3 z4,tail_of_in X z2⟩
end L2
namespace M
open PySem L2
def mRf (ml mp:List D->Option D):List D->Option D
 | [p,mv]=>(ml [p]).bind fun r=>(asK false r).bind fun rs=>(rs[1]?).bind fun st=>(mp [st,mv]).bind fun d=>if yN d then some (.bl true) else none
 | _=>none
open PySem.W (Frag) in
theorem raises_mk {X:Cx} {K:KC} {s1 s2 r:Kx} {zX:List Kx} {c:Kv} {pos:KB} {t1 t2 t4:TS} {tc:TT} {ta:TA} {W:Hp->Prop} {m1 m2 m4:Ev->Option Out} {g:Ev->Option Bool} {os4:List Nat} (h1:SS X.nox false [] [] [] s1 t1 m1) (h2:SS X.nox false [] [] [] s2 t2 m2) (h3:SB X.nox [] c tc g) (hr:PS X r (tRaise ta W)) (h4:SSs X.nox true [] os4 [] zX t4 m4) (hK:X.K=K:=by rfl) :
  ∃ t1 t2 tc t4,PSs X (s1::s2::.If c [r] [] pos::zX) (yF t1 (yF t2 (yF (Wx tc (tRaise ta W) Jj) t4)))/\SOk K false [] [] [] t1 m1/\SOk K false [] [] [] t2 m2/\TOk K [] tc g:=by
 subst hK
 exact ⟨t1,t2,tc,t4,Zf (PS.nox h1.ps) (Zf (PS.nox h2.ps) (Zf (wA (PT.nox h3.pt) (Z8 hr) jh) (PSs.nox h4.ps))),h1.ok,h2.ok,h3.ok⟩
open PySem.W (Frag) in
structure RfA (K:KC) (mg:Kw->Option Ka) (C1 CB a1 a2 a3 a4 a5 a6 a7 a8:Kc):Prop where
 nr:mg "NoRun"=some (.ref C1)
 ne:mg "NoteError"=some (.ref CB)
 xc:XCls K C1
 ex:PySem.W.excIn K C1 [.type "ValueError",.type "Exception",.type "BaseException",.type "object"] "ValueError.__new__"=true
 em:PySem.W.exmOne K (.ref C1) (.ref CB)=some true
 k1:PySem.W.kitOne K (.ref C1) (.ref C1)=some true
 k2:PySem.W.kitOne K (.ref C1) (.type "ValueError")=some true
 n1:mg "Needed"=some (.ref a1)
 n2:mg "NoBox"=some (.ref a2)
 n3:mg "NoName"=some (.ref a3)
 n4:mg "NoRow"=some (.ref a4)
 n5:mg "NoText"=some (.ref a5)
 n6:mg "NotAlike"=some (.ref a6)
 n7:mg "NoNumber"=some (.ref a7)
 n8:mg "TooGreat"=some (.ref a8)
 k8:PySem.W.kitAny K (.ref C1) [.ref a1,.ref a2,.ref a3,.ref a4,.ref a5,.ref a6,.ref a7,.ref a8]=some false
 vz:mg "ValueError"=none
open PySem.W (Frag) in
def RfT (K:KC) (mg:Kw->Option Ka):Prop:=∃ C1 CB a1 a2 a3 a4 a5 a6 a7 a8,RfA K mg C1 CB a1 a2 a3 a4 a5 a6 a7 a8
open PySem.W (Frag) in
theorem rf_mk {K:KC} {mg:Kw->Option Ka} {C1 CB a1 a2 a3 a4 a5 a6 a7 a8:Kc} (h:RfA K mg C1 CB a1 a2 a3 a4 a5 a6 a7 a8):RfT K mg:=⟨C1,CB,a1,a2,a3,a4,a5,a6,a7,a8,h⟩
end M
namespace EV
open PySem L2 M
open PySem.W (Frag)
def bq0:Ev->Option Out :=
  (ZQ (fA JW (zh true (Z4 2 (fZip (zh false (zb 0)) (zh false (zb 1))) (uTup (jx (zR 2) (jx (zR 3) uNil))) YF (f2 Yn (zb 2) (zb 3))))))
def mq0:List D->Option D:=Z1 2 2 bq0
def bq1:Ev->Option Out :=
  (ZQ (Z4 1 (zh false (zb 0)) (zR 1) (zI (f1 (gg "list") (zb 1))) (zb 1)))
def mq1:List D->Option D:=Z1 1 1 bq1
def bq2 (r_new_places r_new_places_of_row:List D->Option D):Ev->Option Out :=
  (ZQ (fA JW (zh true (Z4 1 (zh true (zb 0)) (zR 2) YF (fA r_new_places_of_row (zf (zb 2) (zf (zb 1) zr)))))))
def bq3 (r_new_places r_new_places_of_row:List D->Option D):Ev->Option Out :=
  (zO (mIf (zI (f2 ZE (fIx (zh false (zb 0)) (fC (.int 0))) (fC (.str "call"))))
  (ZQ (f2 gi (zb 1) (fIx (zh false (zb 0)) (fC (.int 1)))))
  Z2)
  (ZQ (f2 ZT (fC (.int 1)) (fA JW (zh true (Z4 1 (zh true (fA mq1 (zf (zb 0) zr))) (zR 2) YF (fA r_new_places (zf (zb 2) (zf (zb 1) zr)))))))))
def Rq2:Nat->(List D->Option D)×(List D->Option D)
 | 0=>((fun _=>none),(fun _=>none))
 | n+1=>(Z1 2 2 (bq2 ((Rq2 n).1) ((Rq2 n).2)),Z1 2 2 (bq3 ((Rq2 n).1) ((Rq2 n).2)))
def mq2:List D->Option D:=(Rq2 60).1
def bq5:Ev->Option Out :=
  (zO (wd 1 (fC (.dict [] [])))
  (zO (wT (gh (f2 JE (fA yX (zh true (zb 0))) (fC (.int 1))) (f1 ww (fC (.int 1)))) (zR 2)
  (mDPut 1 (zb 2) (yP (fA mq2 (zf (fIx (zh true (zb 0)) (zb 2)) (zf (zb 1) zr))))))
  (ZQ (zb 1))))
def mq5:List D->Option D:=Z1 1 3 bq5
def bq31:WM :=
  (yo wInc
  (Jr (w2 JE (wFld 0) (wL (fC (.int 1))))))
def mq31:List D->List D->Option (D×List D):=YD 1 1 bq31
def bq32:WM :=
  (wStep (ZC (zf (zb 1) (zf (zb 2) (zf (zb 3) zr)))))
def mq32:List D->List D->Option (D×List D):=YD 4 4 bq32
def bq6 (r_lay_rows r_lay_row r_lay_either r_lay_loop r_lay_call:List D->List D->Option (D×List D)):WM :=
  (yo (Y0 3 (wL (zb 2)))
  (yo (wFor (zh true (zb 1)) (zR 4)
  (Y0 3 (yC 0 r_lay_row (zK (wL (zb 0)) (zK (wL (zb 4)) (zK (wL (zb 3)) (wL zr)))))))
  (Jr (wL (zb 3)))))
def bq7 (r_lay_rows r_lay_row r_lay_either r_lay_loop r_lay_call:List D->List D->Option (D×List D)):WM :=
  (yo (Y0 3 (wL (fIx (zh false (zb 1)) (fC (.int 0)))))
  (yo (wIf (wL (zI (f2 ZE (zb 3) (fC (.str "either")))))
  (Jr (yC 0 r_lay_either (zK (wL (zb 0)) (zK (wL (zb 1)) (zK (wL (zb 2)) (wL zr))))))
  wy)
  (yo (wIf (wL (zI (f2 ZE (zb 3) (fC (.str "loop")))))
  (Jr (yC 0 r_lay_loop (zK (wL (zb 0)) (zK (wL (zb 1)) (zK (wL (zb 2)) (wL zr))))))
  wy)
  (yo (wIf (wL (zI (f2 ZE (zb 3) (fC (.str "call")))))
  (Jr (yC 0 r_lay_call (zK (wL (zb 0)) (zK (wL (zb 1)) (zK (wL (zb 2)) (wL zr))))))
  wy)
  (yo (Y0 4 (Yq 0 mq31 (wL zr)))
  (yo (wIf (wL (zI (f2 Y9 (zb 3) (fC (.str "halt")))))
  (jG (Yq 0 mq32 (zK (wL (zb 2)) (zK (wL (zb 4)) (zK (wL (zb 1)) (wL zr))))))
  wy)
  (Jr (wL (zb 4)))))))))
def bq8 (r_lay_rows r_lay_row r_lay_either r_lay_loop r_lay_call:List D->List D->Option (D×List D)):WM :=
  (yo (Y0 3 (yC 0 r_lay_rows (zK (wL (zb 0)) (zK (wL (fIx (zh false (zb 1)) (fC (.int 1)))) (zK (wL (zb 2)) (wL zr))))))
  (yo (Y0 4 (yC 0 r_lay_rows (zK (wL (zb 0)) (zK (wL (fIx (zh false (zb 1)) (fC (.int 2)))) (zK (wL (zb 2)) (wL zr))))))
  (yo (Y0 5 (Yq 0 mq31 (wL zr)))
  (yo (jG (Yq 0 mq32 (zK (wL (zb 3)) (zK (wL (zb 5)) (zK (wL (fC (.tup [.str "skip"]))) (wL zr))))))
  (yo (jG (Yq 0 mq32 (zK (wL (zb 4)) (zK (wL (zb 5)) (zK (wL (fC (.tup [.str "skip"]))) (wL zr))))))
  (Jr (wL (zb 5))))))))
def bq9 (r_lay_rows r_lay_row r_lay_either r_lay_loop r_lay_call:List D->List D->Option (D×List D)):WM :=
  (yo (Y0 3 (Yq 0 mq31 (wL zr)))
  (yo (jG (Yq 0 mq32 (zK (wL (zb 2)) (zK (wL (zb 3)) (zK (wL (fC (.tup [.str "skip"]))) (wL zr))))))
  (yo (jG (Yq 0 mq32 (zK (yC 0 r_lay_rows (zK (wL (zb 0)) (zK (wL (fIx (zh false (zb 1)) (fC (.int 1)))) (zK (wL (zb 3)) (wL zr))))) (zK (wL (zb 3)) (zK (wL (fC (.tup [.str "skip"]))) (wL zr))))))
  (Jr (wL (zb 3))))))
def bq10 (r_lay_rows r_lay_row r_lay_either r_lay_loop r_lay_call:List D->List D->Option (D×List D)):WM :=
  (yo (wIf (wTest (w2 ZE (wDGet (wFld 2) (fIx (zh false (zb 1)) (fC (.int 1)))) (wL (fC (.int 0)))))
  (Jr (wL (zb 2)))
  wy)
  (Jr (yC 0 r_lay_rows (zK (wL (zb 0)) (zK (wIxL (wFld 1) (fIx (zh false (zb 1)) (fC (.int 1)))) (zK (wL (zb 2)) (wL zr)))))))
def Rq6:Nat->(List D->List D->Option (D×List D))×(List D->List D->Option (D×List D))×(List D->List D->Option (D×List D))×(List D->List D->Option (D×List D))×(List D->List D->Option (D×List D))
 | 0=>((fun _ _=>none),(fun _ _=>none),(fun _ _=>none),(fun _ _=>none),(fun _ _=>none))
 | n+1=>(YD 3 5 (bq6 ((Rq6 n).1) ((Rq6 n).2.1) ((Rq6 n).2.2.1) ((Rq6 n).2.2.2.1) ((Rq6 n).2.2.2.2)),YD 3 5 (bq7 ((Rq6 n).1) ((Rq6 n).2.1) ((Rq6 n).2.2.1) ((Rq6 n).2.2.2.1) ((Rq6 n).2.2.2.2)),YD 3 6 (bq8 ((Rq6 n).1) ((Rq6 n).2.1) ((Rq6 n).2.2.1) ((Rq6 n).2.2.2.1) ((Rq6 n).2.2.2.2)),YD 3 4 (bq9 ((Rq6 n).1) ((Rq6 n).2.1) ((Rq6 n).2.2.1) ((Rq6 n).2.2.2.1) ((Rq6 n).2.2.2.2)),YD 3 3 (bq10 ((Rq6 n).1) ((Rq6 n).2.1) ((Rq6 n).2.2.1) ((Rq6 n).2.2.2.1) ((Rq6 n).2.2.2.2)))
def mq6:List D->List D->Option (D×List D):=(Rq6 60).1
def bq4:Ev->Option Out :=
  (mLaid mq5 (fIx (zh false (zb 0)) (fC (.int 1))) (Y0 2 (yC 0 mq6 (zK (wL (zb 1)) (zK (wL (fIx (zh true (fIx (zh false (zb 0)) (fC (.int 1)))) (fC (.int 0)))) (zK (wL (fC (.int 0))) (wL zr)))))))
def mq4:List D->Option D:=Z1 1 3 bq4
def bq14:Ev->Option Out :=
  (ZQ (f2 ZE (fIx (zh false (zb 0)) (fC (.int 0))) (fC (.str "take"))))
def mq14:List D->Option D:=Z1 1 1 bq14
def bq17:Ev->Option Out :=
  (zO (mIf (fNot (zI (jY dLe dLt (fC (.int 0)) (fIx (zh false (zb 1)) (fC (.int 0))) (fA yX (zh true (zb 0))))))
  (ZQ (fC (.bl false)))
  Z2)
  (zO (Zi 3 (fIx (zh true (zb 0)) (fIx (zh false (zb 1)) (fC (.int 0)))))
  (ZQ (fAndV (f2 ZE (fIx (zh false (zb 3)) (fC (.int 0))) (zb 2)) (f2 ZE (fA mq14 (zf (fIx (zh false (zb 3)) (fC (.int 2))) zr)) (f2 dNotN (fIx (zh false (zb 1)) (fC (.int 1))) (fC .non)))))))
def mq17:List D->Option D:=Z1 3 4 bq17
def bq16:Ev->Option Out :=
  (zO (wd 2 (ZJ (zf (fC (.int 0)) zr)))
  (zO (wT (zh true (zb 1)) (zR 3)
  (zO (mIf (fNot (zI (fA mq17 (zf (zb 0) (zf (zb 3) (zf (fIx (zh true (zb 2)) (f1 ww (fC (.int 1)))) zr))))))
  (ZQ (fC .non))
  Z2)
  (W6 2 yx (fIx (zh false (fIx (zh true (zb 0)) (fIx (zh false (zb 3)) (fC (.int 0))))) (fC (.int 1))))))
  (ZQ (zb 2))))
def mq16:List D->Option D:=Z1 2 4 bq16
def bq11:Ev->Option Out :=
  (ZQ (f2 dNotN (fA mq16 (zf (fIx (zh false (fA mq4 (zf (zb 0) zr))) (fC (.int 1))) (zf (zb 1) zr))) (fC .non)))
def mq11:List D->Option D:=Z1 2 2 bq11
def bq13:Ev->Option Out :=
  (ZQ (Jp (ZC (zf (fC (.int 1)) zr)) (f2 wK (ZC (zf (fC (.int 0)) zr)) (fIx (zh false (zb 0)) (fC (.int 0))))))
def mq13:List D->Option D:=Z1 1 1 bq13
def bq15:Ev->Option Out :=
  (zO (mIf (zI (f2 ZE (fIx (zh false (zb 0)) (fC (.int 0))) (fC (.str "skip"))))
  (ZQ (zb 2))
  Z2)
  (zO (Zi 3 (f2 ZT (fIx (zh false (zb 0)) (fC (.int 1))) (fC (.int 1))))
  (zO (Zi 4 (fIf (zI (fA mq14 (zf (zb 0) zr))) (zb 1) (fA mq0 (zf (fIx (zh false (zb 0)) (fC (.int 2))) (zf (zb 2) zr)))))
  (ZQ (Jp (Jp (JX (zh false (zb 2)) fNo (yE (zb 3))) (ZC (zf (zb 4) zr))) (JX (zh false (zb 2)) (yE (f2 ZT (zb 3) (fC (.int 1)))) fNo))))))
def mq15:List D->Option D:=Z1 3 5 bq15
def bq12:Ev->Option Out :=
  (zO (Zi 2 (fIx (zh false (fA mq4 (zf (zb 0) zr))) (fC (.int 1))))
  (zO (Zi 3 (fA mq16 (zf (zb 2) (zf (zb 1) zr))))
  (zO (mIf (zI (f2 dIsN (zb 3) (fC .non)))
  mNever
  Z2)
  (zO (wd 4 (ZJ (zf (fA mq13 (zf (zb 0) zr)) zr)))
  (zO (wT (zh true (zb 1)) (zR 5)
  (W6 4 yx (fA mq15 (zf (fIx (zh false (fIx (zh true (zb 2)) (fIx (zh false (zb 5)) (fC (.int 0))))) (fC (.int 2))) (zf (fIx (zh false (zb 5)) (fC (.int 1))) (zf (fIx (zh true (zb 4)) (f1 ww (fC (.int 1)))) zr))))))
  (ZQ (gf (zh true (zb 3)) (zh true (zb 4)))))))))
def mq12:List D->Option D:=Z1 2 6 bq12
def bq18:Ev->Option Out :=
  (zO (mIf (zI (f2 dLt (zb 1) (fA yX (zh true (zb 0)))))
  (ZQ (fIx (zh true (zb 0)) (zb 1)))
  Z2)
  (zO (Zi 2 (f2 ZT (f2 Yn (zb 1) (fC (.int 7919))) (fC (.int 5))))
  (zO (mIf (zI (f2 dGt (fA yX (zh true (zb 0))) (fC (.int 0))))
  (Zi 2 (f2 yf (f2 ZT (f2 Yn (fIx (zh true (zb 0)) (f2 yf (f2 Yn (zb 1) (fC (.int 7))) (fA yX (zh true (zb 0))))) (fC (.int 48271))) (f2 Yn (zb 1) (fC (.int 7919)))) (fC (.int 2147483647))))
  Z2)
  (zO (Zi 2 (f2 yf (f2 Yn (zb 2) (zb 2)) (fC (.int 2147483629))))
  (ZQ (f2 yf (f2 Yn (f2 ZT (zb 2) (fC (.int 11))) (f2 ZT (zb 2) (fC (.int 3)))) (fC (.int 2147483587))))))))
def Jx:List D->Option D:=Z1 2 3 bq18
def bq19:Ev->Option Out :=
  (zO (wd 2 (ZJ zr))
  (zO (wT (yO (f2 ZT (zb 1) (fC (.int 1)))) (zR 3)
  (zO (Zi 4 (f2 yf (f2 ZT (f2 Yn (f2 dDivP (zb 0) (f2 ZT (f2 Yn (zb 3) (zb 3)) (fC (.int 3)))) (fC (.int 48271))) (f2 Yn (zb 3) (fC (.int 69621)))) (fC (.int 2147483647))))
  (zO (Zi 5 (fIx (zh true (ZJ (zf (fC (.int 0)) (zf (fC (.int 1)) (zf (fC (.int 0)) (zf (f1 ww (fC (.int 1))) (zf (fC (.int 1)) (zf (fC (.int 2)) (zf (fC (.int 0)) (zf (fC (.int 3)) (zf (f1 ww (fC (.int 2))) zr))))))))))) (f2 yf (zb 4) (fC (.int 9)))))
  (zO (mIf (zI (f2 ZE (f2 yf (f2 Yi (zb 4) (fC (.int 9))) (fC (.int 60))) (fC (.int 7))))
  (zO (Zi 5 (f2 JE (f2 yf (f2 Yi (zb 4) (fC (.int 540))) (fC (.int 1999999))) (fC (.int 999999))))
  (mIf (zI (f2 dGt (zb 3) (fC (.int 0))))
  (Zi 5 (f2 JE (f2 yf (zb 5) (fC (.int 19))) (fC (.int 9))))
  Z2))
  Z2)
  (W6 2 yx (zb 5))))))
  (ZQ (fA jV (zh true (zb 2))))))
def mq19:List D->Option D:=Z1 2 6 bq19
def bq20:Ev->Option Out :=
  (zO (Zi 3 (f2 yf (f2 Yi (zb 0) (fC (.int 8))) (fC (.int 13))))
  (zO (mIf (wv (zI (f2 dGt (zb 3) (fC (.int 10)))) (zI (f2 dNeD (zb 2) (ZJ zr))))
  (ZQ (yP (fIx (zh true (Z4 1 (zh true (zb 2)) (zR 5) YF (ZC (zf (fC (.str "call")) (zf (fIx (zh false (zb 5)) (fC (.int 0))) zr))))) (f2 yf (f2 Yi (zb 0) (fC (.int 104))) (fA yX (zh true (zb 2)))))))
  Z2)
  (zO (mIf (zI (f2 ZE (zb 3) (fC (.int 8))))
  (ZQ (ZC (zf (fC (.str "either")) (zf (ZJ zr) (zf (ZJ zr) zr)))))
  Z2)
  (zO (mIf (zI (f2 ZE (zb 3) (fC (.int 9))))
  (ZQ (ZC (zf (fC (.str "loop")) (zf (ZJ zr) zr))))
  Z2)
  (zO (mIf (wv (zI (f2 ZE (zb 3) (fC (.int 10)))) (zI (f2 ZE (f2 yf (f2 Yi (zb 0) (fC (.int 104))) (fC (.int 3))) (fC (.int 0)))))
  (ZQ (yP (ZC (zf (fC (.str "halt")) zr))))
  Z2)
  (zO (mIf (fOr (zI (f2 ZE (zb 3) (fC (.int 7)))) (zI (f2 ZE (zb 1) (fC (.int 0)))))
  (ZQ (yP (ZC (zf (fC (.str "skip")) zr))))
  Z2)
  (zO (Zi 4 (f2 yf (f2 Yi (zb 0) (fC (.int 104))) (zb 1)))
  (zO (mIf (wv (zI (f2 dGt (zb 3) (fC (.int 4)))) (zI (f2 dLt (zb 3) (fC (.int 7)))))
  (ZQ (yP (ZC (zf (fC (.str "take")) (zf (zb 4) zr)))))
  Z2)
  (ZQ (yP (ZC (zf (fC (.str "set")) (zf (zb 4) (zf (fA mq19 (zf (f2 Yi (zb 0) (fC (.int 13))) (zf (zb 1) zr))) zr))))))))))))))
def mq20:List D->Option D:=Z1 3 5 bq20
def bq21:Ev->Option Out :=
  (mB15 (fA mq20 (zf (zb 8) (zf (zb 1) (zf (zb 2) zr)))) (fA JW (zh true (Z4 1 (zh true (zb 2)) (zR 11) (wv (zI (f2 ZE (fIx (zh false (zb 9)) (fC (.int 0))) (fC (.str "call")))) (zI (f2 wY (fIx (zh false (zb 11)) (fC (.int 0))) (fIx (zh false (zb 9)) (fC (.int 1)))))) (fIx (zh false (zb 11)) (fC (.int 1)))))) (f2 ZT (zb 10) (fA wn (zf (yP (f2 Y9 (fIx (zh false (zb 9)) (fC (.int 0))) (fC (.str "call")))) zr))))
def mq21:List D->Option D:=Z1 5 11 bq21
def bq22:Ev->Option Out :=
  (zO (Zi 4 (ZJ zr))
  (zO (Zi 5 (ZJ zr))
  (zO (Zi 6 (f2 ZT (fC (.int 1)) (f2 yf (fA Jx (zf (zb 0) (zf (zb 1) zr))) (fC (.int 4)))))
  (zO (wT (gh (f2 JE (zb 6) (fC (.int 1))) (f1 ww (fC (.int 1)))) (zR 7)
  (zO (Zi 8 (fC (.int 4)))
  (zO (Zi 9 (fC (.int 2)))
  (zO (mIf (zI (f2 ZE (zb 7) (fC (.int 0))))
  (zO (Zi 8 (f2 ZT (fC (.int 6)) (f2 yf (f2 Yi (fA Jx (zf (zb 0) (zf (zb 1) zr))) (fC (.int 3))) (fC (.int 9)))))
  (Zi 9 (fC (.int 3))))
  Z2)
  (zO (Zi 10 (f2 ZT (f2 ZT (f2 ZT (zb 1) (fC (.int 1))) (f2 Yn (fC (.int 11)) (fA wn (zf (yP (f2 dGt (zb 7) (fC (.int 0)))) zr)))) (f2 Yn (fC (.int 4)) (zb 7))))
  (zO (Zi 11 (Z4 1 (yO (zb 8)) (zR 14) YF (fA Jx (zf (zb 0) (zf (f2 ZT (zb 10) (zb 14)) zr)))))
  (zO (mAsg (uTup (jx (zR 12) (jx (zR 13) uNil))) (fA mq21 (zf (zb 11) (zf (zb 2) (zf (zb 5) (zf (zb 9) (zf (zb 3) zr)))))))
  (zO (mIf (wv (zI (f2 ZE (zb 6) (fC (.int 1)))) (zI (f2 ZE (f2 yf (f2 Yi (fA Jx (zf (zb 0) (zf (zb 1) zr))) (fC (.int 108))) (fC (.int 2))) (fC (.int 1)))))
  (Zi 12 (ZJ (zf (ZC (zf (fC (.str "either")) (zf (ZJ zr) (zf (ZJ (zf (ZC (zf (fC (.str "loop")) (zf (ZJ (zf (ZC (zf (fC (.str "either")) (zf (zb 12) (zf (ZJ zr) zr)))) zr)) zr))) zr)) zr)))) zr)))
  Z2)
  (zO (Zi 4 (wX (fL (ZJ (zf (zb 12) zr))) (fL (zb 4))))
  (Zi 5 (wX (fL (ZJ (zf (ZC (zf (zb 7) (zf (zb 13) zr))) zr))) (fL (zb 5)))))))))))))
  (ZQ (ZC (zf (zb 2) (zf (zb 4) zr))))))))
def mq22:List D->Option D:=Z1 4 14 bq22
def bq23 (r'lay:List D->List D->Option (D×List D)):WM :=
  (yo (wFor (zh true (zb 0)) (zR 4)
  (wIf (wL (zI (f2 ZE (fIx (zh false (zb 4)) (fC (.int 0))) (fC (.str "call")))))
  (Y0 1 (yC 3 r'lay (zK (wL (fIx (zh true (zb 2)) (fIx (zh false (zb 4)) (fC (.int 1))))) (zK (wL (zb 1)) (zK (wL (zb 2)) (zK (wL (zb 3)) (wL zr)))))))
  (wIf (wL (zI (f2 ZE (fIx (zh false (zb 4)) (fC (.int 0))) (fC (.str "either")))))
  (yo (Y0 5 (wComp 1 (zh false (JX (zh false (zb 4)) (yE (fC (.int 1))) fNo)) (zR 7) (yC 3 r'lay (zK (wL (zb 7)) (zK (wL (zb 1)) (zK (wL (zb 2)) (zK (wL (zb 3)) (wL zr))))))))
  (yo (Y0 1 (wIx (fC (.int 0))))
  (yo (J4 (w2 ZT (wIx (fC (.int 0))) (wL (fC (.int 1)))) (fC (.int 0)))
  (wExt (Z4 1 (zh true (zb 5)) (zR 7) YF (ZC (zf (zb 7) (zf (zb 1) (zf (ZC (zf (fC (.str "skip")) zr)) zr)))))))))
  (yo (Y0 6 (wL (zb 1)))
  (yo (Y0 1 (wIx (fC (.int 0))))
  (yo (J4 (w2 ZT (wIx (fC (.int 0))) (wL (fC (.int 1)))) (fC (.int 0)))
  (wIf (wL (zI (f2 ZE (fIx (zh false (zb 4)) (fC (.int 0))) (fC (.str "loop")))))
  (yo (wApp (wL (ZC (zf (zb 6) (zf (zb 1) (zf (ZC (zf (fC (.str "skip")) zr)) zr))))))
  (wApp (wTup (zK (yC 3 r'lay (zK (wL (fIx (zh false (zb 4)) (fC (.int 1)))) (zK (wL (zb 1)) (zK (wL (zb 2)) (zK (wL (zb 3)) (wL zr)))))) (zK (wL (zb 1)) (zK (wL (ZC (zf (fC (.str "skip")) zr))) (wL zr)))))))
  (wIf (wL (zI (f2 Y9 (fIx (zh false (zb 4)) (fC (.int 0))) (fC (.str "halt")))))
  (wApp (wL (ZC (zf (zb 6) (zf (zb 1) (zf (zb 4) zr))))))
  wy))))))))
  (Jr (wL (zb 1))))
def Rq23:Nat->(List D->List D->Option (D×List D))
 | 0=>(fun _ _=>none)
 | n+1=>YD 4 7 (bq23 ((Rq23 n)))
def mq23:List D->List D->Option (D×List D):=(Rq23 60)
def bq24:Ev->Option Out :=
  (zO (mIf (zI (f2 ZE (fIx (zh false (zb 1)) (fC (.int 0))) (fC (.str "skip"))))
  (ZQ (zb 0))
  Z2)
  (zO (mIf (zI (f2 ZE (fIx (zh false (zb 1)) (fC (.int 0))) (fC (.str "set"))))
  (Zi 2 (fA JW (zh true (Z4 1 (yO (fA yX (zh false (zb 0)))) (zR 3) YF (f2 Yn (fIx (zh false (fIx (zh false (zb 1)) (fC (.int 2)))) (zb 3)) (fIx (zh false (zb 0)) (zb 3)))))))
  Z2)
  (ZQ (fA jV (zh true (Z4 1 (yO (fA yX (zh false (zb 0)))) (zR 3) YF (fIf (zI (f2 Y9 (zb 3) (f2 ZT (fIx (zh false (zb 1)) (fC (.int 1))) (fC (.int 1))))) (fIx (zh false (zb 0)) (zb 3)) (zb 2))))))))
def mq24:List D->Option D:=Z1 3 3 bq24
def bq25:Ev->Option Out :=
  (zO (wd 4 (ZJ zr))
  (zO (Zi 5 (fC (.int 0)))
  (zO (wT (yO (zb 3)) (zR 6)
  (zO (Zi 7 (f2 dDivP (fA Jx (zf (zb 0) (zf (f2 ZT (zb 1) (f2 yf (zb 6) (fC (.int 23)))) zr))) (f2 ZT (fC (.int 1)) (f2 Yi (zb 6) (fC (.int 23))))))
  (zO (Zi 8 (Z4 1 (yO (fA yX (zh true (zb 2)))) (zR 11) (zI (f2 ZE (fIx (zh false (fIx (zh true (zb 2)) (zb 11))) (fC (.int 0))) (zb 5))) (zb 11)))
  (mIf (zI (f2 dNeD (zb 8) (ZJ zr)))
  (zO (Zi 9 (fIx (zh true (zb 8)) (f2 yf (f2 ZT (zb 7) (f2 Yn (zb 6) (zb 6))) (fA yX (zh true (zb 8))))))
  (zO (Zi 10 (fC .non))
  (zO (mIf (zI (f2 ZE (fIx (zh false (fIx (zh false (fIx (zh true (zb 2)) (zb 9))) (fC (.int 2)))) (fC (.int 0))) (fC (.str "take"))))
  (Zi 10 (fIx (zh true (ZJ (zf (fC (.int 0)) (zf (fC (.int 1)) (zf (f2 JE (f2 yf (f2 Yi (zb 7) (fC (.int 7))) (fC (.int 21))) (fC (.int 10))) (zf (f2 JE (f2 yf (f2 Yi (zb 7) (fC (.int 7))) (fC (.int 1999999999))) (fC (.int 999999999))) zr)))))) (f2 yf (f2 Yi (zb 7) (fC (.int 3))) (fC (.int 4)))))
  Z2)
  (zO (W6 4 yx (ZC (zf (zb 9) (zf (zb 10) zr))))
  (Zi 5 (fIx (zh false (fIx (zh true (zb 2)) (zb 9))) (fC (.int 1))))))))
  Z2))))
  (ZQ (zb 4)))))
def mq25:List D->Option D:=Z1 4 11 bq25
def bq26:Ev->Option Out :=
  (zO (Zi 3 (fC (.int 0)))
  (zO (Zi 4 (Jp (ZC (zf (fC (.int 1)) zr)) (f2 wK (ZC (zf (fC (.int 0)) zr)) (zb 0))))
  (zO (wd 5 (ZJ (zf (ZC (zf (zb 3) (zf (zb 4) zr))) zr)))
  (zO (wT (zh true (zb 2)) (uTup (jx (zR 6) (jx (zR 7) uNil)))
  (zO (Zi 4 (fA mq24 (zf (zb 4) (zf (fIx (zh false (fIx (zh true (zb 1)) (zb 6))) (fC (.int 2))) (zf (zb 7) zr)))))
  (zO (Zi 3 (fIx (zh false (fIx (zh true (zb 1)) (zb 6))) (fC (.int 1))))
  (W6 5 yx (ZC (zf (zb 3) (zf (zb 4) zr)))))))
  (ZQ (zb 5))))))
def mq26:List D->Option D:=Z1 3 8 bq26
def bq27:Ev->Option Out :=
  (zO (wd 3 (ZJ (zf (ZC (zf (f2 JE (f2 JE (fC (.int 0)) (fC (.int 1))) (f2 yf (f2 Yi (zb 2) (fC (.int 5))) (fC (.int 9)))) (zf (fC .non) zr))) (zf (ZC (zf (f2 ZT (fA yX (zh true (zb 0))) (f2 yf (f2 Yi (zb 2) (fC (.int 5))) (fC (.int 9)))) (zf (fC .non) zr))) (zf (ZC (zf (f2 ZT (fA yX (zh true (zb 0))) (f2 yf (f2 Yi (zb 2) (fC (.int 5))) (f2 dPow (fC (.int 10)) (fC (.int 8))))) (zf (fC (.int 0)) zr))) zr)))))
  (zO (Zi 4 (Z4 1 (yO (fA yX (zh true (zb 0)))) (zR 6) (zI (f2 Y9 (fIx (zh false (fIx (zh true (zb 0)) (zb 6))) (fC (.int 0))) (zb 1))) (zb 6)))
  (zO (wT (zh true (wu .lst (zh true (wu .lst (zh true (zb 4)) (yE (f2 yf (f2 Yi (zb 2) (fC (.int 5))) (fC (.int 7)))) fNo)) fNo (yE (fC (.int 4))))) (zR 5)
  (W6 3 yx (ZC (zf (zb 5) (zf (fIx (zh true (ZJ (zf (fC .non) (zf (fC (.int 1)) zr)))) (fA wn (zf (yP (f2 ZE (fIx (zh false (fIx (zh false (fIx (zh true (zb 0)) (zb 5))) (fC (.int 2)))) (fC (.int 0))) (fC (.str "take")))) zr))) zr)))))
  (zO (wT (yO (fA yX (zh true (zb 0)))) (zR 5)
  (mIf (zI (f2 ZE (fIx (zh false (fIx (zh true (zb 0)) (zb 5))) (fC (.int 0))) (zb 1)))
  (wd 3 (wX (fL (zb 3)) (fL (fRep (fL (ZJ (zf (ZC (zf (zb 5) (zf (fIx (zh true (ZJ (zf (fC (.int 0)) (zf (fC .non) zr)))) (fA wn (zf (yP (f2 ZE (fIx (zh false (fIx (zh false (fIx (zh true (zb 0)) (zb 5))) (fC (.int 2)))) (fC (.int 0))) (fC (.str "take")))) zr))) zr))) zr))) (fC (.int 3))))))
  Z2))
  (ZQ (fIx (zh true (zb 3)) (f2 yf (f2 Yi (zb 2) (fC (.int 3))) (fA yX (zh true (zb 3))))))))))
def mq27:List D->Option D:=Z1 3 6 bq27
def mq28:List D->Option D:=mRf mq4 mq16
def bq29:Ev->Option Out :=
  (zO (Zi 1 (f2 yf (fA Jx (zf (zb 0) (zf (fC (.int 0)) zr))) (fC (.int 7))))
  (zO (Zi 2 (fA mq22 (zf (zb 0) (zf (fC (.int 1)) (zf (zb 1) (zf (fC (.int 36)) zr))))))
  (zO (wd 3 (ZJ (zf (fC (.int 1)) zr)))
  (zO (mLend 3 (jG (yC 3 mq23 (zK (wL (fIx (zh true (fIx (zh false (zb 2)) (fC (.int 1)))) (fC (.int 0)))) (zK (wL (fC (.int 0))) (zK (wL (fIx (zh false (zb 2)) (fC (.int 1)))) (zK (wL (zb 3)) (wL zr))))))))
  (zO (Zi 4 (wu .lst (zh true (zb 3)) (yE (fC (.int 1))) fNo))
  (zO (Zi 5 (fA mq25 (zf (zb 0) (zf (fC (.int 26)) (zf (zb 4) (zf (f2 yf (fA Jx (zf (zb 0) (zf (fC (.int 25)) zr))) (fC (.int 31))) zr))))))
  (zO (Zi 6 (fA mq26 (zf (zb 1) (zf (zb 4) (zf (zb 5) zr)))))
  (zO (wT (yO (fC (.int 4))) (zR 7)
  (zO (Zi 8 (fA Jx (zf (zb 0) (zf (f2 ZT (fC (.int 50)) (zb 7)) zr))))
  (zO (Zi 9 (f2 yf (zb 8) (f2 ZT (fA yX (zh true (zb 5))) (fC (.int 1)))))
  (zO (Zi 10 (wX (fL (wX (fL (wu .lst (zh true (zb 5)) fNo (yE (zb 9)))) (fL (ZJ (zf (fA mq27 (zf (zb 4) (zf (fIx (zh false (fIx (zh true (zb 6)) (zb 9))) (fC (.int 0))) (zf (f2 Yi (zb 8) (fC (.int 31))) zr)))) zr))))) (fL (wu .lst (zh true (zb 5)) (yE (f2 ZT (zb 9) (f2 yf (f2 Yi (zb 8) (fC (.int 7))) (fC (.int 2))))) fNo))))
  (zO (Zi 11 (fA (fun ds=>some (.lst ds)) (zh true (zb 10))))
  (zO (mIf (fOr (zI (f2 dNotB (fA mq11 (zf (zb 2) (zf (zb 11) zr))) (fC (.bl false)))) (fOr (fNot (zI (fA mq28 (zf (zb 2) (zf (zb 11) zr))))) (zI (f2 dNeD (zb 11) (zb 10)))))
  (ZQ (fC (.bl false)))
  Z2)
  (mIf (fOr (zI (f2 dNotB (fA mq11 (zf (zb 2) (zf (wu .lst (zh true (zb 5)) fNo (yE (zb 9))) zr))) (fC (.bl true)))) (zI (f2 dNeD (fA mq12 (zf (zb 2) (zf (wu .lst (zh true (zb 5)) fNo (yE (zb 9))) zr))) (wu .lst (zh true (zb 6)) fNo (yE (f2 ZT (zb 9) (fC (.int 1))))))))
  (ZQ (fC (.bl false)))
  Z2)))))))
  (ZQ (fAndV (f2 dIsB (fA mq11 (zf (zb 2) (zf (fA (fun ds=>some (.lst ds)) (zh true (zb 5))) zr))) (fC (.bl true))) (f2 wY (fA mq12 (zf (zb 2) (zf (fA (fun ds=>some (.lst ds)) (zh true (zb 5))) zr))) (zb 6))))))))))))
def mq29:List D->Option D:=Z1 1 12 bq29
def top (i:Nat):Kx:=PySem.Challenge.pw_evennotes_k18_no_runs.main.body.getD i (.Pass ⟨0,0,0,0⟩)
structure Txt (K:KC) (mg:Kw->Option Ka) (C:Kc) (Z:Nat->Kc):Prop where
 F0:Df K mg "worth" (top 1)
 F1:Df K mg "lists_in" (top 14)
 F2:Df K mg "new_places" (top 15)
 F3:Df K mg "new_places_of_row" (top 16)
 F4:Df K mg "laid" (top 20)
 F5:Df K mg "places_of_bodies" (top 21)
 F6:Df K mg "lay_rows" (top 22)
 F7:Df K mg "lay_row" (top 23)
 F8:Df K mg "lay_either" (top 24)
 F9:Df K mg "lay_loop" (top 25)
 F10:Df K mg "lay_call" (top 26)
 F11:Df K mg "is_run" (top 28)
 F12:Df K mg "ran" (top 29)
 F13:Df K mg "first_stand" (top 30)
 F14:Df K mg "takes" (top 31)
 F15:Df K mg "stand_behind" (top 32)
 F16:Df K mg "places_along" (top 33)
 F17:Df K mg "goes_on" (top 34)
 F18:Df K mg "_law_cell" (top 36)
 F19:Df K mg "_law_line" (top 37)
 F20:Df K mg "_law_deed" (top 38)
 F21:Df K mg "_law_body" (top 39)
 F22:Df K mg "_law_program" (top 40)
 F23:Df K mg "_law_lay" (top 41)
 F24:Df K mg "_law_behind" (top 42)
 F25:Df K mg "_law_run" (top 43)
 F26:Df K mg "_law_walked" (top 44)
 F27:Df K mg "_law_bent" (top 45)
 F28:Df K mg "_law_refused" (top 46)
 F29:Df K mg "law" (top 47)
 F30:DfI K C "Layout.__init__" (inCls (top 19) 0)
 F31:DfM K C "new_place" "Layout.new_place" (inCls (top 19) 1)
 F32:DfM K C "add_step" "Layout.add_step" (inCls (top 19) 2)
 z_int:mg "int"=none
 z_isinstance:mg "isinstance"=none
 z_len:mg "len"=none
 z_list:mg "list"=none
 z_range:mg "range"=none
 z_sum:mg "sum"=none
 z_tuple:mg "tuple"=none
 z_zip:mg "zip"=none
 c_SKIP:mg "SKIP"=some (.ref (Z 0))
 l_SKIP:TS1 K (Z 0) "skip"
 lc:LCls K C
 m_Layout:mg "Layout"=some (.ref C)
 rf:RfT K mg
section
variable {P:Ki} {w:Kk} {K:KC} {mg:Kw->Option Ka} {base:Kl} {C:Kc} {Z:Nat->Kc}
section
variable (P:Ki) (w:Kk) (K:KC) (mg:Kw->Option Ka) (base:Kl) (C:Kc)
abbrev A0:Prop:=Kn P w K mg base "worth" 36 ["one","other"] (spM K mq0)
abbrev A1:Prop:=Kn P w K mg base "lists_in" 36 ["row"] (spM K mq1)
abbrev A2:Prop:=Kn P w K mg base "new_places" 158 ["rows","called"] (spM K mq2)
abbrev A5:Prop:=Kn P w K mg base "places_of_bodies" 160 ["bodies"] (spM K mq5)
abbrev A30:Prop:=KnI P w K mg base C 162 ["self","bodies"] (WI K C mq5)
abbrev A31:Prop:=KnM P w K mg base C "new_place" 36 ["self"] (spW K (kO C) 0 mq31)
abbrev A32:Prop:=KnM P w K mg base C "add_step" 36 ["self","start","to","deed"] (spW K (kO C) 0 mq32)
abbrev A6:Prop:=Kn P w K mg base "lay_rows" 158 ["layout","rows","place"] (spW K (kO C) 0 mq6)
abbrev A4:Prop:=Kn P w K mg base "laid" 164 ["program"] (spL K mq4)
abbrev A14:Prop:=Kn P w K mg base "takes" 36 ["deed"] (spM K mq14)
abbrev A17:Prop:=Kn P w K mg base "goes_on" 38 ["steps","move","place"] (spM K mq17)
abbrev A16:Prop:=Kn P w K mg base "places_along" 40 ["steps","moves"] (spM K mq16)
abbrev A11:Prop:=Kn P w K mg base "is_run" 166 ["program","moves"] (spM K mq11)
abbrev A13:Prop:=Kn P w K mg base "first_stand" 36 ["program"] (spM K mq13)
abbrev A15:Prop:=Kn P w K mg base "stand_behind" 38 ["deed","number","stand"] (spM K mq15)
abbrev A12:Prop:=Kn P w K mg base "ran" 166 ["program","moves"] (spF K mq12)
abbrev A18:Prop:=Kn P w K mg base "_law_cell" 36 ["_law_script","_law_k"] (spM K Jx)
abbrev A19:Prop:=Kn P w K mg base "_law_line" 36 ["_law_cell_here","_law_many"] (spM K mq19)
abbrev A20:Prop:=Kn P w K mg base "_law_deed" 38 ["_law_cell_here","_law_many","_law_later_on"] (spF K mq20)
abbrev A21:Prop:=Kn P w K mg base "_law_body" 40 ["_law_cells","_law_many","_law_later_on","_law_deep","_law_most"] (spM K mq21)
abbrev A22:Prop:=Kn P w K mg base "_law_program" 42 ["_law_script","_law_at","_law_many","_law_most"] (spM K mq22)
abbrev A23:Prop:=Kn P w K mg base "_law_lay" 156 ["_law_rows","_law_place","_law_bodies","_law_made"] (spW K kL 3 mq23)
abbrev A24:Prop:=Kn P w K mg base "_law_behind" 36 ["_law_stand","_law_deed_here","_law_number"] (spM K mq24)
abbrev A25:Prop:=Kn P w K mg base "_law_run" 38 ["_law_script","_law_at","_law_steps","_law_most"] (spM K mq25)
abbrev A26:Prop:=Kn P w K mg base "_law_walked" 38 ["_law_many","_law_steps","_law_moves"] (spM K mq26)
abbrev A27:Prop:=Kn P w K mg base "_law_bent" 36 ["_law_steps","_law_place","_law_cell_here"] (spM K mq27)
abbrev A28:Prop:=Kn P w K mg base "_law_refused" 168 ["_law_program_here","_law_moves"] (spM K mq28)
end
variable (T:Txt K mg C Z)
include T
theorem g_worth :A0 P w K mg base:=(jt P w base 35 ["one","other"] ["one","other"] bq0 T.F0 (by decide +kernel) fun nd=>fun _ _ _ _ _ _ _ hr=>⟨_,[],by
  unfold bq0
  exact (zB (ZH (WQ (K':=K) (st:=false) rfl (by rfl) (by exact T.z_sum) (SF.seq (Jl (si_zip (K':=K) (by rfl) (by exact T.z_zip) (SC.sn (sqF (za 0))) (SC.sn (sqF (za 1)))) (fun _ _ _ _=>(sg_tup (K':=K) rfl (Y4 ZU (Y4 ZU sgs_nil)))) (fun _ _ _ _=>yZ) (fun _ _ _ _=>(zy ye yc (za 2) (za 3))))))))⟩ :)
theorem g_lists_in :A1 P w K mg base:=(jt P w base 35 ["row"] ["row"] bq1 T.F1 (by decide +kernel) fun nd=>fun _ _ _ _ _ _ _ hr=>⟨_,[],by
  unfold bq1
  exact (zB (ZH (SF.se (st:=false) (Jl (si_tup (K':=K) (SC.sn (sqF (za 0)))) (fun _ _ _ _=>ZU) (fun _ _ _ _=>(Wb (sb_val (se_isi (K':=K) (st:=false) (by rfl) (by exact T.z_isinstance) (by rfl) (by exact T.z_list) PyProof.Rows.boot_list (by decide) (za 1))))) (fun _ _ _ _=>(za 1))))))⟩ :)
theorem g_new_places (G1:A1 P w K mg base) (n:Nat):Kn P w K mg base "new_places" (38+2*n) ["rows","called"] (spM K (Rq2 n).1)/\Kn P w K mg base "new_places_of_row" (38+2*n) ["row","called"] (spM K (Rq2 n).2):=by
 induction n with
 | zero=>exact ⟨Kn.no T.F2,Kn.no T.F3⟩
 | succ n ih =>
  obtain ⟨G2,G3⟩:=ih
  exact ⟨(jt P w base (38+2*n+1) ["rows","called"] ["rows","called"] (bq2 ((Rq2 n).1) ((Rq2 n).2)) T.F2 (by decide +kernel) fun nd=>fun _ _ _ _ _ _ _ hr=>⟨_,[],by
  unfold bq2
  exact (zB (ZH (WQ (K':=K) (st:=false) rfl (by rfl) (by exact T.z_sum) (SF.seq (Jl (yw (K':=K) (SC.sn (sqT (za 0)))) (fun _ _ _ _=>ZU) (fun _ _ _ _=>yZ) (fun _ _ _ _=>(Zz (K':=K) G3 (hr.mono (by omega)) (ze (za 2) (ze (za 1) zk)))))))))⟩ :),(jt P w base (38+2*n+1) ["row","called"] ["row","called"] (bq3 ((Rq2 n).1) ((Rq2 n).2)) T.F3 (by decide +kernel) fun nd=>fun _ _ _ _ _ _ _ hr=>⟨_,[],by
  unfold bq3
  exact (zi (yb (os':=[]) (zU ZV Zc (zE (K':=K) (st:=false) (sqF (za 0)) zg) Zy (zH _)) (zB (ZH (se_dget (st:=false) hr (za 1) (zE (K':=K) (st:=false) (sqF (za 0)) zg)))) Zs) (zB (ZH (zy Zn Zd zg (WQ (K':=K) (st:=false) rfl (by rfl) (by exact T.z_sum) (SF.seq (Jl (yw (K':=K) (SC.sn (sqT (Zz (K':=K) G1 (hr.mono (by omega)) (ze (za 0) zk))))) (fun _ _ _ _=>ZU) (fun _ _ _ _=>yZ) (fun _ _ _ _=>(Zz (K':=K) G2 (hr.mono (by omega)) (ze (za 2) (ze (za 1) zk)))))))))))⟩ :)⟩
theorem Jz (G2:A2 P w K mg base):A5 P w K mg base:=(jt P w base 159 ["bodies","places","number"] ["bodies"] bq5 T.F5 (by decide +kernel) fun nd=>fun _ _ _ _ _ _ _ hr=>⟨_,[1],by
  unfold bq5
  exact (zi (YU (os:=[]) (os':=[1]) (i:=1) nd rfl (Or.inl rfl) sf_dnew) (zi (Yu (os:=[1]) rfl (si_rangeD (by rfl) (by exact T.z_range) (zy jk Yk (yq (K':=K) (st:=false) (by rfl) (by exact T.z_len) (sqT (za 0))) zg) (WP Yr jd zg)) ZU (zB (ss_dput (os:=[1]) 1 hr (za 2) (SE.flat (Zz (K':=K) G2 (hr.mono (by omega)) (ze (Zv (K':=K) (st:=false) (sqT (za 0)) (za 2)) (ze (JN 1) zk))))))) (zB (ZH (JN 1)))))⟩ :)
theorem g___init__ (G5:A5 P w K mg base):A30 P w K mg base C:=(fn_kI (mg:=mg) P w base 161 mq5 T.F30 T.lc fun _ _ _ _ _ _ _ hr=>Zf (ps_fld (pv 0) (pv 1) rfl) (Zf (ps_fld (pv 0) (pe_kn G5 (hr.mono (by omega)) (by rfl) (zC (pv 1) zY)) rfl) (Zf (ps_fld (pv 0) yK rfl) (Z8 (ps_fld (pv 0) (ji zY) rfl)))) :)
theorem g_new_place :A31 P w K mg base C:=(fn_kM (mg:=mg) P w base 35 ["self"] ["self"] 0 (kO C) bq31 T.F31 (by decide +kernel) fun nd=>fun _ _ _ _ _ _ _ hr=>⟨_,[],by
  unfold bq31
  exact (zZ (wl_inc T.lc) (ZD (yH (we_op (st:=false) jk Yk (wl_fld (st:=true) (we_cnt T.lc)) (SE.we zg)))))⟩ :)
theorem g_add_step :A32 P w K mg base C:=(fn_kM (mg:=mg) P w base 35 ["self","start","to","deed"] ["self","start","to","deed"] 0 (kO C) bq32 T.F32 (by decide +kernel) fun nd=>fun _ _ _ _ _ _ _ hr=>⟨_,[],by
  unfold bq32
  exact (ZD (wl_step T.lc (Zu (ze (za 1) (ze (za 2) (ze (za 3) zk))))))⟩ :)
theorem g_lay_rows (G31:A31 P w K mg base C) (G32:A32 P w K mg base C) (n:Nat):Kn P w K mg base "lay_rows" (38+2*n) ["layout","rows","place"] (spW K (kO C) 0 (Rq6 n).1)/\Kn P w K mg base "lay_row" (38+2*n) ["layout","row","place"] (spW K (kO C) 0 (Rq6 n).2.1)/\Kn P w K mg base "lay_either" (38+2*n) ["layout","row","place"] (spW K (kO C) 0 (Rq6 n).2.2.1)/\Kn P w K mg base "lay_loop" (38+2*n) ["layout","row","place"] (spW K (kO C) 0 (Rq6 n).2.2.2.1)/\Kn P w K mg base "lay_call" (38+2*n) ["layout","row","place"] (spW K (kO C) 0 (Rq6 n).2.2.2.2):=by
 induction n with
 | zero=>exact ⟨Kn.noW T.F6,Kn.noW T.F7,Kn.noW T.F8,Kn.noW T.F9,Kn.noW T.F10⟩
 | succ n ih =>
  obtain ⟨G6,G7,G8,G9,G10⟩:=ih
  exact ⟨(fn_kW P w base (38+2*n+1) ["layout","rows","place","at","row"] ["layout","rows","place"] 0 (kO C) (bq6 ((Rq6 n).1) ((Rq6 n).2.1) ((Rq6 n).2.2.1) ((Rq6 n).2.2.2.1) ((Rq6 n).2.2.2.2)) T.F6 (by decide +kernel) fun nd=>fun _ _ _ _ _ _ _ hr=>⟨_,[],by
  unfold bq6
  exact (zZ (yk (j:=3) nd rfl (Or.inl rfl) (SE.we (za 2))) (zZ (wst_for rfl (yw (K':=K) (SE.sn (k:=true) (za 1))) ZU kg_name (ZD (yk (j:=3) nd rfl (Or.inl rfl) (YZ (K':=K) G7 (hr.mono (by omega)) wm (zA (SE.we (za 0)) (zA (SE.we (za 4)) (zA (SE.we (za 3)) Z7))))))) (ZD (yH (SE.we (za 3))))))⟩ :),(fn_kW P w base (38+2*n+1) ["layout","row","place","kind","new"] ["layout","row","place"] 0 (kO C) (bq7 ((Rq6 n).1) ((Rq6 n).2.1) ((Rq6 n).2.2.1) ((Rq6 n).2.2.2.1) ((Rq6 n).2.2.2.2)) T.F7 (by decide +kernel) fun nd=>fun _ _ _ _ _ _ _ hr=>⟨_,[],by
  unfold bq7
  exact (zZ (yk (j:=3) nd rfl (Or.inl rfl) (SE.we (zE (K':=K) (st:=true) (sqF (za 1)) zg))) (zZ (jc (SB.wb (zU ZV Zc (za 3) Zy (zH _))) (ZD (yH (YZ (K':=K) G8 (hr.mono (by omega)) wm (zA (SE.we (za 0)) (zA (SE.we (za 1)) (zA (SE.we (za 2)) Z7)))))) j5) (zZ (jc (SB.wb (zU ZV Zc (za 3) Zy (zH _))) (ZD (yH (YZ (K':=K) G9 (hr.mono (by omega)) wm (zA (SE.we (za 0)) (zA (SE.we (za 1)) (zA (SE.we (za 2)) Z7)))))) j5) (zZ (jc (SB.wb (zU ZV Zc (za 3) Zy (zH _))) (ZD (yH (YZ (K':=K) G10 (hr.mono (by omega)) wm (zA (SE.we (za 0)) (zA (SE.we (za 1)) (zA (SE.we (za 2)) Z7)))))) j5) (zZ (yk (j:=4) nd rfl (Or.inl rfl) (wl_kn0 (K':=K) T.lc G31 (hr.mono (by omega)))) (zZ (jc (SB.wb (zU op_ne JO (za 3) Zy (zH _))) (ZD (YY (wl_kn (K':=K) T.lc G32 (hr.mono (by omega)) (zA (SE.we (za 2)) (zA (SE.we (za 4)) (zA (SE.we (za 1)) Z7)))))) j5) (ZD (yH (SE.we (za 4))))))))))⟩ :),(fn_kW P w base (38+2*n+1) ["layout","row","place","one","other","new"] ["layout","row","place"] 0 (kO C) (bq8 ((Rq6 n).1) ((Rq6 n).2.1) ((Rq6 n).2.2.1) ((Rq6 n).2.2.2.1) ((Rq6 n).2.2.2.2)) T.F8 (by decide +kernel) fun nd=>fun _ _ _ _ _ _ _ hr=>⟨_,[],by
  unfold bq8
  exact (zZ (yk (j:=3) nd rfl (Or.inl rfl) (YZ (K':=K) G6 (hr.mono (by omega)) wm (zA (SE.we (za 0)) (zA (SE.we (zE (K':=K) (st:=true) (sqF (za 1)) zg)) (zA (SE.we (za 2)) Z7))))) (zZ (yk (j:=4) nd rfl (Or.inl rfl) (YZ (K':=K) G6 (hr.mono (by omega)) wm (zA (SE.we (za 0)) (zA (SE.we (zE (K':=K) (st:=true) (sqF (za 1)) zg)) (zA (SE.we (za 2)) Z7))))) (zZ (yk (j:=5) nd rfl (Or.inl rfl) (wl_kn0 (K':=K) T.lc G31 (hr.mono (by omega)))) (zZ (YY (wl_kn (K':=K) T.lc G32 (hr.mono (by omega)) (zA (SE.we (za 3)) (zA (SE.we (za 5)) (zA (SE.we (se_glS T.c_SKIP T.l_SKIP)) Z7))))) (zZ (YY (wl_kn (K':=K) T.lc G32 (hr.mono (by omega)) (zA (SE.we (za 4)) (zA (SE.we (za 5)) (zA (SE.we (se_glS T.c_SKIP T.l_SKIP)) Z7))))) (ZD (yH (SE.we (za 5)))))))))⟩ :),(fn_kW P w base (38+2*n+1) ["layout","row","place","new"] ["layout","row","place"] 0 (kO C) (bq9 ((Rq6 n).1) ((Rq6 n).2.1) ((Rq6 n).2.2.1) ((Rq6 n).2.2.2.1) ((Rq6 n).2.2.2.2)) T.F9 (by decide +kernel) fun nd=>fun _ _ _ _ _ _ _ hr=>⟨_,[],by
  unfold bq9
  exact (zZ (yk (j:=3) nd rfl (Or.inl rfl) (wl_kn0 (K':=K) T.lc G31 (hr.mono (by omega)))) (zZ (YY (wl_kn (K':=K) T.lc G32 (hr.mono (by omega)) (zA (SE.we (za 2)) (zA (SE.we (za 3)) (zA (SE.we (se_glS T.c_SKIP T.l_SKIP)) Z7))))) (zZ (YY (wl_kn (K':=K) T.lc G32 (hr.mono (by omega)) (zA (YZ (K':=K) G6 (hr.mono (by omega)) wm (zA (SE.we (za 0)) (zA (SE.we (zE (K':=K) (st:=true) (sqF (za 1)) zg)) (zA (SE.we (za 3)) Z7)))) (zA (SE.we (za 3)) (zA (SE.we (se_glS T.c_SKIP T.l_SKIP)) Z7))))) (ZD (yH (SE.we (za 3)))))))⟩ :),(fn_kW P w base (38+2*n+1) ["layout","row","place"] ["layout","row","place"] 0 (kO C) (bq10 ((Rq6 n).1) ((Rq6 n).2.1) ((Rq6 n).2.2.1) ((Rq6 n).2.2.2.1) ((Rq6 n).2.2.2.2)) T.F10 (by decide +kernel) fun nd=>fun _ _ _ _ _ _ _ hr=>⟨_,[],by
  unfold bq10
  exact (zZ (jc (wb_cmp ZV Zc (wl_dget (st:=true) hr (wl_fld (st:=true) (we_lay T.lc)) (zE (K':=K) (st:=true) (sqF (za 1)) zg)) (SE.we zg) (zH _)) (ZD (yH (SE.we (za 2)))) j5) (ZD (yH (YZ (K':=K) G6 (hr.mono (by omega)) wm (zA (SE.we (za 0)) (zA (wl_ix (K':=K) (st:=true) (wl_fld (st:=true) (we_bod T.lc)) (zE (K':=K) (st:=true) (sqF (za 1)) zg)) (zA (SE.we (za 2)) Z7)))))))⟩ :)⟩
theorem g_laid (G30:A30 P w K mg base C) (G6:A6 P w K mg base C):A4 P w K mg base:=(fn_kL P w base 163 ["program","layout","end"] ["program"] mq5 (fIx (zh false (zb 0)) (fC (.int 1))) (Y0 2 (yC 0 mq6 (zK (wL (zb 1)) (zK (wL (fIx (zh true (fIx (zh false (zb 0)) (fC (.int 1)))) (fC (.int 0)))) (zK (wL (fC (.int 0))) (wL zr)))))) T.lc T.F4 (by decide +kernel) fun nd _ _ _ _ _ _ _ hr=>by
  exact (ld_mk (zE (K':=K) (st:=true) (sqF (za 0)) zg) (yk (j:=2) nd rfl (Or.inl rfl) (YZ (K':=K) G6 (hr.mono (by omega)) wm (zA (SE.we (za 1)) (zA (SE.we (Zv (K':=K) (st:=true) (sqT (zE (K':=K) (st:=true) (sqF (za 0)) zg)) zg)) (zA (SE.we zg) Z7))))) (fun hE=>yV (i:=1) nd rfl (Or.inl rfl) (pe_mk G30 (hr.mono (by omega)) (by rfl) T.m_Layout (zC hE zY))) (YX (jO (zC (pe_fld (pv 1) rfl) (zC (pe_fld (pv 1) rfl) (zC (pv 2) zY)))))) :)
theorem g_takes :A14 P w K mg base:=(jt P w base 35 ["deed"] ["deed"] bq14 T.F14 (by decide +kernel) fun nd=>fun _ _ _ _ _ _ _ hr=>⟨_,[],by
  unfold bq14
  exact (zB (ZH (Yv ZV Zc (zE (K':=K) (st:=false) (sqF (za 0)) zg) Zy (zH _))))⟩ :)
theorem g_goes_on (G14:A14 P w K mg base):A17 P w K mg base:=(jt P w base 37 ["steps","move","place","step"] ["steps","move","place"] bq17 T.F17 (by decide +kernel) fun nd=>fun _ _ _ _ _ _ _ hr=>⟨_,[],by
  unfold bq17
  exact (zi (yb (os':=[]) (sb_not (sb_chain op_le rok_le op_lt rok_lt zg (zE (K':=K) (st:=false) (sqF (za 1)) zg) (yq (K':=K) (st:=false) (by rfl) (by exact T.z_len) (sqT (za 0))))) (zB (ZH se_bl)) Zs) (zi (zN (os:=[]) (os':=[]) (i:=3) nd rfl (Or.inl rfl) (Zv (K':=K) (st:=true) (sqT (za 0)) (zE (K':=K) (st:=true) (sqF (za 1)) zg))) (zB (ZH (se_and (Yv ZV Zc (zE (K':=K) (st:=false) (sqF (za 3)) zg) (za 2) (zH _)) (se_one (Yv ZV Zc (Zz (K':=K) G14 (hr.mono (by omega)) (ze (zE (K':=K) (st:=false) (sqF (za 3)) zg) zk)) (Yv op_notN rok_notN (zE (K':=K) (st:=false) (sqF (za 1)) zg) YV (zH _)) (zH _))))))))⟩ :)
theorem ge (G17:A17 P w K mg base):A16 P w K mg base:=(jt P w base 39 ["steps","moves","places","move"] ["steps","moves"] bq16 T.F16 (by decide +kernel) fun nd=>fun _ _ _ _ _ _ _ hr=>⟨_,[2],by
  unfold bq16
  exact (zi (YU (os:=[]) (os':=[2]) (i:=2) nd rfl (Or.inl rfl) (ZN (ze zg zk))) (zi (Yu (os:=[2]) rfl (yw (K':=K) (SE.sn (k:=true) (za 1))) ZU (zi (yb (os':=[2]) (sb_not (sb_val (Zz (K':=K) G17 (hr.mono (by omega)) (ze (za 0) (ze (za 3) (ze (Zv (K':=K) (st:=false) (je 2) (WP Yr jd zg)) zk)))))) (zB (ZH YV)) Zs) (zB (yU (os:=[2]) (i:=2) (zE (K':=K) (st:=true) (sqF (Zv (K':=K) (st:=true) (sqT (za 0)) (zE (K':=K) (st:=true) (sqF (za 3)) zg))) zg))))) (zB (ZH (JN 2)))))⟩ :)
theorem g_is_run (G16:A16 P w K mg base) (G4:A4 P w K mg base):A11 P w K mg base:=(jt P w base 165 ["program","moves"] ["program","moves"] bq11 T.F11 (by decide +kernel) fun nd=>fun _ _ _ _ _ _ _ hr=>⟨_,[],by
  unfold bq11
  have P_laid:=Kn.told G4
  exact (zB (ZH (Yv op_notN rok_notN (Zz (K':=K) G16 (hr.mono (by omega)) (ze (zE (K':=K) (st:=false) (sqF (Zz (K':=K) P_laid (hr.mono (by omega)) (ze (za 0) zk))) zg) (ze (za 1) zk))) YV (zH _))))⟩ :)
theorem g_first_stand :A13 P w K mg base:=(jt P w base 35 ["program"] ["program"] bq13 T.F13 (by decide +kernel) fun nd=>fun _ _ _ _ _ _ _ hr=>⟨_,[],by
  unfold bq13
  exact (zB (ZH (We (K':=K) (st:=false) (Zu (ze zg zk)) (se_repZ (K':=K) (st:=true) (Zu (ze zg zk)) (zE (K':=K) (st:=true) (sqF (za 0)) zg)))))⟩ :)
theorem gc (G14:A14 P w K mg base) (G0:A0 P w K mg base):A15 P w K mg base:=(jt P w base 37 ["deed","number","stand","place","new"] ["deed","number","stand"] bq15 T.F15 (by decide +kernel) fun nd=>fun _ _ _ _ _ _ _ hr=>⟨_,[],by
  unfold bq15
  exact (zi (yb (os':=[]) (zU ZV Zc (zE (K':=K) (st:=false) (sqF (za 0)) zg) Zy (zH _)) (zB (ZH (za 2))) Zs) (zi (zN (os:=[]) (os':=[]) (i:=3) nd rfl (Or.inl rfl) (zy Zn Zd (zE (K':=K) (st:=true) (sqF (za 0)) zg) zg)) (zi (zN (os:=[]) (os':=[]) (i:=4) nd rfl (Or.inl rfl) (se_if (sb_val (Zz (K':=K) G14 (hr.mono (by omega)) (ze (za 0) zk))) (za 1) (Zz (K':=K) G0 (hr.mono (by omega)) (ze (zE (K':=K) (st:=true) (sqF (za 0)) zg) (ze (za 2) zk))))) (zB (ZH (We (K':=K) (st:=false) (We (K':=K) (st:=true) (Wc (K':=K) (st:=true) (sqF (za 2)) yv (yu (za 3))) (Zu (ze (za 4) zk))) (Wc (K':=K) (st:=true) (sqF (za 2)) (yu (zy Zn Zd (za 3) zg)) yv)))))))⟩ :)
theorem g_ran (G4:A4 P w K mg base) (G16:A16 P w K mg base) (G13:A13 P w K mg base) (G15:A15 P w K mg base):A12 P w K mg base:=(fn_kF P w base 165 ["program","moves","steps","places","stands","move"] ["program","moves"] bq12 T.F12 (by decide +kernel) fun nd=>fun _ _ _ _ _ _ _ hr=>⟨_,[4],by
  unfold bq12
  have P_laid:=Kn.told G4
  exact (zi (zN (os:=[]) (os':=[]) (i:=2) nd rfl (Or.inl rfl) (zE (K':=K) (st:=true) (sqF (Zz (K':=K) P_laid (hr.mono (by omega)) (ze (za 0) zk))) zg)) (zi (zN (os:=[]) (os':=[]) (i:=3) nd rfl (Or.inl rfl) (Zz (K':=K) G16 (hr.mono (by omega)) (ze (za 2) (ze (za 1) zk)))) (zi (yb (os':=[]) (zU op_isN rok_isN (za 3) YV (zH _)) (zB ss_never) Zs) (zi (YU (os:=[]) (os':=[4]) (i:=4) nd rfl (Or.inl rfl) (ZN (ze (Zz (K':=K) G13 (hr.mono (by omega)) (ze (za 0) zk)) zk))) (zi (Yu (os:=[4]) rfl (yw (K':=K) (SE.sn (k:=true) (za 1))) ZU (zB (yU (os:=[4]) (i:=4) (Zz (K':=K) G15 (hr.mono (by omega)) (ze (zE (K':=K) (st:=true) (sqF (Zv (K':=K) (st:=true) (sqT (za 2)) (zE (K':=K) (st:=true) (sqF (za 5)) zg))) zg) (ze (zE (K':=K) (st:=true) (sqF (za 5)) zg) (ze (Zv (K':=K) (st:=true) (je 4) (WP Yr jd zg)) zk))))))) (zB (ss_retF (WK (K':=K) hr (by rfl) (by exact T.z_list) (by rfl) (by exact T.z_zip) (SC.sn (sqT (za 3))) (SC.sn (je 4))))))))))⟩ :)
theorem g'cell :A18 P w K mg base:=(jt P w base 35 ["_law_script","_law_k","_law_number"] ["_law_script","_law_k"] bq18 T.F18 (by decide +kernel) fun nd=>fun _ _ _ _ _ _ _ hr=>⟨_,[],by
  unfold bq18
  exact (zi (yb (os':=[]) (zU op_lt rok_lt (za 1) (yq (K':=K) (st:=false) (by rfl) (by exact T.z_len) (sqT (za 0))) (zH _)) (zB (ZH (Zv (K':=K) (st:=false) (sqT (za 0)) (za 1)))) Zs) (zi (zN (os:=[]) (os':=[]) (i:=2) nd rfl (Or.inl rfl) (zy Zn Zd (zy ye yc (za 1) zg) zg)) (zi (yb (os':=[]) (zU op_gt WR (yq (K':=K) (st:=false) (by rfl) (by exact T.z_len) (sqT (za 0))) zg (zH _)) (zB (zN (os:=[]) (os':=[]) (i:=2) nd rfl (Or.inl rfl) (zy Zm Zb (zy Zn Zd (zy ye yc (Zv (K':=K) (st:=true) (sqT (za 0)) (zy Zm Zb (zy ye yc (za 1) zg) (yq (K':=K) (st:=true) (by rfl) (by exact T.z_len) (sqT (za 0))))) zg) (zy ye yc (za 1) zg)) zg))) Zs) (zi (zN (os:=[]) (os':=[]) (i:=2) nd rfl (Or.inl rfl) (zy Zm Zb (zy ye yc (za 2) (za 2)) zg)) (zB (ZH (zy Zm Zb (zy ye yc (zy Zn Zd (za 2) zg) (zy Zn Zd (za 2) zg)) zg)))))))⟩ :)
theorem g'line :A19 P w K mg base:=(jt P w base 35 ["_law_cell_here","_law_many","_law_line_here","_law_k","_law_number","_law_one"] ["_law_cell_here","_law_many"] bq19 T.F19 (by decide +kernel) fun nd=>fun _ _ _ _ _ _ _ hr=>⟨_,[2],by
  unfold bq19
  exact (zi (YU (os:=[]) (os':=[2]) (i:=2) nd rfl (Or.inl rfl) (ZN zk)) (zi (Yu (os:=[2]) rfl (yl (by rfl) (by exact T.z_range) (zy Zn Zd (za 1) zg)) ZU (zi (zN (os:=[2]) (os':=[2]) (i:=4) nd rfl (Or.inl rfl) (zy Zm Zb (zy Zn Zd (zy ye yc (zy (op_fdivP (hr.mono (by decide))) rok_divP (za 0) (zy Zn Zd (zy ye yc (za 3) (za 3)) zg)) zg) (zy ye yc (za 3) zg)) zg)) (zi (zN (os:=[2]) (os':=[2]) (i:=5) nd rfl (Or.inl rfl) (Zv (K':=K) (st:=true) (SF.seq (ZN (ze zg (ze zg (ze zg (ze (WP Yr jd zg) (ze zg (ze zg (ze zg (ze zg (ze (WP Yr jd zg) zk))))))))))) (zy Zm Zb (za 4) zg))) (zi (yb (os':=[2]) (zU ZV Zc (zy Zm Zb (zy ZM ZL (za 4) zg) zg) zg (zH _)) (zi (zN (os:=[2]) (os':=[2]) (i:=5) nd rfl (Or.inl rfl) (zy jk Yk (zy Zm Zb (zy ZM ZL (za 4) zg) zg) zg)) (zB (yb (os':=[2]) (zU op_gt WR (za 3) zg (zH _)) (zB (zN (os:=[2]) (os':=[2]) (i:=5) nd rfl (Or.inl rfl) (zy jk Yk (zy Zm Zb (za 5) zg) zg))) Zs))) Zs) (zB (yU (os:=[2]) (i:=2) (za 5))))))) (zB (ZH (se_tuple (K':=K) (st:=false) (by rfl) (by exact T.z_tuple) (je 2))))))⟩ :)
theorem g'deed (G19:A19 P w K mg base):A20 P w K mg base:=(fn_kF P w base 37 ["_law_cell_here","_law_many","_law_later_on","_law_kind","_law_box"] ["_law_cell_here","_law_many","_law_later_on"] bq20 T.F20 (by decide +kernel) fun nd=>fun _ _ _ _ _ _ _ hr=>⟨_,[],by
  unfold bq20
  exact (zi (zN (os:=[]) (os':=[]) (i:=3) nd rfl (Or.inl rfl) (zy Zm Zb (zy ZM ZL (za 0) zg) zg)) (zi (yb (os':=[]) (SW.sb (Wz (zU op_gt WR (za 3) zg (zH _)) (JM (zU (op_neD (K':=K) hr) Wg (za 2) (SF.se (st:=false) (ZN zk)) (zH _))))) (zB (jK (Zv (K':=K) (st:=false) (SF.seq (Jl (yw (K':=K) (SC.sn (sqT (za 2)))) (fun _ _ _ _=>ZU) (fun _ _ _ _=>yZ) (fun _ _ _ _=>(Zu (ze Zy (ze (zE (K':=K) (st:=true) (sqF (za 5)) zg) zk)))))) (zy Zm Zb (zy ZM ZL (za 0) zg) (yq (K':=K) (st:=true) (by rfl) (by exact T.z_len) (sqT (za 2))))))) Zs) (zi (yb (os':=[]) (zU ZV Zc (za 3) zg (zH _)) (zB (ss_retRow2 (os:=[]))) Zs) (zi (yb (os':=[]) (zU ZV Zc (za 3) zg (zH _)) (zB (ss_retRow1 (os:=[]))) Zs) (zi (yb (os':=[]) (SW.sb (Wz (zU ZV Zc (za 3) zg (zH _)) (JM (zU ZV Zc (zy Zm Zb (zy ZM ZL (za 0) zg) zg) zg (zH _))))) (zB (jK (Zu (ze Zy zk)))) Zs) (zi (yb (os':=[]) (SW.sb (sw_or (zU ZV Zc (za 3) zg (zH _)) (sw_or1 (zU ZV Zc (za 1) zg (zH _))))) (zB (jK (Zu (ze Zy zk)))) Zs) (zi (zN (os:=[]) (os':=[]) (i:=4) nd rfl (Or.inl rfl) (zy Zm Zb (zy ZM ZL (za 0) zg) (za 1))) (zi (yb (os':=[]) (SW.sb (Wz (zU op_gt WR (za 3) zg (zH _)) (JM (zU op_lt rok_lt (za 3) zg (zH _))))) (zB (jK (Zu (ze Zy (ze (za 4) zk))))) Zs) (zB (jK (Zu (ze Zy (ze (za 4) (ze (Zz (K':=K) G19 (hr.mono (by omega)) (ze (zy ZM ZL (za 0) zg) (ze (za 1) zk))) zk))))))))))))))⟩ :)
theorem g'body (G20:A20 P w K mg base):A21 P w K mg base:=(jt P w base 39 ["_law_cells","_law_many","_law_later_on","_law_deep","_law_most","_law_body_here","_law_stack","_law_used","_law_cell_here","_law_row","_law_cost"] ["_law_cells","_law_many","_law_later_on","_law_deep","_law_most"] bq21 T.F21 (by decide +kernel) fun nd=>fun _ _ _ _ _ _ _ hr=>⟨_,[],by
  unfold bq21
  exact (sss_b15 (sr_kn G20 (hr.mono (by omega)) (ze (za 8) (ze (za 1) (ze (za 2) zk)))) (WQ (K':=K) (st:=true) rfl (by rfl) (by exact T.z_sum) (SF.seq (Jl (yw (K':=K) (SC.sn (sqT (za 2)))) (fun _ _ _ _=>ZU) (fun _ _ _ _=>(Wb (SW.sb (Wz (zU ZV Zc (zE (K':=K) (st:=false) (sqF (za 9)) zg) Zy (zH _)) (JM (zU (op_eqD (K':=K) hr) rok_eqD (zE (K':=K) (st:=false) (sqF (za 11)) zg) (zE (K':=K) (st:=false) (sqF (za 9)) zg) (zH _))))))) (fun _ _ _ _=>(zE (K':=K) (st:=true) (sqF (za 11)) zg))))) (zy Zn Zd (za 10) (j7 Je JZ (by rfl) (by exact T.z_int) PyProof.Rows.boot_int (ze (SE.flat (Yv op_ne JO (zE (K':=K) (st:=false) (sqF (za 9)) zg) Zy (zH _))) zk))) (fun hR hK1 hK2=>(Zf (yV (i:=5) nd rfl (Or.inl rfl) (ji zY)) (Zf (yV (i:=6) nd rfl (Or.inl rfl) (ji (zC (ji (zC (pv 5) zY)) zY))) (Zf (yV (i:=7) nd rfl (Or.inl rfl) yK) (Zf (ps_for PassesOwn.never rfl (pi_list (pv 0)) (pg_name (i:=8) nd rfl (Or.inl rfl)) (Z8 (wA (PW.pt (pw_and (YN ZV (wC Zm (pv 8) yK) yK (zH _)) (pw_and1 (YN op_gt (Yd jv (by rfl) (by exact T.z_len) PySem.boot_len (zC (pv 6) zY)) yK (zH _))))) (Zf (Yl (pe_bm KJ PySem.F.slot_list_pop PySem.F.type_list_pop mt_popAt (JQ jq (pv 6) (pe_un Yr yK) (fun _ _=>rfl)) (zC yK zY))) (Z8 (wA (YN (op_eqD (K':=K) hr) (JQ jq (pv 6) (pe_un Yr yK) (fun _ _=>rfl)) (ji zY) (zH _)) (Z8 (Yl (pe_bm0 KJ PySem.F.slot_list_pop PySem.F.type_list_pop mt_pop (pv 6)))) jh))) (Zf (yV (i:=9) nd rfl (Or.inr rfl) hR) (Zf (yV (i:=10) nd rfl (Or.inl rfl) hK1) (Zf (yV (i:=10) nd rfl (Or.inl rfl) hK2) (Z8 (wA (YN op_le (wC Zn (pv 7) (pv 10)) (pv 4) (zH _)) (Zf (yV (i:=7) nd rfl (Or.inl rfl) (wC Zn (pv 7) (pv 10))) (Zf (Yl (pe_bm KJ PySem.F.slot_list_append PySem.F.type_list_append Y6 (JQ jq (JQ jq (pv 6) (pe_un Yr yK) (fun _ _=>rfl)) yK (fun _ _=>rfl)) (zC (pv 9) zY))) (Z8 (wA (PW.pt (pw_and (YN op_in_seq (JQ ix_tup (pv 9) yK (fun _ _=>rfl)) (jO (zC J7 (zC J7 zY))) rfl) (pw_and1 (YN op_lt (Yd jv (by rfl) (by exact T.z_len) PySem.boot_len (zC (pv 6) zY)) (pv 3) (zH _))))) (Z8 (Yl (pe_bm KJ PySem.F.slot_list_append PySem.F.type_list_append Y6 (pv 6) (zC (SF.pe (os:=[]) (Jl (si_tup (K':=K) (SC.sn (sqF (Wc (K':=K) (st:=true) (sqF (za 9)) (yu zg) yv)))) (fun _ _ _ _=>ZU) (fun _ _ _ _=>yZ) (fun _ _ _ _=>(za 11)))) zY)))) jh)))) jh)))))))) (Z8 (YX (jO (zC (pv 5) (zC (pv 7) zY)))))))))))⟩ :)
theorem g'program (G18:A18 P w K mg base) (G21:A21 P w K mg base):A22 P w K mg base:=(jt P w base 41 ["_law_script","_law_at","_law_many","_law_most","_law_bodies","_law_later_on","_law_count","_law_k","_law_size","_law_deep","_law_begin","_law_cells","_law_body_here","_law_used"] ["_law_script","_law_at","_law_many","_law_most"] bq22 T.F22 (by decide +kernel) fun nd=>fun _ _ _ _ _ _ _ hr=>⟨_,[],by
  unfold bq22
  exact (zi (zN (os:=[]) (os':=[]) (i:=4) nd rfl (Or.inl rfl) (SF.se (st:=true) (ZN zk))) (zi (zN (os:=[]) (os':=[]) (i:=5) nd rfl (Or.inl rfl) (SF.se (st:=true) (ZN zk))) (zi (zN (os:=[]) (os':=[]) (i:=6) nd rfl (Or.inl rfl) (zy Zn Zd zg (zy Zm Zb (Zz (K':=K) G18 (hr.mono (by omega)) (ze (za 0) (ze (za 1) zk))) zg))) (zi (Yu (os:=[]) rfl (si_rangeD (by rfl) (by exact T.z_range) (zy jk Yk (za 6) zg) (WP Yr jd zg)) ZU (zi (zN (os:=[]) (os':=[]) (i:=8) nd rfl (Or.inl rfl) zg) (zi (zN (os:=[]) (os':=[]) (i:=9) nd rfl (Or.inl rfl) zg) (zi (yb (os':=[]) (zU ZV Zc (za 7) zg (zH _)) (zi (zN (os:=[]) (os':=[]) (i:=8) nd rfl (Or.inl rfl) (zy Zn Zd zg (zy Zm Zb (zy ZM ZL (Zz (K':=K) G18 (hr.mono (by omega)) (ze (za 0) (ze (za 1) zk))) zg) zg))) (zB (zN (os:=[]) (os':=[]) (i:=9) nd rfl (Or.inl rfl) zg))) Zs) (zi (zN (os:=[]) (os':=[]) (i:=10) nd rfl (Or.inr rfl) (zy Zn Zd (zy Zn Zd (zy Zn Zd (za 1) zg) (zy ye yc zg (j7 Je JZ (by rfl) (by exact T.z_int) PyProof.Rows.boot_int (ze (SE.flat (Yv op_gt WR (za 7) zg (zH _))) zk)))) (zy ye yc zg (za 7)))) (zi (ss_sT (os:=[]) (os':=[]) (i:=11) nd (yl (by rfl) (by exact T.z_range) (za 8)) (fun _ _ _ _=>ZU) (fun _ _ _ _=>yZ) (fun _ _ _ _=>(Zz (K':=K) G18 (hr.mono (by omega)) (ze (za 0) (ze (zy Zn Zd (za 10) (za 14)) zk))))) (zi (ss_asg (os:=[]) (Zz (K':=K) G21 (hr.mono (by omega)) (ze (za 11) (ze (za 2) (ze (za 5) (ze (za 9) (ze (za 3) zk)))))) (sg_tup (K':=K) rfl (Y4 ZU (Y4 ZU sgs_nil)))) (zi (yb (os':=[]) (SW.sb (Wz (zU ZV Zc (za 6) zg (zH _)) (JM (zU ZV Zc (zy Zm Zb (zy ZM ZL (Zz (K':=K) G18 (hr.mono (by omega)) (ze (za 0) (ze (za 1) zk))) zg) zg) zg (zH _))))) (zB (zN (os:=[]) (os':=[]) (i:=12) nd rfl (Or.inl rfl) (SF.se (st:=true) (ZN (ze (Zu (ze Zy (ze (SF.se (st:=true) (ZN zk)) (ze (SF.se (st:=true) (ZN (ze (Zu (ze Zy (ze (SF.se (st:=true) (ZN (ze (Zu (ze Zy (ze (za 12) (ze (SF.se (st:=true) (ZN zk)) zk)))) zk))) zk))) zk))) zk)))) zk))))) Zs) (zi (zN (os:=[]) (os':=[]) (i:=4) nd rfl (Or.inl rfl) (SF.se (st:=true) (WN (SF.sl (ZN (ze (za 12) zk))) (SE.sl (za 4))))) (zB (zN (os:=[]) (os':=[]) (i:=5) nd rfl (Or.inl rfl) (SF.se (st:=true) (WN (SF.sl (ZN (ze (Zu (ze (za 7) (ze (za 13) zk))) zk))) (SE.sl (za 5))))))))))))))) (zB (ZH (Zu (ze (za 2) (ze (za 4) zk)))))))))⟩ :)
theorem g'lay  (n:Nat):Kn P w K mg base "_law_lay" (36+2*n) ["_law_rows","_law_place","_law_bodies","_law_made"] (spW K kL 3 (Rq23 n)):=by
 induction n with
 | zero=>exact Kn.noW T.F23
 | succ n ih =>
  have G23:=ih
  exact (fn_kW P w base (36+2*n+1) ["_law_rows","_law_place","_law_bodies","_law_made","_law_row","_law_led","_law_begin"] ["_law_rows","_law_place","_law_bodies","_law_made"] 3 kL (bq23 ((Rq23 n))) T.F23 (by decide +kernel) fun nd=>fun _ _ _ _ _ _ _ hr=>⟨_,[],by
  unfold bq23
  exact (zZ (wst_for rfl (yw (K':=K) (SE.sn (k:=true) (za 0))) ZU kg_name (ZD (jc (SB.wb (zU ZV Zc (zE (K':=K) (st:=false) (sqF (za 4)) zg) Zy (zH _))) (ZD (yk (j:=1) nd rfl (Or.inr rfl) (YZ (K':=K) G23 (hr.mono (by omega)) (wW (wW (wW wm))) (zA (SE.we (Zv (K':=K) (st:=true) (sqT (za 2)) (zE (K':=K) (st:=true) (sqF (za 4)) zg))) (zA (SE.we (za 1)) (zA (SE.we (za 2)) (zA (SE.we (za 3)) Z7))))))) (ZD (jc (SB.wb (zU ZV Zc (zE (K':=K) (st:=false) (sqF (za 4)) zg) Zy (zH _))) (zZ (wst_setComp (j:=5) nd rfl rfl (own:=["_law_some"]) (N':=["_law_rows","_law_place","_law_bodies","_law_made","_law_row","_law_led","_law_begin","_law_some"]) (k:=1) (Jc (by kernel_rfl)) rfl (si_tup (K':=K) (SE.sn (k:=false) (Wc (K':=K) (st:=true) (sqF (za 4)) (yu zg) yv))) (fun _ _ _ _=>ZU) kg_name (fun _ _ _ _=>(YZ (K':=K) G23 (hr.mono (by omega)) (wW (wW (wW wm))) (zA (SE.we (za 7)) (zA (SE.we (za 1)) (zA (SE.we (za 2)) (zA (SE.we (za 3)) Z7))))))) (zZ (yk (j:=1) nd rfl (Or.inr rfl) (we_hix (K':=K) (st:=true) zg)) (zZ (wst_hset (we_op (st:=true) Zn Zd (we_hix (K':=K) (st:=true) zg) (SE.we zg)) zg) (ZD (wst_ext (SF.se (st:=true) (Jl (yw (K':=K) (SC.sn (sqT (za 5)))) (fun _ _ _ _=>ZU) (fun _ _ _ _=>yZ) (fun _ _ _ _=>(Zu (ze (za 7) (ze (za 1) (ze (Zu (ze Zy zk)) zk)))))))))))) (zZ (yk (j:=6) nd rfl (Or.inl rfl) (SE.we (za 1))) (zZ (yk (j:=1) nd rfl (Or.inr rfl) (we_hix (K':=K) (st:=true) zg)) (zZ (wst_hset (we_op (st:=true) Zn Zd (we_hix (K':=K) (st:=true) zg) (SE.we zg)) zg) (ZD (jc (SB.wb (zU ZV Zc (zE (K':=K) (st:=false) (sqF (za 4)) zg) Zy (zH _))) (zZ (wst_app (SE.we (Zu (ze (za 6) (ze (za 1) (ze (Zu (ze Zy zk)) zk)))))) (ZD (wst_app (we_tup (st:=true) (zA (YZ (K':=K) G23 (hr.mono (by omega)) (wW (wW (wW wm))) (zA (SE.we (zE (K':=K) (st:=true) (sqF (za 4)) zg)) (zA (SE.we (za 1)) (zA (SE.we (za 2)) (zA (SE.we (za 3)) Z7))))) (zA (SE.we (za 1)) (zA (SE.we (Zu (ze Zy zk))) Z7))))))) (ZD (jc (SB.wb (zU op_ne JO (zE (K':=K) (st:=false) (sqF (za 4)) zg) Zy (zH _))) (ZD (wst_app (SE.we (Zu (ze (za 6) (ze (za 1) (ze (za 4) zk))))))) j5)))))))))))) (ZD (yH (SE.we (za 1)))))⟩ :)
theorem g'behind :A24 P w K mg base:=(jt P w base 35 ["_law_stand","_law_deed_here","_law_number"] ["_law_stand","_law_deed_here","_law_number"] bq24 T.F24 (by decide +kernel) fun nd=>fun _ _ _ _ _ _ _ hr=>⟨_,[],by
  unfold bq24
  exact (zi (yb (os':=[]) (zU ZV Zc (zE (K':=K) (st:=false) (sqF (za 1)) zg) Zy (zH _)) (zB (ZH (za 0))) Zs) (zi (yb (os':=[]) (zU ZV Zc (zE (K':=K) (st:=false) (sqF (za 1)) zg) Zy (zH _)) (zB (zN (os:=[]) (os':=[]) (i:=2) nd rfl (Or.inr rfl) (WQ (K':=K) (st:=true) rfl (by rfl) (by exact T.z_sum) (SF.seq (Jl (yl (by rfl) (by exact T.z_range) (yq (K':=K) (st:=false) (by rfl) (by exact T.z_len) (sqF (za 0)))) (fun _ _ _ _=>ZU) (fun _ _ _ _=>yZ) (fun _ _ _ _=>(zy ye yc (zE (K':=K) (st:=true) (sqF (zE (K':=K) (st:=true) (sqF (za 1)) zg)) (za 3)) (zE (K':=K) (st:=true) (sqF (za 0)) (za 3))))))))) Zs) (zB (ZH (se_tuple (K':=K) (st:=false) (by rfl) (by exact T.z_tuple) (SF.seq (Jl (yl (by rfl) (by exact T.z_range) (yq (K':=K) (st:=false) (by rfl) (by exact T.z_len) (sqF (za 0)))) (fun _ _ _ _=>ZU) (fun _ _ _ _=>yZ) (fun _ _ _ _=>(se_if (zU op_ne JO (za 3) (zy Zn Zd (zE (K':=K) (st:=false) (sqF (za 1)) zg) zg) (zH _)) (zE (K':=K) (st:=true) (sqF (za 0)) (za 3)) (za 2))))))))))⟩ :)
theorem g'run (G18:A18 P w K mg base):A25 P w K mg base:=(jt P w base 37 ["_law_script","_law_at","_law_steps","_law_most","_law_moves","_law_place","_law_k","_law_cell_here","_law_some","_law_step","_law_number"] ["_law_script","_law_at","_law_steps","_law_most"] bq25 T.F25 (by decide +kernel) fun nd=>fun _ _ _ _ _ _ _ hr=>⟨_,[4],by
  unfold bq25
  exact (zi (YU (os:=[]) (os':=[4]) (i:=4) nd rfl (Or.inl rfl) (ZN zk)) (zi (zN (os:=[4]) (os':=[4]) (i:=5) nd rfl (Or.inr rfl) zg) (zi (Yu (os:=[4]) rfl (yl (by rfl) (by exact T.z_range) (za 3)) ZU (zi (zN (os:=[4]) (os':=[4]) (i:=7) nd rfl (Or.inl rfl) (zy (op_fdivP (hr.mono (by decide))) rok_divP (Zz (K':=K) G18 (hr.mono (by omega)) (ze (za 0) (ze (zy Zn Zd (za 1) (zy Zm Zb (za 6) zg)) zk))) (zy Zn Zd zg (zy ZM ZL (za 6) zg)))) (zi (ss_sT (os:=[4]) (os':=[4]) (i:=8) nd (yl (by rfl) (by exact T.z_range) (yq (K':=K) (st:=false) (by rfl) (by exact T.z_len) (sqT (za 2)))) (fun _ _ _ _=>ZU) (fun _ _ _ _=>(Wb (zU ZV Zc (zE (K':=K) (st:=false) (sqF (Zv (K':=K) (st:=true) (sqT (za 2)) (za 11))) zg) (za 5) (zH _)))) (fun _ _ _ _=>(za 11))) (zB (yb (os':=[4]) (zU (op_neD (K':=K) hr) Wg (za 8) (SF.se (st:=false) (ZN zk)) (zH _)) (zi (zN (os:=[4]) (os':=[4]) (i:=9) nd rfl (Or.inl rfl) (Zv (K':=K) (st:=true) (sqT (za 8)) (zy Zm Zb (zy Zn Zd (za 7) (zy ye yc (za 6) (za 6))) (yq (K':=K) (st:=true) (by rfl) (by exact T.z_len) (sqT (za 8)))))) (zi (zN (os:=[4]) (os':=[4]) (i:=10) nd rfl (Or.inl rfl) YV) (zi (yb (os':=[4]) (zU ZV Zc (zE (K':=K) (st:=false) (sqF (zE (K':=K) (st:=true) (sqF (Zv (K':=K) (st:=true) (sqT (za 2)) (za 9))) zg)) zg) Zy (zH _)) (zB (zN (os:=[4]) (os':=[4]) (i:=10) nd rfl (Or.inl rfl) (Zv (K':=K) (st:=true) (SF.seq (ZN (ze zg (ze zg (ze (zy jk Yk (zy Zm Zb (zy ZM ZL (za 7) zg) zg) zg) (ze (zy jk Yk (zy Zm Zb (zy ZM ZL (za 7) zg) zg) zg) zk)))))) (zy Zm Zb (zy ZM ZL (za 7) zg) zg)))) Zs) (zi (yU (os:=[4]) (i:=4) (Zu (ze (za 9) (ze (za 10) zk)))) (zB (zN (os:=[4]) (os':=[4]) (i:=5) nd rfl (Or.inr rfl) (zE (K':=K) (st:=true) (sqF (Zv (K':=K) (st:=true) (sqT (za 2)) (za 9))) zg))))))) Zs))))) (zB (ZH (JN 4))))))⟩ :)
theorem g'walked (G24:A24 P w K mg base):A26 P w K mg base:=(jt P w base 37 ["_law_many","_law_steps","_law_moves","_law_place","_law_stand","_law_rows","_law_step","_law_number"] ["_law_many","_law_steps","_law_moves"] bq26 T.F26 (by decide +kernel) fun nd=>fun _ _ _ _ _ _ _ hr=>⟨_,[5],by
  unfold bq26
  exact (zi (zN (os:=[]) (os':=[]) (i:=3) nd rfl (Or.inl rfl) zg) (zi (zN (os:=[]) (os':=[]) (i:=4) nd rfl (Or.inl rfl) (We (K':=K) (st:=true) (Zu (ze zg zk)) (se_repZ (K':=K) (st:=true) (Zu (ze zg zk)) (za 0)))) (zi (YU (os:=[]) (os':=[5]) (i:=5) nd rfl (Or.inl rfl) (ZN (ze (Zu (ze (za 3) (ze (za 4) zk))) zk))) (zi (Yu (os:=[5]) rfl (yw (K':=K) (SE.sn (k:=true) (za 2))) (sg_tup (K':=K) rfl (Y4 ZU (Y4 ZU sgs_nil))) (zi (zN (os:=[5]) (os':=[5]) (i:=4) nd rfl (Or.inl rfl) (Zz (K':=K) G24 (hr.mono (by omega)) (ze (za 4) (ze (zE (K':=K) (st:=true) (sqF (Zv (K':=K) (st:=true) (sqT (za 1)) (za 6))) zg) (ze (za 7) zk))))) (zi (zN (os:=[5]) (os':=[5]) (i:=3) nd rfl (Or.inl rfl) (zE (K':=K) (st:=true) (sqF (Zv (K':=K) (st:=true) (sqT (za 1)) (za 6))) zg)) (zB (yU (os:=[5]) (i:=5) (Zu (ze (za 3) (ze (za 4) zk)))))))) (zB (ZH (JN 5)))))))⟩ :)
theorem g'bent :A27 P w K mg base:=(jt P w base 35 ["_law_steps","_law_place","_law_cell_here","_law_some","_law_others","_law_k"] ["_law_steps","_law_place","_law_cell_here"] bq27 T.F27 (by decide +kernel) fun nd=>fun _ _ _ _ _ _ _ hr=>⟨_,[3],by
  unfold bq27
  exact (zi (YU (os:=[]) (os':=[3]) (i:=3) nd rfl (Or.inl rfl) (ZN (ze (Zu (ze (zy jk Yk (zy jk Yk zg zg) (zy Zm Zb (zy ZM ZL (za 2) zg) zg)) (ze YV zk))) (ze (Zu (ze (zy Zn Zd (yq (K':=K) (st:=true) (by rfl) (by exact T.z_len) (sqT (za 0))) (zy Zm Zb (zy ZM ZL (za 2) zg) zg)) (ze YV zk))) (ze (Zu (ze (zy Zn Zd (yq (K':=K) (st:=true) (by rfl) (by exact T.z_len) (sqT (za 0))) (zy Zm Zb (zy ZM ZL (za 2) zg) (zy op_pow rok_pow zg zg))) (ze zg zk))) zk))))) (zi (WH (os:=[3]) (os':=[3]) (i:=4) nd rfl rfl (s:=false) (own:=["_law_k"]) (N':=["_law_steps","_law_place","_law_cell_here","_law_some","_law_others","#5","_law_k"]) (k:=1) (Jc (by kernel_rfl)) rfl (yl (by rfl) (by exact T.z_range) (yq (K':=K) (st:=false) (by rfl) (by exact T.z_len) (sqT (za 0)))) (fun _ _ _ _=>ZU) (fun _ _ _ _=>(Wb (zU op_ne JO (zE (K':=K) (st:=false) (sqF (Zv (K':=K) (st:=true) (sqT (za 0)) (za 6))) zg) (za 1) (zH _)))) (fun _ _ _ _=>(za 6))) (zi (Yu (os:=[3]) rfl (yw (K':=K) (SE.sn (k:=true) (SF.se (st:=true) (YK (K':=K) (SF.seq (YK (K':=K) (sqT (za 4)) (yu (zy Zm Zb (zy ZM ZL (za 2) zg) zg)) yv)) yv (yu zg))))) ZU (zB (yU (os:=[3]) (i:=3) (Zu (ze (za 5) (ze (Zv (K':=K) (st:=true) (SF.seq (ZN (ze YV (ze zg zk)))) (j7 Je JZ (by rfl) (by exact T.z_int) PyProof.Rows.boot_int (ze (SE.flat (Yv ZV Zc (zE (K':=K) (st:=false) (sqF (zE (K':=K) (st:=true) (sqF (Zv (K':=K) (st:=true) (sqT (za 0)) (za 5))) zg)) zg) Zy (zH _))) zk))) zk)))))) (zi (Yu (os:=[3]) rfl (yl (by rfl) (by exact T.z_range) (yq (K':=K) (st:=false) (by rfl) (by exact T.z_len) (sqT (za 0)))) ZU (zB (yb (os':=[3]) (zU ZV Zc (zE (K':=K) (st:=false) (sqF (Zv (K':=K) (st:=true) (sqT (za 0)) (za 5))) zg) (za 1) (zH _)) (zB (YU (os:=[3]) (os':=[3]) (i:=3) nd rfl (Or.inl rfl) (WN (sl_own 3) (SF.sl (sf_rep (ZN (ze (Zu (ze (za 5) (ze (Zv (K':=K) (st:=true) (SF.seq (ZN (ze zg (ze YV zk)))) (j7 Je JZ (by rfl) (by exact T.z_int) PyProof.Rows.boot_int (ze (SE.flat (Yv ZV Zc (zE (K':=K) (st:=false) (sqF (zE (K':=K) (st:=true) (sqF (Zv (K':=K) (st:=true) (sqT (za 0)) (za 5))) zg)) zg) Zy (zH _))) zk))) zk))) zk)) zg))))) Zs))) (zB (ZH (Zv (K':=K) (st:=false) (je 3) (zy Zm Zb (zy ZM ZL (za 2) zg) (yq (K':=K) (st:=true) (by rfl) (by exact T.z_len) (je 3))))))))))⟩ :)
abbrev mS1:Ev->Option Out:=Zi 2 (fIx (zh false (fA mq4 (zf (zb 0) zr))) (fC (.int 1)))
abbrev mS2:Ev->Option Out:=Zi 3 (fA mq16 (zf (zb 2) (zf (zb 1) zr)))
theorem g_ranX (G4:A4 P w K mg base) (G16:A16 P w K mg base) (G13:A13 P w K mg base) (G15:A15 P w K mg base) {C1:Kc} (hm:mg "NoRun"=some (.ref C1)) (hx:PySem.W.excIn K C1 [.type "ValueError",.type "Exception",.type "BaseException",.type "object"] "ValueError.__new__"=true) {f:Kc} {fd:Kh} (F:Fun K "ran" "ran" (top 29) f fd) :
  FnOk P w K mg base (CXn P w) 166 f fd ["program","moves"] (spX K C1 2 6 mS1 mS2 (zI (f2 dIsN (zb 3) (fC .non)))):=by
 have P_laid:=Kn.told G4
 have nd:(["program","moves","steps","places","stands","move"]:List Kw).Nodup:=by decide +kernel
 refine fn_raises (k:=165) (N:=["program","moves","steps","places","stands","move"]) F fsc "these moves are no run of the program" fun cdv A outer s H E hr=>?body
 case body =>
  exact raises_mk (os4:=[4]) (zN (os:=[]) (os':=[]) (i:=2) nd rfl (Or.inl rfl) (zE (K':=K) (st:=true) (sqF (Zz (K':=K) P_laid (hr.mono (by omega)) (ze (za 0) zk))) zg))
   (zN (os:=[]) (os':=[]) (i:=3) nd rfl (Or.inl rfl) (Zz (K':=K) G16 (hr.mono (by omega)) (ze (za 2) (ze (za 1) zk))))
   (zU op_isN rok_isN (za 3) YV (zH _))
   (ps_raise (x:="NoRun") (C:=C1) (fun X=>own_in X hm hx) PySem.F.excBase_ValueError rfl (zC J7 zY) rfl fun KK σ H' s' h' ea us I hE hM=>raise_flies I hE hM)
   (zi (YU (os:=[]) (os':=[4]) (i:=4) nd rfl (Or.inl rfl) (ZN (ze (Zz (K':=K) G13 (hr.mono (by omega)) (ze (za 0) zk)) zk))) (zi (Yu (os:=[4]) rfl (yw (K':=K) (SE.sn (k:=true) (za 1))) (ZU (i:=5)) (zB (yU (os:=[4]) (i:=4) (Zz (K':=K) G15 (hr.mono (by omega)) (ze (zE (K':=K) (st:=true) (sqF (Zv (K':=K) (st:=true) (sqT (za 2)) (zE (K':=K) (st:=true) (sqF (za 5)) zg))) zg) (ze (zE (K':=K) (st:=true) (sqF (za 5)) zg) (ze (Zv (K':=K) (st:=true) (je 4) (WP Yr jd zg)) zk))))))) (zB (ss_retF (WK (K':=K) hr (by rfl) (by exact T.z_list) (by rfl) (by exact T.z_zip) (SC.sn (sqT (za 3))) (SC.sn (je 4)))))))
theorem rf_read {ds:List D} {d:D} (h:mq28 ds=some d):d=.bl true/\∃ p mv ρ1 ρ2,ds=[p,mv]/\mS1 (zM 6 ds)=some (.nx ρ1)/\mS2 ρ1=some (.nx ρ2)/\zI (f2 dIsN (zb 3) (fC .non)) ρ2=some true:=by
 unfold mq28 at h
 match ds,h with
 | [p,mv],h =>
  obtain ⟨r,h1,h⟩:=zd h
  obtain ⟨rs,h2,h⟩:=zd h
  obtain ⟨st,h3,h⟩:=zd h
  obtain ⟨dd,h4,h⟩:=zd h
  split at h
  case isFalse=>cases h
  rename_i hn
  cases h
  have e1:mS1 (zM 6 [p,mv])=some (.nx ((zM 6 [p,mv]).set 2 (some st))):=by
   have z:fIx (zh false (fA mq4 (zf (zb 0) zr))) (fC (.int 1)) (zM 6 [p,mv])=some st:=zV (k:=1) (by
    show (fA mq4 (zf (zb 0) zr) (zM 6 [p,mv])).bind (asK false)=some rs
    rw [fA1 (x:=p) rfl h1];exact h2) rfl (zw h3)
   show Option.map _ (fIx _ _ _)=_
   rw [z];rfl
  have e2:mS2 ((zM 6 [p,mv]).set 2 (some st))=some (.nx (((zM 6 [p,mv]).set 2 (some st)).set 3 (some dd))):=by
   show Option.map _ (fA _ _ _)=_
   rw [fA2 (x:=st) (y:=mv) rfl rfl h4];rfl
  refine ⟨rfl,p,mv,_,_,rfl,e1,e2,?_⟩
  exact z6 (f2v (x:=dd) (y:=.non) rfl rfl (by simp [dIsN,yN] at hn ⊢;exact hn))
theorem g'refused (G4:A4 P w K mg base) (G16:A16 P w K mg base) (G13:A13 P w K mg base) (G15:A15 P w K mg base):Kn P w K mg base "_law_refused" 168 ["_law_program_here","_law_moves"] (spM K mq28):=by
 obtain ⟨C1,CB,a1,a2,a3,a4,a5,a6,a7,a8,R⟩:=T.rf
 obtain ⟨f,fd,F,hm⟩:=T.F28
 obtain ⟨fr,dr,Fr,hmr⟩:=T.F12
 have GX:=g_ranX T G4 G16 G13 G15 R.nr R.ex Fr
 have nd:(["_law_program_here","_law_moves","_law_caught","error"]:List Kw).Nodup:=by decide +kernel
 refine ⟨f,fd,F.ok (k:=167) (N:=["_law_program_here","_law_moves","_law_caught","error"]) fsc (fun vs H Q E h=>?_) (fun cdv A outer s H vs Q E hr h=>?_),hm,F.kp,F.binds bd1⟩
 ·obtain ⟨B,ds,d,hB,r,q,_⟩:=h
  obtain ⟨_,p,mv,_,_,rfl,_⟩:=rf_read T q
  rw [r.length];rfl
 obtain ⟨B,ds,d,hB,r,q,kk⟩:=h
 obtain ⟨rfl,p,mv,ρ1,ρ2,rfl,q1,q2,q3⟩:=rf_read T q
 refine ⟨_,Zf (yV (i:=2) nd rfl (Or.inl rfl) pe_non) (Zf (ps_tryAs (i:=2) (j:=3) GX (hr.mono (by omega)) rfl hmr Fr.kp Fr.bnd (zC (pv 0) (zC (pv 1) zY)) rfl R.ne rfl rfl rfl nd rfl rfl (by decide) rfl rfl)
  (Zf (wA (PW.pt (pw_or (pt_not (pt_val (Yd gu rfl T.z_isinstance PyProof.Rows.boot_isinstance (zC (pv 2) (zC (Yb (v:=.ref C1) rfl R.nr rfl) zY))))) (pw_or1 (pt_not (pt_val (Yd gu rfl T.z_isinstance PyProof.Rows.boot_isinstance (zC (pv 2) (zC (pe_bltn (v:=.ty "ValueError") rfl R.vz (by kernel_rfl) rfl) zY)))))))) (Z8 (YX pe_bl)) jh)
  (Z8 (YX (pe_not (Yd gu rfl T.z_isinstance PyProof.Rows.boot_isinstance (zC (pv 2) (zC (jO (zC (Yb (v:=.ref a1) rfl R.n1 rfl) (zC (Yb (v:=.ref a2) rfl R.n2 rfl) (zC (Yb (v:=.ref a3) rfl R.n3 rfl) (zC (Yb (v:=.ref a4) rfl R.n4 rfl) (zC (Yb (v:=.ref a5) rfl R.n5 rfl) (zC (Yb (v:=.ref a6) rfl R.n6 rfl) (zC (Yb (v:=.ref a7) rfl R.n7 rfl) (zC (Yb (v:=.ref a8) rfl R.n8 rfl) zY))))))))) zY)))))))),?_⟩
 obtain ⟨v1,v2,rfl⟩:∃ v1 v2,vs=[v1,v2]:=by
  have hl:=r.length
  match vs,hl with
  | [v1,v2],_=>exact ⟨v1,v2,rfl⟩
 refine ⟨v1,rfl,v2,rfl,B,[p,mv],ρ1,ρ2,hB,r,rfl,q1,q2,q3,fun H' sm=>⟨C1,rfl,R.em,fun ea hn=>?_⟩⟩
 refine ⟨.ref ea,rfl,ea,C1,true,R.xc,zu,.inl ⟨.ref C1,rfl,rfl,R.k1⟩,true,rfl,?_⟩
 show ite ((!true)=true) _ _;rw [KS (by decide)]
 refine ⟨.ref ea,rfl,ea,C1,true,R.xc,zu,.inl ⟨.ty "ValueError",rfl,rfl,R.k2⟩,true,rfl,?_⟩
 show ite ((!true)=true) _ _;rw [KS (by decide)]
 refine ⟨.ref ea,rfl,by show 8<=Kg;decide,fun tp ht=>⟨ea,C1,false,R.xc,?_,.inr ⟨tp,_,rfl,SqT.of zu,?_,R.k8⟩,false,rfl,?_⟩⟩
 ·rw [zv (fun z=>by rw [<- z,zu] at ht;cases ht)];exact zu
 ·intro c hc
  simp only [Qc,Qn,or_false] at hc
  rcases hc with rfl | rfl | rfl | rfl | rfl | rfl | rfl | rfl <;> rfl
 ·exact kk _ _ (zQ.trans sm (zQ.trans (zx hn) (zx ht))) (by simp [Rep])
theorem g_law (G18:A18 P w K mg base) (G22:A22 P w K mg base) (G23:A23 P w K mg base) (G25:A25 P w K mg base) (G26:A26 P w K mg base) (G27:A27 P w K mg base) (G11:A11 P w K mg base) (G28:A28 P w K mg base) (G12:A12 P w K mg base) {f:Kc} {fd:Kh} (F:Fun K "law" "law" (top 47) f fd):FnOk P w K mg base CX0 170 f fd ["_law_script"] (spM K mq29):=(fn_kX P w base 169 ["_law_script","_law_many","_law_program_here","_law_made","_law_steps","_law_moves","_law_due","_law_k","_law_cell_here","_law_at","_law_bent_here","_law_handed"] ["_law_script"] bq29 F (by decide +kernel) fun nd=>fun _ _ _ _ _ _ _ hr=>⟨_,[3],by
  unfold bq29
  have P_ran:=Kn.plain G12
  exact (zi (zN (os:=[]) (os':=[]) (i:=1) nd rfl (Or.inl rfl) (zy Zm Zb (Zz (K':=K) G18 (hr.mono (by omega)) (ze (za 0) (ze zg zk))) zg)) (zi (zN (os:=[]) (os':=[]) (i:=2) nd rfl (Or.inl rfl) (Zz (K':=K) G22 (hr.mono (by omega)) (ze (za 0) (ze zg (ze (za 1) (ze zg zk)))))) (zi (YU (os:=[]) (os':=[3]) (i:=3) nd rfl (Or.inl rfl) (ZN (ze zg zk))) (zi (ss_lend (os:=[3]) (os1:=[]) (ol1:=[]) (j:=3) (YY (YZ (K':=K) G23 (hr.mono (by omega)) (wW (wW (wW wm))) (zA (SE.we (Zv (K':=K) (st:=true) (sqT (zE (K':=K) (st:=true) (sqF (za 2)) zg)) zg)) (zA (SE.we zg) (zA (SE.we (zE (K':=K) (st:=true) (sqF (za 2)) zg)) (zA (SE.we (za 3)) Z7))))))) (zi (zN (os:=[3]) (os':=[3]) (i:=4) nd rfl (Or.inl rfl) (SF.se (st:=true) (YK (K':=K) (je 3) (yu zg) yv))) (zi (zN (os:=[3]) (os':=[3]) (i:=5) nd rfl (Or.inl rfl) (Zz (K':=K) G25 (hr.mono (by omega)) (ze (za 0) (ze zg (ze (za 4) (ze (zy Zm Zb (Zz (K':=K) G18 (hr.mono (by omega)) (ze (za 0) (ze zg zk))) zg) zk)))))) (zi (zN (os:=[3]) (os':=[3]) (i:=6) nd rfl (Or.inl rfl) (Zz (K':=K) G26 (hr.mono (by omega)) (ze (za 1) (ze (za 4) (ze (za 5) zk))))) (zi (Yu (os:=[3]) rfl (yl (by rfl) (by exact T.z_range) zg) ZU (zi (zN (os:=[3]) (os':=[3]) (i:=8) nd rfl (Or.inl rfl) (Zz (K':=K) G18 (hr.mono (by omega)) (ze (za 0) (ze (zy Zn Zd zg (za 7)) zk)))) (zi (zN (os:=[3]) (os':=[3]) (i:=9) nd rfl (Or.inl rfl) (zy Zm Zb (za 8) (zy Zn Zd (yq (K':=K) (st:=true) (by rfl) (by exact T.z_len) (sqT (za 5))) zg))) (zi (zN (os:=[3]) (os':=[3]) (i:=10) nd rfl (Or.inl rfl) (SF.se (st:=true) (WN (SF.sl (WN (SF.sl (YK (K':=K) (sqT (za 5)) yv (yu (za 9)))) (SF.sl (ZN (ze (Zz (K':=K) G27 (hr.mono (by omega)) (ze (za 4) (ze (zE (K':=K) (st:=true) (sqF (Zv (K':=K) (st:=true) (sqT (za 6)) (za 9))) zg) (ze (zy ZM ZL (za 8) zg) zk)))) zk))))) (SF.sl (YK (K':=K) (sqT (za 5)) (yu (zy Zn Zd (za 9) (zy Zm Zb (zy ZM ZL (za 8) zg) zg))) yv))))) (zi (zN (os:=[3]) (os':=[3]) (i:=11) nd rfl (Or.inl rfl) (SF.se (st:=true) (sf_list (K':=K) (by rfl) (by exact T.z_list) (sqT (za 10))))) (zi (yb (os':=[3]) (SW.sb (sw_or (zU op_notB rok_notB (Zz (K':=K) G11 (hr.mono (by omega)) (ze (za 2) (ze (za 11) zk))) se_bl (zH _)) (sw_or (sb_not (sb_val (Zz (K':=K) G28 (hr.mono (by omega)) (ze (za 2) (ze (za 11) zk))))) (sw_or1 (zU (op_neD (K':=K) hr) Wg (za 11) (za 10) (zH _)))))) (zB (ZH se_bl)) Zs) (zB (yb (os':=[3]) (SW.sb (sw_or (zU op_notB rok_notB (Zz (K':=K) G11 (hr.mono (by omega)) (ze (za 2) (ze (SF.se (st:=false) (YK (K':=K) (sqT (za 5)) yv (yu (za 9)))) zk))) se_bl (zH _)) (sw_or1 (zU (op_neD (K':=K) hr) Wg (Zz (K':=K) P_ran (hr.mono (by omega)) (ze (za 2) (ze (SF.se (st:=false) (YK (K':=K) (sqT (za 5)) yv (yu (za 9)))) zk))) (SF.se (st:=false) (YK (K':=K) (sqT (za 6)) yv (yu (zy Zn Zd (za 9) zg)))) (zH _))))) (zB (ZH se_bl)) Zs)))))))) (zB (ZH (se_and (Yv op_isB rok_isB (Zz (K':=K) G11 (hr.mono (by omega)) (ze (za 2) (ze (SF.se (st:=false) (sf_list (K':=K) (by rfl) (by exact T.z_list) (sqT (za 5)))) zk))) se_bl (zH _)) (se_one (Yv (op_eqD (K':=K) hr) rok_eqD (Zz (K':=K) P_ran (hr.mono (by omega)) (ze (za 2) (ze (SF.se (st:=false) (sf_list (K':=K) (by rfl) (by exact T.z_list) (sqT (za 5)))) zk))) (za 6) (zH _))))))))))))))⟩ :)
theorem all_ok {f:Kc} {fd:Kh} (F:Fun K "law" "law" (top 47) f fd):FnOk P w K mg base CX0 170 f fd ["_law_script"] (spM K mq29):=by
 have G0:=g_worth (P:=P) (w:=w) (base:=base) T
 have G1:=g_lists_in (P:=P) (w:=w) (base:=base) T
 obtain ⟨G2,G3⟩:=g_new_places (P:=P) (w:=w) (base:=base) T G1 60
 have G5:=Jz (P:=P) (w:=w) (base:=base) T G2
 have G30:=g___init__ (P:=P) (w:=w) (base:=base) T G5
 have G31:=g_new_place (P:=P) (w:=w) (base:=base) T
 have G32:=g_add_step (P:=P) (w:=w) (base:=base) T
 obtain ⟨G6,G7,G8,G9,G10⟩:=g_lay_rows (P:=P) (w:=w) (base:=base) T G31 G32 60
 have G4:=g_laid (P:=P) (w:=w) (base:=base) T G30 G6
 have G14:=g_takes (P:=P) (w:=w) (base:=base) T
 have G17:=g_goes_on (P:=P) (w:=w) (base:=base) T G14
 have G16:=ge (P:=P) (w:=w) (base:=base) T G17
 have G11:=g_is_run (P:=P) (w:=w) (base:=base) T G16 G4
 have G13:=g_first_stand (P:=P) (w:=w) (base:=base) T
 have G15:=gc (P:=P) (w:=w) (base:=base) T G14 G0
 have G12:=g_ran (P:=P) (w:=w) (base:=base) T G4 G16 G13 G15
 have G18:=g'cell (P:=P) (w:=w) (base:=base) T
 have G19:=g'line (P:=P) (w:=w) (base:=base) T
 have G20:=g'deed (P:=P) (w:=w) (base:=base) T G19
 have G21:=g'body (P:=P) (w:=w) (base:=base) T G20
 have G22:=g'program (P:=P) (w:=w) (base:=base) T G18 G21
 have G23:=g'lay (P:=P) (w:=w) (base:=base) T  60
 have G24:=g'behind (P:=P) (w:=w) (base:=base) T
 have G25:=g'run (P:=P) (w:=w) (base:=base) T G18
 have G26:=g'walked (P:=P) (w:=w) (base:=base) T G24
 have G27:=g'bent (P:=P) (w:=w) (base:=base) T
 have G28:=g'refused (P:=P) (w:=w) (base:=base) T G4 G16 G13 G15
 exact g_law T G18 G22 G23 G25 G26 G27 G11 G28 G12 F
end
end EV
namespace M
open PySem PySem.Spec L2
section
variable {ρ ρ1 ρ2:Ev} {S S1 S2:List D} {d d1 d2:D} {F F':WF} {G:WL} {M1 M2:WM} {f:Ev->Option D}
theorem ZI {r:Option (Out×List D)} (h1:M1 ρ S=some (.nx ρ1,S1)) (h2:M2 ρ1 S1=r):yo M1 M2 ρ S=r:=by unfold yo;rw [h1];exact h2
theorem w9 (h1:M1 ρ S=some (.rt d,S1)):yo M1 M2 ρ S=some (.rt d,S1):=by unfold yo;rw [h1];rfl
theorem JI {c:Ev->List D->Option (Bool×List D)} {r:Option (Out×List D)} (h1:c ρ S=some (true,S1)) (h2:M1 ρ S1=r):wIf c M1 M2 ρ S=r:=by unfold wIf;rw [h1];exact h2
theorem Yp {c:Ev->List D->Option (Bool×List D)} {r:Option (Out×List D)} (h1:c ρ S=some (false,S1)) (h2:M2 ρ S1=r):wIf c M1 M2 ρ S=r:=by unfold wIf;rw [h1];exact h2
theorem wl_ {α:Type} {g:Ev->Option α} {x:α} (h:g ρ=some x):wL g ρ S=some (x,S):=by unfold wL;rw [h];rfl
theorem yI {j:Nat} (h:F ρ S=some (d,S1)):Y0 j F ρ S=some (.nx (ρ.set j (some d)),S1):=by unfold Y0;rw [h];rfl
theorem jw (h:F ρ S=some (d,S1)):Jr F ρ S=some (.rt d,S1):=by unfold Jr;rw [h];rfl
theorem J3 (h:F ρ S=some (d,S1)):jG F ρ S=some (.nx ρ,S1):=by unfold jG;rw [h];rfl
theorem yJ {i0:Nat} {m:List D->List D->Option (D×List D)} {ds:List D} {r:Option (D×List D)} (h:G ρ S=some (ds,S1)) (h2:m ds S1=r):yC i0 m G ρ S=r:=by unfold yC;rw [h];exact h2
theorem jF {i:Nat} {m:List D->List D->Option (D×List D)} {ds:List D} {r:Option (D×List D)} (h0:ρ[i]?.join=some d) (h:G ρ S=some (ds,S1)) (h2:m (d::ds) S1=r):Yq i m G ρ S=r:=by unfold Yq;rw [h0];simp only [oB];rw [h];exact h2
theorem zD {ds:List D} (h:F ρ S=some (d,S1)) (h2:G ρ S1=some (ds,S2)):zK F G ρ S=some (d::ds,S2):=by unfold zK;rw [h];simp only [oB];rw [h2];rfl
theorem yg:wL zr ρ S=some ([],S):=rfl
theorem wtup_ {ds:List D} (h:G ρ S=some (ds,S1)) (hl:ds.length<=Kg):wTup G ρ S=some (.tup ds,S1):=by
 unfold wTup;rw [h];simp only [oB];unfold JD;rw [KR hl];rfl
theorem wapp_ (h:F ρ S=some (d,S1)) (hl:S1.length<Kg):wApp F ρ S=some (.nx ρ,S1++[d]):=by unfold wApp;rw [h];simp only [oB];rw [KR hl]
theorem wext_ {es:List D} (h:f ρ=some (.lst es)) (hl:S.length+es.length<=Kg):wExt f ρ S=some (.nx ρ,S++es):=by unfold wExt;rw [h];simp only [oB,asL];rw [KR hl]
theorem wix_ {k:Int} (h:f ρ=some (.int k)) (h2:atI S k=some d):wIx f ρ S=some (d,S):=by unfold wIx;rw [h];simp only [oB,asI];rw [h2];rfl
theorem wsetix_ {k:Int} {j:Nat} (h:F ρ S=some (d,S1)) (h2:f ρ=some (.int k)) (h3:ixN S1.length k=some j):J4 F f ρ S=some (.nx ρ,S1.set j d):=by
 unfold J4;rw [h];simp only [oB];rw [h2];simp only [oB,asI];rw [h3];rfl
theorem w2_ {g:D->D->Option D} (h:F ρ S=some (d1,S1)) (h2:F' ρ S1=some (d2,S2)) (h3:g d1 d2=some d):w2 g F F' ρ S=some (d,S2):=by
 unfold w2;rw [h];simp only [oB];rw [h2];simp only [oB];rw [h3];rfl
theorem wtest_ {b:Bool} (h:F ρ S=some (.bl b,S1)):wTest F ρ S=some (b,S1):=by unfold wTest;rw [h];rfl
theorem wixl_ {ds:List D} {k:Int} (h:F ρ S=some (.lst ds,S1)) (h2:f ρ=some (.int k)) (h3:atI ds k=some d):wIxL F f ρ S=some (d,S1):=by
 unfold wIxL;rw [h];simp only [oB,asL];rw [h2];simp only [oB,asI];rw [h3];rfl
theorem wdget_ (h:F ρ S=some (d1,S1)) (h2:f ρ=some d2) (h3:gi d1 d2=some d):wDGet F f ρ S=some (d,S1):=by
 unfold wDGet;rw [h];simp only [oB];rw [h2];simp only [oB];rw [h3];rfl
theorem Ws {k n:Nat} {M:WM} {ds:List D} (hl:ds.length=k) (h:M (zM n ds) S=some (.rt d,S1)):YD k n M ds S=some (d,S1):=by unfold YD;rw [KR hl,h];rfl
theorem wdef_nx {k n:Nat} {M:WM} {ds:List D} (hl:ds.length=k) (h:M (zM n ds) S=some (.nx ρ1,S1)):YD k n M ds S=some (.non,S1):=by unfold YD;rw [KR hl,h];rfl
theorem wfor_ {fi:Ev->Option (List D)} {u:D->Ev->Option Ev} {ds:List D} {r:Option (Out×List D)} (h:fi ρ=some ds) (h2:forW u M1 ds ρ S=r):wFor fi u M1 ρ S=r:=by unfold wFor;rw [h];exact h2
theorem forW_ {α β:Type} (f:α->D) (step:β->α->β) (I:List α->β->Ev->List D->Prop) {u:D->Ev->Option Ev} :
  ∀ (rs:List α),(∀ r zX b ρ S,r::zX <:+ rs->I (r::zX) b ρ S->∃ ρ1 ρ2 S2,u (f r) ρ=some ρ1/\M1 ρ1 S=some (.nx ρ2,S2)/\I zX (step b r) ρ2 S2)->∀ b ρ S,I rs b ρ S->∃ ρ' S',forW u M1 (rs.map f) ρ S=some (.nx ρ',S')/\I [] (rs.foldl step b) ρ' S'
 | [],h,b,ρ,S,hI=>⟨ρ,S,rfl,hI⟩
 | r::rs,h,b,ρ,S,hI=>by
  obtain ⟨ρ1,ρ2,S2,h1,h2,h3⟩:=h r rs b ρ S (List.suffix_refl _) hI
  obtain ⟨ρ',S',h4,h5⟩:=forW_ f step I rs (fun x zX b ρ S hs hI=>h x zX b ρ S (hs.trans (List.suffix_cons _ _)) hI) _ _ _ h3
  refine ⟨ρ',S',?_,h5⟩
  rw [Qr,forW,h1]
  simp only [oB]
  rw [h2]
  exact h4
theorem wfor_fold {α β:Type} (f:α->D) (step:β->α->β) (I:List α->β->Ev->List D->Prop) {fi:Ev->Option (List D)} {u:D->Ev->Option Ev} {r:Option (Out×List D)} (rs:List α) (b:β) (h:fi ρ=some (rs.map f)) (h0:I rs b ρ S)
  (hs:∀ x zX b ρ S,x::zX <:+ rs->I (x::zX) b ρ S->∃ ρ1 ρ2 S2,u (f x) ρ=some ρ1/\M1 ρ1 S=some (.nx ρ2,S2)/\I zX (step b x) ρ2 S2) (hf:∀ ρ' S',I [] (rs.foldl step b) ρ' S'->M2 ρ' S'=r):yo (wFor fi u M1) M2 ρ S=r:=by
 obtain ⟨ρ',S',h1,h2⟩:=forW_ f step I rs hs b ρ S h0
 exact ZI (wfor_ h h1) (hf ρ' S' h2)
theorem wcomp_ {k:Nat} {fi:Ev->Option (List D)} {u:D->Ev->Option Ev} {ds es:List D} (h:fi ρ=some ds) (h2:JY u F ds (ρ++List.replicate k none) S=some (es,S1)) (hl:es.length<=Kg):wComp k fi u F ρ S=some (.lst es,S1):=by
 unfold wComp;rw [h];simp only [oB];rw [h2];simp only [oB];unfold Jg;rw [KR hl];rfl
theorem compW_nil {u:D->Ev->Option Ev}:JY u F [] ρ S=some ([],S):=rfl
theorem gs {u:D->Ev->Option Ev} {ds es:List D} (h:u d ρ=some ρ1) (h2:F ρ1 S=some (d1,S1)) (h3:JY u F ds ρ1 S1=some (es,S2)):JY u F (d::ds) ρ S=some (d1::es,S2):=by
 rw [JY,h];simp only [oB];rw [h2];simp only [oB];rw [h3];rfl
end
end M
namespace RW
open PySem PySem.Spec L2 M
def names:List Kw:=["set","take","skip","halt","either","loop","call"]
def Sc:D->Bool
 | .non=>true
 | .bl _=>true
 | .int i=>decide (i.natAbs<=10 ^ 50)
 | .str x=>names.contains x
 | _=>false
def Fi:Nat->D->Prop
 | 0,d=>Sc d=true
 | n+1,d=>Sc d=true\/∃ ds,(d=.tup ds\/d=.lst ds)/\∀ r∈ds,Fi n r
theorem Fi.sc {d:D} (h:Sc d=true):∀ n,Fi n d
 | 0=>h
 | n+1=>.inl h
theorem Fi.up:∀ {n:Nat} {d:D},Fi n d->Fi (n+1) d
 | 0,d,h=>.inl h
 | n+1,d,h=>by
  rcases h with h | ⟨ds,e,h⟩
  ·exact .inl h
  ·exact .inr ⟨ds,e,fun r hr=>(h r hr).up⟩
theorem Fi.mono {n m:Nat} {d:D} (h:Fi n d) (hm:n<=m):Fi m d:=by
  induction m with
  | zero => have e : n = 0 := by omega
            subst e;exact h
  | succ m ih =>
    by_cases e:n=m+1
    . subst e;exact h
    . exact (ih (by omega)).up
theorem Fi.int {i:Int} (h:i.natAbs<=10 ^ 50) (n:Nat):Fi n (.int i):=Fi.sc (d:=.int i) (KU h) n
theorem Fi.str {x:Kw} (h:names.contains x=true) (n:Nat):Fi n (.str x):=Fi.sc (d:=.str x) h n
theorem names_ok:names.all PyData.strOk=true:=by decide +kernel
theorem sc_lay {d:D} (h:Sc d=true):(ZZ d).canLay0=true/\(ZZ d).depth=0:=by
 cases d with
 | str x =>
  refine ⟨?_,by simp only [ZZ];rw [PyData.depth]⟩
  simp only [ZZ]
  rw [PyData.canLay0]
  exact List.all_eq_true.mp names_ok x (by simpa [Sc] using h)
 | non=>exact ⟨by simp only [ZZ];rw [PyData.canLay0],by simp only [ZZ];rw [PyData.depth]⟩
 | bl b=>exact ⟨by simp only [ZZ];rw [PyData.canLay0],by simp only [ZZ];rw [PyData.depth]⟩
 | int i=>exact ⟨by simp only [ZZ];rw [PyData.canLay0],by simp only [ZZ];rw [PyData.depth]⟩
 | _=>cases h
theorem YQ:∀ {ds:List D} {k:Nat},(∀ r∈ds,(ZZ r).canLay0=true/\(ZZ r).depth<=k)->PyData.canLayAll0 (yh ds)=true/\PyData.depthAll (yh ds)<=k
 | [],k,_=>⟨by rw [yh,PyData.canLayAll0],by rw [yh,PyData.depthAll];omega⟩
 | d::ds,k,h=>by
  obtain ⟨h1,h2⟩:=h d Qt
  obtain ⟨h3,h4⟩:=YQ fun r hr=>h r (Qe _ hr)
  rw [yh,PyData.canLayAll0,PyData.depthAll,h1,h3]
  exact ⟨rfl,by omega⟩
theorem Fi.lay:∀ {n:Nat} {d:D},Fi n d->(ZZ d).canLay0=true/\(ZZ d).depth<=n
 | 0,d,h=>⟨(sc_lay h).1,by rw [(sc_lay h).2];omega⟩
 | n+1,d,h=>by
  rcases h with h | ⟨ds,rfl | rfl,h⟩
  ·exact ⟨(sc_lay h).1,by rw [(sc_lay h).2];omega⟩
  ·obtain ⟨h1,h2⟩:=YQ fun r hr=>(h r hr).lay
   rw [ZZ,PyData.canLay0,PyData.depth]
   exact ⟨h1,by omega⟩
  ·obtain ⟨h1,h2⟩:=YQ fun r hr=>(h r hr).lay
   rw [ZZ,PyData.canLay0,PyData.depth]
   exact ⟨h1,by omega⟩
mutual
def wt:D->Nat
 | .tup ds=>wts ds
 | .lst ds=>wts ds
 | _=>8
def wts:List D->Nat
 | []=>0
 | d::ds=>wt d+1+wts ds
end
theorem JH:∀ a b:List D,wts (a++b)=wts a+wts b
 | [],b=>by rw [Pn,wts];omega
 | d::a,b=>by rw [Pw,wts,wts,JH a b];omega
def Py (n:Nat) (d:D):Prop:=(ZZ d).canLay0=true/\(ZZ d).depth<=n
theorem Fi.pyd {n:Nat} {d:D} (h:Fi n d):Py n d:=h.lay
theorem Py.mono {n m:Nat} {d:D} (h:Py n d) (hm:n<=m):Py m d:=⟨h.1,Qw h.2 hm⟩
theorem Py.int (i:Int) (n:Nat):Py n (.int i):=⟨by rw [ZZ,PyData.canLay0],by rw [ZZ,PyData.depth];omega⟩
theorem Py.tup {n:Nat} {ds:List D} (h:∀ r∈ds,Py n r):Py (n+1) (.tup ds):=by
 obtain ⟨h1,h2⟩:=YQ h
 unfold Py
 rw [ZZ,PyData.canLay0,PyData.depth]
 exact ⟨h1,by omega⟩
theorem Py.lst {n:Nat} {ds:List D} (h:∀ r∈ds,Py n r):Py (n+1) (.lst ds):=by
 obtain ⟨h1,h2⟩:=YQ h
 unfold Py
 rw [ZZ,PyData.canLay0,PyData.depth]
 exact ⟨h1,by omega⟩
theorem Py.eq {n:Nat} {d:D} (h:Py n d) (hn:n<=64):wY d d=some (.bl true):=by
 have hp:Y5 d=true:=by
  unfold Y5 SeqAt.shaped
  rw [h.1,KU (Qw h.2 hn)];rfl
 unfold wY
 rw [KR ⟨hp,hp⟩,eqD_self hp]
end RW
namespace EV
open PySem PySem.Spec L2 M
variable {mm:Nat}
inductive Rq where
 | one (x:Kw) (ps:List D) | call (k:Nat) | loop (rs:List Rq) | either (a b:List Rq)
mutual
def Rq.toD:Rq->D
 | .one x ps=>.tup (.str x::ps)
 | .call k=>.tup [.str "call",.int (k:Nat)]
 | .loop rs=>.tup [.str "loop",.lst (qDs rs)]
 | .either a b=>.tup [.str "either",.lst (qDs a),.lst (qDs b)]
def qDs:List Rq->List D
 | []=>[]
 | r::rs=>r.toD::qDs rs
end
theorem Wi:∀ rs:List Rq,qDs rs=rs.map Rq.toD
 | []=>by simp [qDs]
 | r::rs=>by simp [qDs,Wi rs]
def Lf:D->Bool
 | .int _=>true
 | .tup _=>true
 | _=>false
def Dk (mm:Nat) (x:Kw) (ps:List D):Prop:=(x="skip"/\ps=[])\/(x="halt"/\ps=[])\/(∃ box:Nat,x="take"/\ps=[.int box]/\box<mm) \/
 ∃ (box:Nat) (ns:List Int),x="set"/\ps=[.int box,.tup (ns.map .int)]/\box<mm/\ns.length=mm+1/\∀ n∈ns,n.natAbs<=2000000
mutual
def Rq.ok (mm nb:Nat):Rq->Prop
 | .one x ps=>(x≠"call"/\x≠"loop"/\x≠"either")/\ps.length<=10/\(∀ p∈ps,Lf p=true)/\RW.Py 5 (.tup (.str x::ps))/\Dk mm x ps
 | .call k=>k<nb
 | .loop rs=>oks mm nb rs/\rs.length<=100
 | .either a b=>(oks mm nb a/\a.length<=100)/\oks mm nb b/\b.length<=100
def oks (mm nb:Nat):List Rq->Prop
 | []=>True
 | r::rs=>r.ok mm nb/\oks mm nb rs
end
mutual
def Rq.rk (g:Nat->Nat):Rq->Nat
 | .one _ _=>0
 | .call k=>g k+1
 | .loop rs=>rks g rs+1
 | .either a b=>max (rks g a) (rks g b)+1
def rks (g:Nat->Nat):List Rq->Nat
 | []=>0
 | r::rs=>max (r.rk g) (rks g rs)
end
mutual
def Rq.sz (G:Nat->Nat):Rq->Nat
 | .one _ _=>1
 | .call k=>G k
 | .loop rs=>2+szs G rs
 | .either a b=>2+(szs G a+szs G b)
def szs (G:Nat->Nat):List Rq->Nat
 | []=>0
 | r::rs=>r.sz G+szs G rs
end
abbrev Sx:=Int×List D
def skD:D:=.tup [.str "skip"]
def stp (p q:Int) (d:D):D:=.tup [.int p,.int q,d]
def Za (f:List Rq->Int->Sx->Int×Sx) (B:Nat->List Rq) (q:Int×Sx) (r:Rq):Int×Sx:=match r with
 | .call k=>f (B k) q.1 q.2
 | .either a b=>let x:=f a q.1 q.2;let y:=f b q.1 x.2;(y.2.1,(y.2.1+1,y.2.2++[stp x.1 y.2.1 skD,stp y.1 y.2.1 skD]))
 | .loop a=>let x:=f a q.2.1 (q.2.1+1,q.2.2++[stp q.1 q.2.1 skD]);(q.2.1,(x.2.1,x.2.2++[stp x.1 q.2.1 skD]))
 | .one x ps=>(q.2.1,(q.2.1+1,if x="halt" then q.2.2 else q.2.2++[stp q.1 q.2.1 (.tup (.str x::ps))]))
def lyS (B:Nat->List Rq):Nat->List Rq->Int->Sx->Int×Sx
 | 0=>fun _ p s=>(p,s)
 | m+1=>fun rs p s=>rs.foldl (Za (lyS B m) B) (p,s)
structure Bods (mm:Nat) (B:Nat->List Rq) (nb:Nat) (g G:Nat->Nat):Prop where
 ok:∀ k,k<nb->oks mm nb (B k)
 len:∀ k,k<nb->(B k).length<=100
 rk:∀ k,k<nb->rks g (B k)<=g k
 sz:∀ k,k<nb->szs G (B k)<=G k
def Z5 (B:Nat->List Rq) (nb:Nat):D:=.lst ((List.range nb).map fun k=>.lst (qDs (B k)))
theorem Wp {B:Nat->List Rq} {nb k:Nat} (h:k<nb):atI ((List.range nb).map fun k=>D.lst (qDs (B k))) (k:Int)=some (.lst (qDs (B k))):=zw (by simp [h])
theorem rks_mem {g:Nat->Nat}:∀ {rs:List Rq} {r:Rq},r∈rs->r.rk g<=rks g rs
 | x::rs,r,h=>by
  rw [rks]
  rcases Qc.mp h with rfl | h
  ·omega
  ·have:=rks_mem (g:=g) h;omega
theorem Wk {nb:Nat}:∀ {rs:List Rq} {r:Rq},oks mm nb rs->r∈rs->r.ok mm nb
 | x::rs,r,o,h=>by
  rw [oks] at o
  rcases Qc.mp h with rfl | h
  ·exact o.1
  ·exact Wk o.2 h
section
variable {B:Nat->List Rq} {nb:Nat} {g G:Nat->Nat}
theorem yW (hB:Bods mm B nb g G):∀ (m:Nat) (rs:List Rq) (p:Int) (s:Sx),oks mm nb rs->(lyS B m rs p s).2.2.length<=s.2.length+szs G rs
 | 0,rs,p,s,_=>by rw [lyS];exact Q7 _ _
 | m+1,rs,p,s,ho=>by
  rw [lyS]
  suffices h:∀ (rs:List Rq) (q:Int×Sx),oks mm nb rs->(rs.foldl (Za (lyS B m) B) q).2.2.length<=q.2.2.length+szs G rs from h rs (p,s) ho
  intro rs
  induction rs with
  | nil=>intro q _;simp [szs]
  | cons r rs ih =>
   intro q ho
   rw [oks] at ho
   rw [PY,szs]
   have h1:=ih (Za (lyS B m) B q r) ho.2
   have h2:(Za (lyS B m) B q r).2.2.length<=q.2.2.length+r.sz G:=by
    cases r with
    | one x ps =>
     simp only [Za,Rq.sz]
     split
     ·omega
     ·simp
    | call k =>
     simp only [Za,Rq.sz]
     have hk:k<nb:=by have:=ho.1;rwa [Rq.ok] at this
     have h3:=yW hB m (B k) q.1 q.2 (hB.ok k hk)
     have h4:=hB.sz k hk
     omega
    | loop a =>
     have o:=ho.1
     rw [Rq.ok] at o
     simp only [Za,Rq.sz]
     have h3:=yW hB m a q.2.1 (q.2.1+1,q.2.2++[stp q.1 q.2.1 skD]) o.1
     simp only [Qj,Qd,QB] at h3 ⊢
     omega
    | either a b =>
     have o:=ho.1
     rw [Rq.ok] at o
     simp only [Za,Rq.sz]
     have h3:=yW hB m a q.1 q.2 o.1.1
     have h4:=yW hB m b q.1 (lyS B m a q.1 q.2).2 o.2.1
     simp only [Qj,Qd,QB] at h3 h4 ⊢
     omega
   omega
end
theorem size8 {n:Nat} (h:n<=1000000):n<Kg:=Pa h (by decide)
theorem zJ {ρ:Ev} {i:Nat} {d:D} (h:ρ[i]?=some (some d)):zb i ρ=some d:=by unfold zb;rw [h];rfl
theorem eq_t {x:Kw}:ZE (.str x) (.str x)=some (.bl true):=by unfold ZE;rw [eqS,KU rfl];rfl
theorem eq_f {x y:Kw} (h:x≠y):ZE (.str x) (.str y)=some (.bl false):=by unfold ZE;rw [eqS,KW h];rfl
theorem ne_t {x y:Kw} (h:x≠y):Y9 (.str x) (.str y)=some (.bl true):=by unfold Y9;rw [eqS,KW h];rfl
theorem ne_f {x:Kw}:Y9 (.str x) (.str x)=some (.bl false):=by unfold Y9;rw [eqS,KU rfl];rfl
theorem jB {ρ:Ev} {i:Nat} {x:Kw} {ps:List D} (h:ρ[i]?=some (some (.tup (.str x::ps)))):fIx (zh false (zb i)) (fC (.int 0)) ρ=some (.str x):=zV (Zr (zJ h)) rfl (zw (j:=0) rfl)
theorem kis {ρ:Ev} {i:Nat} {x:Kw} {ps:List D} (h:ρ[i]?=some (some (.tup (.str x::ps)))):zI (f2 ZE (fIx (zh false (zb i)) (fC (.int 0))) (fC (.str x))) ρ=some true:=z6 (f2v (jB h) rfl eq_t)
theorem kno {ρ:Ev} {i:Nat} {x y:Kw} {ps:List D} (h:ρ[i]?=some (some (.tup (.str x::ps)))) (n:x≠y):zI (f2 ZE (fIx (zh false (zb i)) (fC (.int 0))) (fC (.str y))) ρ=some false:=z6 (f2v (jB h) rfl (eq_f n))
theorem skv {ρ:Ev}:ZC (zf (fC (.str "skip")) zr) ρ=some skD:=tup1_ rfl
theorem JK {ρ:Ev} {f f' f'':Ev->Option D} {d d' d'':D} (e:f ρ=some d) (e':f' ρ=some d') (e'':f'' ρ=some d''):ZC (zf f (zf f' (zf f'' zr))) ρ=some (.tup [d,d',d'']):=by
 rw [fTup_,Zo,e,oB,Zo,e',oB,Zo,e''];exact dTup_ (ZK (by simp))
theorem yY {a b:Int}:ZT (.int a) (.int b)=some (.int (a+b)):=rfl
abbrev evL (rs:D) (p:Int) (bs:D) (a:Kc) (x4 x5 x6:Option D):Ev:=[some rs,some (.int p),some bs,some (.adr a),x4,x5,x6]
section
variable {B:Nat->List Rq} {nb:Nat} {g G:Nat->Nat}
def LawAt (R:List D->List D->Option (D×List D)) (B:Nat->List Rq) (nb:Nat) (G:Nat->Nat) (m:Nat) (a:Kc) (x:List Rq):Prop:=∀ (p:Int) (s:Sx),s.2.length+szs G x<=900000->R [.lst (qDs x),.int p,Z5 B nb,.adr a] (.int s.1::s.2)=some (.int (lyS B m x p s).1,.int (lyS B m x p s).2.1::(lyS B m x p s).2.2)
theorem law_step (hB:Bods mm B nb g G) {n m:Nat} {a:Kc} (ih:∀ x,oks mm nb x->rks g x<m->LawAt (Rq23 n) B nb G m a x) (rs:List Rq) (ho:oks mm nb rs) (hr:rks g rs<m+1):LawAt (Rq23 (n+1)) B nb G (m+1) a rs:=by
 intro p s hl
 rw [Rq23]
 refine Ws rfl ?_
 unfold bq23
 refine wfor_fold Rq.toD (Za (lyS B m) B) (fun zX q ρ S=>∃ x4 x5 x6,ρ=evL (.lst (qDs rs)) q.1 (Z5 B nb) a x4 x5 x6/\S=.int q.2.1::q.2.2/\oks mm nb zX/\rks g zX<m+1/\q.2.2.length+szs G zX<=900000) rs (p,s) (by rw [<- Wi];exact ZP (zJ rfl)) ⟨none,none,none,rfl,rfl,ho,hr,hl⟩ ?_ ?_
 ·rintro r zX ⟨q,c,st⟩ ρ S _ ⟨x4,x5,x6,rfl,rfl,o,hk,hz⟩
  rw [oks] at o
  rw [rks] at hk
  rw [szs] at hz
  dsimp only at hz
  have fin:∀ {q':Int×Sx} {y4 y5 y6:Option D},q'.2.2.length<=st.length+r.sz G->∃ x4 x5 x6,evL (.lst (qDs rs)) q'.1 (Z5 B nb) a y4 y5 y6=evL (.lst (qDs rs)) q'.1 (Z5 B nb) a x4 x5 x6/\(D.int q'.2.1::q'.2.2)=.int q'.2.1::q'.2.2/\oks mm nb zX/\rks g zX<m+1/\q'.2.2.length+szs G zX<=900000:=fun h=>⟨_,_,_,rfl,rfl,o.2,by omega,by omega⟩
  cases r with
  | call k =>
   have hkn:k<nb:=by have:=o.1;rwa [Rq.ok] at this
   have hg:=hB.rk k hkn
   have hG:=hB.sz k hkn
   have hlen:=yW hB m (B k) q (c,st) (hB.ok k hkn)
   rw [Rq.rk] at hk
   rw [Rq.sz] at hz fin
   have key:=ih (B k) (hB.ok k hkn) (by omega) q (c,st) (by show st.length+_<=_;omega)
   refine ⟨_,evL (.lst (qDs rs)) (Za (lyS B m) B (q,c,st) (.call k)).1 (Z5 B nb) a (some (Rq.call k).toD) x5 x6,.int (Za (lyS B m) B (q,c,st) (.call k)).2.1::(Za (lyS B m) B (q,c,st) (.call k)).2.2,rfl,?_,fin (q':=Za (lyS B m) B (q,c,st) (.call k)) (by simp only [Za];dsimp only at hlen;omega)⟩
   rw [Rq.toD]
   exact JI (wl_ (kis rfl)) (yI (yJ (zD (wl_ (zV (ZP (zJ rfl)) (zV (Zr (zJ rfl)) rfl (zw (j:=1) rfl)) (Wp hkn))) (zD (wl_ (zJ rfl)) (zD (wl_ (zJ rfl)) (zD (wl_ (zJ rfl)) yg)))) key))
  | either x y =>
   have o1:=o.1
   rw [Rq.ok] at o1
   rw [Rq.rk] at hk
   rw [Rq.sz] at hz fin
   have l1:=yW hB m x q (c,st) o1.1.1
   have l2:=yW hB m y q (lyS B m x q (c,st)).2 o1.2.1
   have k1:=ih x o1.1.1 (by omega) q (c,st) (by show st.length+_<=_;omega)
   have k2:=ih y o1.2.1 (by omega) q (lyS B m x q (c,st)).2 (by dsimp only at l1;omega)
   refine ⟨_,evL (.lst (qDs rs)) (Za (lyS B m) B (q,c,st) (.either x y)).1 (Z5 B nb) a (some (Rq.either x y).toD) (some (.lst [.int (lyS B m x q (c,st)).1,.int (lyS B m y q (lyS B m x q (c,st)).2).1])) x6,.int (Za (lyS B m) B (q,c,st) (.either x y)).2.1::(Za (lyS B m) B (q,c,st) (.either x y)).2.2,rfl,?_,fin (q':=Za (lyS B m) B (q,c,st) (.either x y)) (by simp only [Za,Qj,Qd,QB];dsimp only at l1 l2;omega)⟩
   rw [Rq.toD]
   refine Yp (wl_ (kno rfl (by decide))) (JI (wl_ (kis rfl)) (ZI (yI (wcomp_ (es:=[.int (lyS B m x q (c,st)).1,.int (lyS B m y q (lyS B m x q (c,st)).2).1]) (Zr (cutFrom_ (k:=1) (Zr (zJ rfl)) rfl (by omega) (by simp))) (gs rfl (yJ (zD (wl_ (zJ rfl)) (zD (wl_ (zJ rfl)) (zD (wl_ (zJ rfl)) (zD (wl_ (zJ rfl)) yg)))) k1) (gs rfl (yJ (zD (wl_ (zJ rfl)) (zD (wl_ (zJ rfl)) (zD (wl_ (zJ rfl)) (zD (wl_ (zJ rfl)) yg)))) k2) compW_nil)) (ZK (by simp)))) ?_))
   refine ZI (yI (wix_ rfl (zw (j:=0) rfl))) (ZI (wsetix_ (w2_ (wix_ rfl (zw (j:=0) rfl)) (wl_ rfl) yY) rfl (ixN_nat (k:=0) (by simp))) ?_)
   refine (wext_ (es:=[stp (lyS B m x q (c,st)).1 (lyS B m y q (lyS B m x q (c,st)).2).2.1 skD,stp (lyS B m y q (lyS B m x q (c,st)).2).1 (lyS B m y q (lyS B m x q (c,st)).2).2.1 skD]) ?_ ?_).trans ?_
   ·rw [JB,ZP (zJ rfl),oB]
    simp only [yn,zR,YF,oB,if_true]
    rw [JK (zJ rfl) (zJ rfl) skv,oB,JK (zJ rfl) (zJ rfl) skv]
    rfl
   ·refine ZK ?_
    simp only [Qp,Qd,QB]
    dsimp only at l1 l2
    omega
   ·rfl
  | loop x =>
   have o1:=o.1
   rw [Rq.ok] at o1
   rw [Rq.rk] at hk
   rw [Rq.sz] at hz fin
   have l1:=yW hB m x c (c+1,st++[stp q c skD]) o1.1
   simp only [Qj,Qd,QB] at l1
   have k1:=ih x o1.1 (by omega) c (c+1,st++[stp q c skD]) (by simp only [Qj,Qd,QB];omega)
   refine ⟨_,evL (.lst (qDs rs)) (Za (lyS B m) B (q,c,st) (.loop x)).1 (Z5 B nb) a (some (Rq.loop x).toD) x5 (some (.int q)),.int (Za (lyS B m) B (q,c,st) (.loop x)).2.1::(Za (lyS B m) B (q,c,st) (.loop x)).2.2,rfl,?_,fin (q':=Za (lyS B m) B (q,c,st) (.loop x)) (by simp only [Za,Qj,Qd,QB];omega)⟩
   rw [Rq.toD]
   refine Yp (wl_ (kno rfl (by decide))) (Yp (wl_ (kno rfl (by decide))) (ZI (yI (wl_ (zJ rfl))) (ZI (yI (wix_ rfl (zw (j:=0) rfl))) (ZI (wsetix_ (w2_ (wix_ rfl (zw (j:=0) rfl)) (wl_ rfl) yY) rfl (ixN_nat (k:=0) (by simp))) (JI (wl_ (kis rfl)) ?_)))))
   refine ZI (wapp_ (wl_ (JK (zJ rfl) (zJ rfl) skv)) (YJ (by simp only [Qp,Qd];omega))) ?_
   exact wapp_ (wtup_ (zD (yJ (zD (wl_ (zV (Zr (zJ rfl)) rfl (zw (j:=1) rfl))) (zD (wl_ (zJ rfl)) (zD (wl_ (zJ rfl)) (zD (wl_ (zJ rfl)) yg)))) k1) (zD (wl_ (zJ rfl)) (zD (wl_ skv) yg))) (ZK (by simp))) (YJ (by simp only [Qd];omega))
  | one x ps =>
   have o1:=o.1
   rw [Rq.ok] at o1
   obtain ⟨⟨n1,n2,n3⟩,_,_⟩:=o1
   rw [Rq.sz] at hz fin
   refine ⟨_,evL (.lst (qDs rs)) (Za (lyS B m) B (q,c,st) (.one x ps)).1 (Z5 B nb) a (some (Rq.one x ps).toD) x5 (some (.int q)),.int (Za (lyS B m) B (q,c,st) (.one x ps)).2.1::(Za (lyS B m) B (q,c,st) (.one x ps)).2.2,rfl,?_,fin (q':=Za (lyS B m) B (q,c,st) (.one x ps)) (by simp only [Za];split <;> simp)⟩
   rw [Rq.toD]
   refine Yp (wl_ (kno rfl n1)) (Yp (wl_ (kno rfl n3)) (ZI (yI (wl_ (zJ rfl))) (ZI (yI (wix_ rfl (zw (j:=0) rfl))) (ZI (wsetix_ (w2_ (wix_ rfl (zw (j:=0) rfl)) (wl_ rfl) yY) rfl (ixN_nat (k:=0) (by simp))) (Yp (wl_ (kno rfl n2)) ?_)))))
   by_cases e:x="halt"
   ·refine Yp (wl_ (z6 (f2v (jB rfl) rfl ?_))) ?_
    ·rw [e];exact ne_f
    ·simp only [Za];rw [KR e];rfl
   ·refine JI (wl_ (z6 (f2v (jB rfl) rfl (ne_t e)))) ((wapp_ (wl_ (JK (zJ rfl) (zJ rfl) (zJ rfl))) (YJ (by simp only [Qp,Qd];omega))).trans ?_)
    simp only [Za]
    rw [KS e]
    rfl
 ·rintro ρ' S' ⟨x4,x5,x6,rfl,rfl,_,_,_⟩
  exact jw (wl_ (zJ rfl))
theorem law_all (hB:Bods mm B nb g G) {a:Kc}:∀ (m n:Nat),m<=n->∀ rs,oks mm nb rs->rks g rs<m->LawAt (Rq23 n) B nb G m a rs
 | 0,n,_,rs,_,h=>by omega
 | m+1,0,h,rs,_,_=>by omega
 | m+1,n+1,h,rs,ho,hr=>law_step hB (law_all hB m n (by omega)) rs ho hr
end
variable {mm:Nat}
theorem jo {a:Kc} {c:Int} {r:List D}:mq31 [.adr a] (.int c::r)=some (.int c,.int (c+1)::r):=by
 refine Ws rfl ?_
 unfold bq31
 refine ZI (S1:=.int (c+1)::r) rfl (jw (w2_ (d1:=.int (c+1)) (d2:=.int 1) rfl (wl_ rfl) ?_))
 show some (D.int (c+1 - 1))=some (.int c)
 rw [show c+1 - 1=c by omega]
theorem Yg {a:Kc} {p q:Int} {d:D} {S:List D} (h:S.length<=1000000):mq32 [.adr a,.int p,.int q,d] S=some (.non,S++[stp p q d]):=by
 refine wdef_nx rfl (ρ1:=zM 4 [.adr a,.int p,.int q,d]) ?_
 unfold bq32 wStep
 rw [JK (d:=.int p) (d':=.int q) (d'':=d) rfl rfl rfl]
 simp only [oB]
 rw [KR (YJ h)]
 rfl
theorem E_lay_rows (n:Nat):(Rq6 (n+1)).1=YD 3 5 (bq6 (Rq6 n).1 (Rq6 n).2.1 (Rq6 n).2.2.1 (Rq6 n).2.2.2.1 (Rq6 n).2.2.2.2):=by rw [Rq6]
theorem E_lay_row (n:Nat):(Rq6 (n+1)).2.1=YD 3 5 (bq7 (Rq6 n).1 (Rq6 n).2.1 (Rq6 n).2.2.1 (Rq6 n).2.2.2.1 (Rq6 n).2.2.2.2):=by rw [Rq6]
theorem E_lay_either (n:Nat):(Rq6 (n+1)).2.2.1=YD 3 6 (bq8 (Rq6 n).1 (Rq6 n).2.1 (Rq6 n).2.2.1 (Rq6 n).2.2.2.1 (Rq6 n).2.2.2.2):=by rw [Rq6]
theorem E_lay_loop (n:Nat):(Rq6 (n+1)).2.2.2.1=YD 3 4 (bq9 (Rq6 n).1 (Rq6 n).2.1 (Rq6 n).2.2.1 (Rq6 n).2.2.2.1 (Rq6 n).2.2.2.2):=by rw [Rq6]
theorem E_lay_call (n:Nat):(Rq6 (n+1)).2.2.2.2=YD 3 3 (bq10 (Rq6 n).1 (Rq6 n).2.1 (Rq6 n).2.2.1 (Rq6 n).2.2.2.1 (Rq6 n).2.2.2.2):=by rw [Rq6]
section
variable {B:Nat->List Rq} {nb:Nat} {g G:Nat->Nat} {N:Nat->Int} {l:D}
def LayAt (R:List D->List D->Option (D×List D)) (B:Nat->List Rq) (nb:Nat) (G:Nat->Nat) (l:D) (m:Nat) (a:Kc) (x:List Rq):Prop:=∀ (p:Int) (s:Sx),s.2.length+szs G x<=900000->R [.adr a,.lst (qDs x),.int p] (.int s.1::Z5 B nb::l::s.2)=some (.int (lyS B m x p s).1,.int (lyS B m x p s).2.1::Z5 B nb::l::(lyS B m x p s).2.2)
structure Lay (B:Nat->List Rq) (nb:Nat) (N:Nat->Int) (l:D):Prop where
 get:∀ k,k<nb->gi l (.int (k:Nat))=some (.int (N k))
 zero:∀ k,k<nb->N k=0->∀ m p s,lyS B m (B k) p s=(p,s)
theorem lay_row_ok (hB:Bods mm B nb g G) (hL:Lay B nb N l) {n m:Nat} {a:Kc} (ih:∀ x,oks mm nb x->rks g x<m->LayAt (Rq6 n).1 B nb G l m a x) (r:Rq) (ho:r.ok mm nb) (hr:r.rk g<m+1) (p:Int) (s:Sx) (hl:s.2.length+r.sz G<=900000) :
  (Rq6 (n+2)).2.1 [.adr a,r.toD,.int p] (.int s.1::Z5 B nb::l::s.2)=some (.int (Za (lyS B m) B (p,s) r).1,.int (Za (lyS B m) B (p,s) r).2.1::Z5 B nb::l::(Za (lyS B m) B (p,s) r).2.2):=by
 obtain ⟨c,st⟩:=s
 dsimp only at hl
 rw [E_lay_row]
 refine Ws rfl ?_
 unfold bq7
 have isK:∀ {x:Kw} {ps:List D} {ρ:Ev},ρ[3]?=some (some (.str x))->zI (f2 ZE (zb 3) (fC (.str x))) ρ=some true:=fun h=>z6 (f2v (zJ h) rfl eq_t)
 have noK:∀ {x y:Kw} {ρ:Ev},ρ[3]?=some (some (.str x))->x≠y->zI (f2 ZE (zb 3) (fC (.str y))) ρ=some false:=fun h e=>z6 (f2v (zJ h) rfl (eq_f e))
 cases r with
 | either x y =>
  rw [Rq.ok] at ho
  rw [Rq.rk] at hr
  rw [Rq.sz] at hl
  have l1:=yW hB m x p (c,st) ho.1.1
  have l2:=yW hB m y p (lyS B m x p (c,st)).2 ho.2.1
  dsimp only at l1
  have k1:=ih x ho.1.1 (by omega) p (c,st) (by show st.length+_<=_;omega)
  have k2:=ih y ho.2.1 (by omega) p (lyS B m x p (c,st)).2 (by omega)
  rw [Rq.toD]
  refine ZI (yI (wl_ (jB rfl))) (w9 (JI (wl_ (isK (ps:=[]) rfl)) (jw (yJ (zD (wl_ (zJ rfl)) (zD (wl_ (zJ rfl)) (zD (wl_ (zJ rfl)) yg))) ?_))))
  rw [E_lay_either]
  refine Ws rfl ?_
  unfold bq8
  refine ZI (yI (yJ (zD (wl_ (zJ rfl)) (zD (wl_ (zV (Zr (zJ rfl)) rfl (zw (j:=1) rfl))) (zD (wl_ (zJ rfl)) yg))) k1)) ?_
  refine ZI (yI (yJ (zD (wl_ (zJ rfl)) (zD (wl_ (zV (Zr (zJ rfl)) rfl (zw (j:=2) rfl))) (zD (wl_ (zJ rfl)) yg))) k2)) ?_
  refine ZI (yI (jF (d:=.adr a) rfl yg jo)) ?_
  refine ZI (J3 (jF (d:=.adr a) rfl (zD (wl_ (zJ rfl)) (zD (wl_ (zJ rfl)) (zD (wl_ rfl) yg))) (Yg (by simp only [Qd];omega)))) ?_
  refine ZI (J3 (jF (d:=.adr a) rfl (zD (wl_ (zJ rfl)) (zD (wl_ (zJ rfl)) (zD (wl_ rfl) yg))) (Yg (by simp only [Qj,Qd,QB];omega)))) ?_
  refine (jw (wl_ (zJ rfl))).trans ?_
  simp only [Za,Pw,List.append_assoc,Pn]
  rfl
 | loop x =>
  rw [Rq.ok] at ho
  rw [Rq.rk] at hr
  rw [Rq.sz] at hl
  have l1:=yW hB m x c (c+1,st++[stp p c skD]) ho.1
  simp only [Qj,Qd,QB] at l1
  have k1:=ih x ho.1 (by omega) c (c+1,st++[stp p c skD]) (by simp only [Qj,Qd,QB];omega)
  rw [Rq.toD]
  refine ZI (yI (wl_ (jB rfl))) (ZI (Yp (wl_ (noK rfl (by decide))) rfl) (w9 (JI (wl_ (isK (ps:=[]) rfl)) (jw (yJ (zD (wl_ (zJ rfl)) (zD (wl_ (zJ rfl)) (zD (wl_ (zJ rfl)) yg))) ?_)))))
  rw [E_lay_loop]
  refine Ws rfl ?_
  unfold bq9
  refine ZI (yI (jF (d:=.adr a) rfl yg jo)) ?_
  refine ZI (J3 (jF (d:=.adr a) rfl (zD (wl_ (zJ rfl)) (zD (wl_ (zJ rfl)) (zD (wl_ rfl) yg))) (Yg (by simp only [Qd];omega)))) ?_
  refine ZI (J3 (jF (d:=.adr a) rfl (zD (yJ (zD (wl_ (zJ rfl)) (zD (wl_ (zV (Zr (zJ rfl)) rfl (zw (j:=1) rfl))) (zD (wl_ (zJ rfl)) yg))) k1) (zD (wl_ (zJ rfl)) (zD (wl_ rfl) yg))) (Yg (by simp only [Qd];omega)))) ?_
  exact jw (wl_ (zJ rfl))
 | call k =>
  rw [Rq.ok] at ho
  rw [Rq.rk] at hr
  rw [Rq.sz] at hl
  have hg:=hB.rk k ho
  have hG:=hB.sz k ho
  rw [Rq.toD]
  refine ZI (yI (wl_ (jB rfl))) (ZI (Yp (wl_ (noK rfl (by decide))) rfl) (ZI (Yp (wl_ (noK rfl (by decide))) rfl) (w9 (JI (wl_ (isK (ps:=[]) rfl)) (jw (yJ (zD (wl_ (zJ rfl)) (zD (wl_ (zJ rfl)) (zD (wl_ (zJ rfl)) yg))) ?_))))))
  rw [E_lay_call]
  refine Ws rfl ?_
  unfold bq10
  have get:wTest (w2 ZE (wDGet (wFld 2) (fIx (zh false (zb 1)) (fC (.int 1)))) (wL (fC (.int 0)))) (zM 3 [.adr a,.tup [.str "call",.int (k:Nat)],.int p]) (.int c::Z5 B nb::l::st)=some (decide (N k=0),.int c::Z5 B nb::l::st) :=
   wtest_ (w2_ (wdget_ (d1:=l) rfl (zV (Zr (zJ rfl)) rfl (zw (j:=1) rfl)) (hL.get k ho)) (wl_ rfl) rfl)
  by_cases hz:N k=0
  ·rw [KU hz] at get
   refine w9 (JI get (jw (wl_ (zJ rfl)))) |>.trans ?_
   simp only [Za,hL.zero k ho hz]
  ·rw [KW hz] at get
   refine ZI (Yp get rfl) (jw (yJ (zD (wl_ (zJ rfl)) (zD (wixl_ (ds:=(List.range nb).map fun k=>.lst (qDs (B k))) rfl (zV (Zr (zJ rfl)) rfl (zw (j:=1) rfl)) (Wp ho)) (zD (wl_ (zJ rfl)) yg))) (ih (B k) (hB.ok k ho) (by omega) p (c,st) (by show st.length+_<=_;omega))))
 | one x ps =>
  rw [Rq.ok] at ho
  obtain ⟨⟨n1,n2,n3⟩,_,_⟩:=ho
  rw [Rq.sz] at hl
  rw [Rq.toD]
  refine ZI (yI (wl_ (jB rfl))) (ZI (Yp (wl_ (noK rfl n3)) rfl) (ZI (Yp (wl_ (noK rfl n2)) rfl) (ZI (Yp (wl_ (noK rfl n1)) rfl) (ZI (yI (jF (d:=.adr a) rfl yg jo)) ?_))))
  by_cases e:x="halt"
  ·refine ZI (Yp (wl_ (z6 (f2v (zJ rfl) rfl ?_))) rfl) ((jw (wl_ (zJ rfl))).trans ?_)
   ·rw [e];exact ne_f
   ·simp only [Za];rw [KR e]
  ·refine ZI (JI (wl_ (z6 (f2v (zJ rfl) rfl (ne_t e)))) (J3 (jF (d:=.adr a) rfl (zD (wl_ (zJ rfl)) (zD (wl_ (zJ rfl)) (zD (wl_ (zJ rfl)) yg))) (Yg (by simp only [Qd];omega))))) ((jw (wl_ (zJ rfl))).trans ?_)
   simp only [Za]
   rw [KS e]
   rfl
theorem lay_step (hB:Bods mm B nb g G) (hL:Lay B nb N l) {n m:Nat} {a:Kc} (ih:∀ x,oks mm nb x->rks g x<m->LayAt (Rq6 n).1 B nb G l m a x) (rs:List Rq) (ho:oks mm nb rs) (hr:rks g rs<m+1):LayAt (Rq6 (n+3)).1 B nb G l (m+1) a rs:=by
 intro p s hl
 rw [E_lay_rows]
 refine Ws rfl ?_
 unfold bq6
 refine ZI (yI (wl_ (zJ rfl))) ?_
 refine wfor_fold Rq.toD (Za (lyS B m) B) (fun zX q ρ S=>∃ x4,ρ=[some (.adr a),some (.lst (qDs rs)),some (.int p),some (.int q.1),x4]/\S=.int q.2.1::Z5 B nb::l::q.2.2/\oks mm nb zX/\rks g zX<m+1/\q.2.2.length+szs G zX<=900000) rs (p,s) (by rw [<- Wi];exact ZP (zJ rfl)) ⟨none,rfl,rfl,ho,hr,hl⟩ ?_ ?_
 ·rintro r zX ⟨q,c,st⟩ ρ S _ ⟨x4,rfl,rfl,o,hk,hz⟩
  rw [oks] at o
  rw [rks] at hk
  rw [szs] at hz
  dsimp only at hz
  have key:=lay_row_ok hB hL ih r o.1 (by omega) q (c,st) (by show st.length+_<=_;omega)
  have hlen:(Za (lyS B m) B (q,c,st) r).2.2.length<=st.length+r.sz G:=by
   have:=yW hB (m+1) [r] q (c,st) (by rw [oks,oks];exact ⟨o.1,trivial⟩)
   simpa [lyS,szs] using this
  refine ⟨_,[some (.adr a),some (.lst (qDs rs)),some (.int p),some (.int (Za (lyS B m) B (q,c,st) r).1),some r.toD],.int (Za (lyS B m) B (q,c,st) r).2.1::Z5 B nb::l::(Za (lyS B m) B (q,c,st) r).2.2,rfl,?_,⟨_,rfl,rfl,o.2,by omega,by omega⟩⟩
  exact yI (yJ (zD (wl_ (zJ rfl)) (zD (wl_ (zJ rfl)) (zD (wl_ (zJ rfl)) yg))) key)
 ·rintro ρ' S' ⟨x4,rfl,rfl,_,_,_⟩
  exact jw (wl_ (zJ rfl))
theorem YQ (hB:Bods mm B nb g G) (hL:Lay B nb N l) {a:Kc}:∀ (m n:Nat),3*m<=n->∀ rs,oks mm nb rs->rks g rs<m->LayAt (Rq6 n).1 B nb G l m a rs
 | 0,n,_,rs,_,h=>by omega
 | m+1,n,h,rs,ho,hr=>by
  obtain ⟨k,rfl⟩:∃ k,n=k+3:=⟨n - 3,by omega⟩
  exact lay_step hB hL (YQ hB hL m k (by omega)) rs ho hr
end
end EV
namespace RW
open PySem L2 M
inductive Rw where
 | skip | halt | call (k:Nat) | loop (rs:List Rw) | either (a b:List Rw)
mutual
def Rw.ht:Rw->Nat
 | .loop rs=>hts rs+1
 | .either a b=>max (hts a) (hts b)+1
 | _=>0
def hts:List Rw->Nat
 | []=>0
 | r::rs=>max r.ht (hts rs)
end
mutual
def Rw.ok (f l:Nat):Rw->Prop
 | .call k=>f<=k/\k<=l
 | .loop rs=>oks f l rs/\rs.length<=100
 | .either a b=>(oks f l a/\a.length<=100)/\oks f l b/\b.length<=100
 | _=>True
def oks (f l:Nat):List Rw->Prop
 | []=>True
 | r::rs=>r.ok f l/\oks f l rs
end
mutual
def Rw.np (g:Nat->Int):Rw->Int
 | .call k=>g k
 | .loop rs=>1+nps g rs
 | .either a b=>1+(nps g a+nps g b)
 | _=>1
def nps (g:Nat->Int):List Rw->Int
 | []=>0
 | r::rs=>r.np g+nps g rs
end
mutual
def Rw.dp (g:Nat->Int):Rw->Int
 | .call k=>max 1 (g k)
 | .loop rs=>1+dps g rs
 | .either a b=>1+max (dps g a) (dps g b)
 | _=>1
def dps (g:Nat->Int):List Rw->Int
 | []=>0
 | r::rs=>max (r.dp g) (dps g rs)
end
mutual
theorem W1 {g g':Nat->Int} {f l:Nat} (h:∀ k,f<=k->k<=l->g k=g' k):∀ r:Rw,r.ok f l->r.np g=r.np g'/\r.dp g=r.dp g'
 | .skip,_=>by simp [Rw.np,Rw.dp]
 | .halt,_=>by simp [Rw.np,Rw.dp]
 | .call k,o=>by rw [Rw.ok] at o;simp only [Rw.np,Rw.dp,h k o.1 o.2];exact ⟨trivial,trivial⟩
 | .loop rs,o=>by
  rw [Rw.ok] at o
  obtain ⟨h1,h2⟩:=ya h rs o.1
  simp only [Rw.np,Rw.dp,h1,h2];exact ⟨trivial,trivial⟩
 | .either a b,o=>by
  rw [Rw.ok] at o
  obtain ⟨h1,h2⟩:=ya h a o.1.1
  obtain ⟨h3,h4⟩:=ya h b o.2.1
  simp only [Rw.np,Rw.dp,h1,h2,h3,h4];exact ⟨trivial,trivial⟩
theorem ya {g g':Nat->Int} {f l:Nat} (h:∀ k,f<=k->k<=l->g k=g' k):∀ rs:List Rw,oks f l rs->nps g rs=nps g' rs/\dps g rs=dps g' rs
 | [],_=>by simp [nps,dps]
 | r::rs,o=>by
  rw [oks] at o
  obtain ⟨h1,h2⟩:=W1 h r o.1
  obtain ⟨h3,h4⟩:=ya h rs o.2
  simp only [nps,dps,h1,h2,h3,h4];exact ⟨trivial,trivial⟩
end
theorem Wl (g:Nat->Int):∀ rs:List Rw,(rs.map (Rw.np g)).sum=nps g rs
 | []=>by simp [nps]
 | r::rs=>by simp [nps,Wl g rs]
theorem mulT {a b:Int} (h1:-(2 ^ 64)<b) (h2:b<2 ^ 64):IntMulOk a b:=by
 have:=wc (a:=b) (b:=a) h1 h2
 unfold IntMulOk at *
 rw [Bool.and_comm (decide (Builtin.Int.intBits a > shortFactorBits)),Int.add_comm]
 exact this
theorem Jn (k:Key) (d:D):∀ {ks:List Key} {ds:List D},ks.length=ds.length->wk ks k=true->Z3 ks (J6 k d ks ds) k=some d
 | [],ds,h,e=>by simp [wk] at e
 | k'::ks,[],h,e=>by simp at h
 | k'::ks,x::ds,h,e=>by
  simp only [J6,Z3]
  by_cases hk:k'=k
  ·rw [KR hk,KR hk]
  ·rw [KS hk]
   refine Jn k d (by simpa using h) ?_
   unfold wk at e ⊢
   rw [Pm,KW hk,Bool.false_or] at e
   exact e
theorem wG {k k':Key} (d:D) (hne:k'≠k):∀ {ks:List Key} {ds:List D},Z3 ks (J6 k d ks ds) k'=Z3 ks ds k'
 | [],ds=>by simp [Z3]
 | q::ks,[]=>by simp [Z3,J6]
 | q::ks,x::ds=>by
  simp only [J6,Z3]
  by_cases hq:q=k'
  ·rw [KR hq,KR hq,KS (fun z=>hne (hq.symm.trans z))]
  ·rw [KS hq,KS hq]
   exact wG d hne
theorem look_app {k':Key}:∀ {ks:List Key} {ds:List D} {ks2:List Key} {ds2:List D},ks.length=ds.length->Z3 (ks++ks2) (ds++ds2) k'=(Z3 ks ds k').or (Z3 ks2 ds2 k')
 | [],[],ks2,ds2,h=>by simp [Z3]
 | [],x::ds,ks2,ds2,h=>by simp at h
 | q::ks,[],ks2,ds2,h=>by simp at h
 | q::ks,x::ds,ks2,ds2,h=>by
  simp only [Pw,Z3]
  by_cases hq:q=k'
  ·rw [KR hq,KR hq];rfl
  ·rw [KS hq,KS hq];exact look_app (by simpa using h)
theorem wf {k:Key}:∀ {ks:List Key} {ds:List D},wk ks k=false->Z3 ks ds k=none
 | [],ds,h=>by simp [Z3]
 | q::ks,[],h=>by simp [Z3]
 | q::ks,x::ds,h=>by
  unfold wk at h
  rw [Pm,P3] at h
  simp only [Z3]
  rw [KS (by simpa using h.1)]
  exact wf h.2
theorem rep_len (k:Key) (d:D):∀ {ks:List Key} {ds:List D},ks.length=ds.length->ks.length=(J6 k d ks ds).length
 | [],ds,h=>by simpa [J6] using h
 | q::ks,[],h=>by simp at h
 | q::ks,x::ds,h=>by simp only [J6,Qd] at *;rw [rep_len k d (ds:=ds) (by omega)]
structure Dc (d:D) (m:Nat) (g:Nat->Option Int):Prop where
 ex:∃ ks ds,d=.dict ks ds/\ks.length=ds.length/\ks.length<=m/\∀ j:Nat,Z3 ks ds (.inl (j:Int))=(g j).map D.int
theorem Dc.nil:Dc (.dict [] []) 0 (fun _=>none):=⟨[],[],rfl,rfl,Ql _,fun j=>by simp [Z3]⟩
theorem Dc.get {d:D} {m:Nat} {g:Nat->Option Int} (h:Dc d m g) {j:Nat} {v:Int} (e:g j=some v):gi d (.int (j:Nat))=some (.int v):=by
 obtain ⟨ks,ds,rfl,h1,h2,h3⟩:=h.ex
 have:=h3 j
 rw [e] at this
 exact this
def upG (g:Nat->Option Int) (j:Nat) (v:Int):Nat->Option Int:=fun k=>if k=j then some v else g k
theorem dput_ {im:Nat} {fk fv:Ev->Option D} {ρ:Ev} {T:Out->Prop} {d:D} {m:Nat} {g:Nat->Option Int} {j:Nat} {v:Int} (ev:fv ρ=some (.int v)) (ed:ρ[im]?.join=some d) (ek:fk ρ=some (.int (j:Nat))) (h:Dc d m g) (hm:m<1000)
  (k:∀ d',Dc d' (if g j=none then m+1 else m) (upG g j v)->T (.nx (ρ.set im (some d')))):Wo (mDPut im fk fv ρ) T:=by
 obtain ⟨ks,ds,rfl,h1,h2,h3⟩:=h.ex
 unfold mDPut
 rw [ev,oB,ed,oB]
 show Wo (Option.bind (some (ks,ds)) _) T
 rw [oB,ek,oB,wZ,oB,KR (Pa h2 (Qs hm (by decide)))]
 refine ⟨_,rfl,k _ ⟨_,_,rfl,?_,?_,fun i=>?_⟩⟩
 ·unfold putKs putDs
  by_cases z:wk ks (.inl (j:Int))=true
  ·rw [KR z,KR z];exact rep_len _ _ h1
  ·rw [KS z,KS z];simp [h1]
 ·unfold putKs
  by_cases z:wk ks (.inl (j:Int))=true
  ·rw [KR z];show ks.length<=_;split <;> omega
  ·rw [KS z]
   have e:g j=none:=by
    have:=h3 j
    rw [wf (by simpa using z)] at this
    cases q:g j with
    | none=>rfl
    | some _=>rw [q] at this;cases this
   rw [KR e]
   show (ks++[_]).length<=_
   simp;omega
 ·unfold putKs putDs upG
  by_cases z:wk ks (.inl (j:Int))=true
  ·rw [KR z,KR z]
   by_cases e:i=j
   ·rw [KR e,e];exact Jn _ _ h1 z
   ·rw [KS e,wG _ (fun q=>e (by have:=Sum.inl.inj q;omega))];exact h3 i
  ·rw [KS z,KS z,look_app h1]
   by_cases e:i=j
   ·rw [KR e,e,wf (by simpa using z)]
    simp [Z3]
   ·rw [KS e,h3 i]
    have:Z3 [(Sum.inl (j:Int):Key)] [D.int v] (.inl (i:Int))=none:=by
     simp only [Z3]
     rw [KS (fun q=>e (by have:=Sum.inl.inj q;omega))]
    rw [this]
    simp
end RW
namespace EV
open PySem PySem.Spec L2 M
open RW (Dc upG dput_ Fi Sc wt wts)
variable {mm:Nat}
mutual
def Rq.np (g:Nat->Int):Rq->Int
 | .one _ _=>1
 | .call k=>g k
 | .loop rs=>1+nps g rs
 | .either a b=>1+(nps g a+nps g b)
def nps (g:Nat->Int):List Rq->Int
 | []=>0
 | r::rs=>r.np g+nps g rs
end
mutual
def Rq.lat (f:Nat):Rq->Prop
 | .one _ _=>True
 | .call k=>f<=k
 | .loop rs=>YE f rs
 | .either a b=>YE f a/\YE f b
def YE (f:Nat):List Rq->Prop
 | []=>True
 | r::rs=>r.lat f/\YE f rs
end
theorem Wl (g:Nat->Int):∀ rs:List Rq,(rs.map (Rq.np g)).sum=nps g rs
 | []=>by simp [nps]
 | r::rs=>by simp [nps,Wl g rs]
mutual
theorem np_nn (g:Nat->Int) (h:∀ k,0<=g k):∀ r:Rq,0<=r.np g
 | .one _ _=>by simp [Rq.np]
 | .call k=>by simp only [Rq.np];exact h k
 | .loop rs=>by have:=jm g h rs;simp only [Rq.np];omega
 | .either a b=>by have:=jm g h a;have:=jm g h b;simp only [Rq.np];omega
theorem jm (g:Nat->Int) (h:∀ k,0<=g k):∀ rs:List Rq,0<=nps g rs
 | []=>by simp [nps]
 | r::rs=>by have:=np_nn g h r;have:=jm g h rs;simp only [nps];omega
end
mutual
theorem W1 {g g':Nat->Int} {f nb:Nat} (h:∀ k,f<=k->k<nb->g k=g' k):∀ r:Rq,r.lat f->r.ok mm nb->r.np g=r.np g'
 | .one _ _,_,_=>by simp [Rq.np]
 | .call k,o,o'=>by rw [Rq.lat] at o;rw [Rq.ok] at o';simp only [Rq.np,h k o o']
 | .loop rs,o,o'=>by rw [Rq.lat] at o;rw [Rq.ok] at o';simp only [Rq.np,ya h rs o o'.1]
 | .either a b,o,o'=>by rw [Rq.lat] at o;rw [Rq.ok] at o';simp only [Rq.np,ya h a o.1 o'.1.1,ya h b o.2 o'.2.1]
theorem ya {g g':Nat->Int} {f nb:Nat} (h:∀ k,f<=k->k<nb->g k=g' k):∀ rs:List Rq,YE f rs->oks mm nb rs->nps g rs=nps g' rs
 | [],_,_=>by simp [nps]
 | r::rs,o,o'=>by rw [YE] at o;rw [oks] at o';simp only [nps,W1 h r o.1 o'.1,ya h rs o.2 o'.2]
end
theorem fix_ex {B:Nat->List Rq} {n:Nat} (hB:∀ j,j<n->oks mm n (B j)/\YE (j+1) (B j)):∃ g:Nat->Int,(∀ k,0<=g k)/\∀ j,j<n->g j=nps g (B j):=by
 suffices h:∀ i,i<=n->∃ g:Nat->Int,(∀ k,0<=g k)/\∀ j,n - i<=j->j<n->g j=nps g (B j) by
  obtain ⟨g,h1,h2⟩:=h n (Ql n)
  exact ⟨g,h1,fun j hj=>h2 j (by omega) hj⟩
 intro i
 induction i with
 | zero=>exact fun _=>⟨fun _=>0,fun _=>Int.le_refl 0,fun j h1 h2=>by omega⟩
 | succ i ih =>
  intro hi
  obtain ⟨g,h1,h2⟩:=ih (by omega)
  have key:∀ j,n - (i+1)<=j->j<n->nps (fun k=>if k=n - (i+1) then nps g (B (n - (i+1))) else g k) (B j)=nps g (B j):=fun j hj1 hj2 =>
   ya (fun k hk1 hk2=>KS (by omega)) _ (hB j hj2).2 (hB j hj2).1
  refine ⟨fun k=>if k=n - (i+1) then nps g (B (n - (i+1))) else g k,fun k=>?_,fun j hj1 hj2=>?_⟩
  ·show 0<=(if k=n - (i+1) then nps g (B (n - (i+1))) else g k)
   split
   ·exact jm _ h1 _
   ·exact h1 k
  ·rw [key j hj1 hj2]
   show (if j=n - (i+1) then nps g (B (n - (i+1))) else g j)=_
   by_cases e:j=n - (i+1)
   ·rw [KR e,e]
   ·rw [KS e];exact h2 j (by omega) hj2
theorem no_places {B:Nat->List Rq} {nb:Nat} {N:Nat->Int} (hB:∀ k,k<nb->oks mm nb (B k)) (h0:∀ k,0<=N k) (hN:∀ k,k<nb->N k=nps N (B k)):∀ (m:Nat) (rs:List Rq) (p:Int) (s:Sx),oks mm nb rs->nps N rs=0->lyS B m rs p s=(p,s)
 | 0,rs,p,s,_,_=>by rw [lyS]
 | m+1,rs,p,s,ho,hz=>by
  rw [lyS]
  suffices h:∀ (rs:List Rq) (q:Int×Sx),oks mm nb rs->nps N rs=0->rs.foldl (Za (lyS B m) B) q=q from h rs (p,s) ho hz
  intro rs
  induction rs with
  | nil=>intro q _ _;rfl
  | cons r rs ih =>
   intro q ho hz
   rw [oks] at ho
   rw [nps] at hz
   have h1:=np_nn N h0 r
   have h2:=jm N h0 rs
   rw [PY]
   have e:Za (lyS B m) B q r=q:=by
    cases r with
    | one x ps=>simp only [Rq.np] at hz;omega
    | loop a=>have:=jm N h0 a;simp only [Rq.np] at hz;omega
    | either a b=>have:=jm N h0 a;have:=jm N h0 b;simp only [Rq.np] at hz;omega
    | call k =>
     have hk:k<nb:=by have:=ho.1;rwa [Rq.ok] at this
     simp only [Rq.np] at hz h1
     simp only [Za]
     rw [no_places hB h0 hN m (B k) q.1 q.2 (hB k hk) (by rw [<- hN k hk];omega)]
   rw [e]
   exact ih q ho.2 (by omega)
theorem wO {u:D->Ev->Option Ev} {c:Ev->Option Bool} {e:Ev->Option D} (I:Ev->Prop):∀ (ps:List (D×D)) (ρ:Ev),I ρ->(∀ p ρ,p∈ps->I ρ->∃ ρ1,u p.1 ρ=some ρ1/\c ρ1=some true/\e ρ1=some p.2/\I ρ1)->yn u c e (ps.map Prod.fst) ρ=some (ps.map Prod.snd)
 | [],ρ,_,_=>rfl
 | p::ps,ρ,hi,h=>by
  obtain ⟨ρ1,h1,h2,h3,h4⟩:=h p ρ Qt hi
  rw [Qr,yn,h1,oB,h2,oB,KR rfl,h3,oB,wO I ps ρ1 h4 fun q ρ' hq=>h q ρ' (Qe _ hq)]
  rfl
theorem jX {k:Nat} {fl:Ev->Option (List D)} {u:D->Ev->Option Ev} {c:Ev->Option Bool} {e:Ev->Option D} {ρ:Ev} (ps:List (D×D)) (I:Ev->Prop) (hfl:fl ρ=some (ps.map Prod.fst)) (hm:ps.length<=1000) (h0:I (ρ++List.replicate k none))
  (hs:∀ p ρ,p∈ps->I ρ->∃ ρ1,u p.1 ρ=some ρ1/\c ρ1=some true/\e ρ1=some p.2/\I ρ1):Z4 k fl u c e ρ=some (.lst (ps.map Prod.snd)):=by
 rw [JB,hfl,oB,wO I ps _ h0 hs,oB]
 exact YS (ZK (by rw [Qg];omega))
def jC:Rq->List (List Rq)
 | .loop rs=>[rs]
 | .either a b=>[a,b]
 | _=>[]
theorem JT {f:Nat}:∀ {rs:List Rq} {r:Rq},YE f rs->r∈rs->r.lat f
 | x::rs,r,o,h=>by
  rw [YE] at o
  rcases Qc.mp h with rfl | h
  ·exact o.1
  ·exact JT o.2 h
theorem subs_rk {g:Nat->Nat} {r:Rq} {x:List Rq} (h:x∈jC r):rks g x+1<=r.rk g:=by
 cases r with
 | one _ _=>cases h
 | call _=>cases h
 | loop a=>simp only [jC,Qo] at h;subst h;rw [Rq.rk];omega
 | either a b =>
  simp only [jC,Qc,Qn,or_false] at h
  rw [Rq.rk]
  rcases h with rfl | rfl <;> omega
theorem subs_ok {nb f:Nat} {r:Rq} {x:List Rq} (ho:r.ok mm nb) (hf:r.lat f) (h:x∈jC r):oks mm nb x/\YE f x/\x.length<=100:=by
 cases r with
 | one _ _=>cases h
 | call _=>cases h
 | loop a=>simp only [jC,Qo] at h;subst h;rw [Rq.ok] at ho;rw [Rq.lat] at hf;exact ⟨ho.1,hf,ho.2⟩
 | either a b =>
  simp only [jC,Qc,Qn,or_false] at h
  rw [Rq.ok] at ho;rw [Rq.lat] at hf
  rcases h with rfl | rfl
  ·exact ⟨ho.1.1,hf.1,ho.1.2⟩
  ·exact ⟨ho.2.1,hf.2,ho.2.2⟩
theorem lf_isi {d:D} (h:Lf d=true):gg "list" d=some (.bl false):=by cases d <;> first | rfl | cases h
theorem comp_none:∀ (ds:List D) (ρ:Ev),(∀ d∈ds,gg "list" d=some (.bl false))->ρ.length=2->yn (zR 1) (zI (f1 (gg "list") (zb 1))) (zb 1) ds ρ=some []
 | [],ρ,_,_=>rfl
 | d::ds,ρ,h,hl=>by
  rw [yn,zR,oB]
  have e:zI (f1 (gg "list") (zb 1)) (ρ.set 1 (some d))=some false:=z6 (f1v (zJ (zL (by omega))) (h d Qt))
  rw [e,oB,KS (by simp)]
  exact comp_none ds _ (fun x hx=>h x (Qe _ hx)) (by simpa using hl)
theorem lists_in_ok {nb:Nat} (r:Rq) (ho:r.ok mm nb):mq1 [r.toD]=some (.lst ((jC r).map fun x=>.lst (qDs x))):=by
 refine Wo.eq ?_
 unfold mq1 bq1
 rw [Z6]
 refine ⟨rfl,?_⟩
 simp only [zM,zMap,zLen,List.replicate,zApp,QD,Nat.reduceAdd,Nat.reduceSub]
 refine jf (d:=.lst ((jC r).map fun x=>.lst (qDs x))) ?_ rfl
 cases r with
 | one x ps =>
  rw [Rq.ok] at ho
  rw [Rq.toD,JB,Zr (zJ rfl),oB,comp_none _ _ (fun d hd=>?_) rfl]
  ·rfl
  ·rcases Qc.mp hd with rfl | hd
   ·rfl
   ·exact lf_isi (ho.2.2.1 d hd)
 | call k=>rw [Rq.toD];rfl
 | loop a=>rw [Rq.toD];rfl
 | either a b=>rw [Rq.toD];rfl
def Tells (d:D) (f nb:Nat) (g:Nat->Int):Prop:=∀ k:Nat,f<=k->k<nb->gi d (.int (k:Nat))=some (.int (g k))
section
variable {dd:D} {f nb:Nat} {g:Nat->Int} (hd:Tells dd f nb g)
include hd
theorem np_step {n:Nat} {r:Rq} (ho:r.ok mm nb) (hf:r.lat f) (h:∀ x∈jC r,(Rq2 n).1 [.lst (qDs x),dd]=some (.int (nps g x))):(Rq2 (n+1)).2 [r.toD,dd]=some (.int (r.np g)):=by
 refine Wo.eq ?_
 rw [show (Rq2 (n+1)).2=Z1 2 2 (bq3 (Rq2 n).1 (Rq2 n).2) by rw [Rq2]]
 unfold bq3
 rw [Z6]
 refine ⟨rfl,?_⟩
 simp only [zM,zMap,zLen,List.replicate,zApp,QD,Nat.reduceAdd,Nat.reduceSub]
 generalize (Rq2 n).1=m1 at h ⊢
 generalize (Rq2 n).2=m2
 have zX:∀ ρ:Ev,ρ=[some r.toD,some dd]->f2 ZT (fC (.int 1)) (fA JW (zh true (Z4 1 (zh true (fA mq1 (zf (zb 0) zr))) (zR 2) YF (fA m1 (zf (zb 2) (zf (zb 1) zr)))))) ρ=some (.int (1+((jC r).map (nps g)).sum)):=by
  rintro ρ rfl
  have ec:=jX (k:=1) (fl:=zh true (fA mq1 (zf (zb 0) zr))) (u:=zR 2) (c:=YF) (e:=fA m1 (zf (zb 2) (zf (zb 1) zr))) (ρ:=[some r.toD,some dd]) ((jC r).map fun x=>(.lst (qDs x),.int (nps g x))) (fun ρ=>∃ z:Option D,ρ=[some r.toD,some dd,z])
   ((ZP (fA1 rfl (lists_in_ok r ho))).trans (by rw [Pi];rfl)) (by cases r <;> simp [jC]) ⟨none,rfl⟩ (by
    rintro p ρ hp ⟨z,rfl⟩
    obtain ⟨x,hx,rfl⟩:=QT.mp hp
    exact ⟨_,rfl,rfl,fA2 rfl rfl (h x hx),_,rfl⟩)
  refine f2v (y:=.int ((jC r).map (nps g)).sum) rfl ?_ rfl
  rw [fA_,ZP ec,oB,Pi]
  exact (congrArg JW (show List.map _ (jC r)=((jC r).map (nps g)).map D.int by rw [Pi];rfl)).trans gSum_
 cases r with
 | call k =>
  rw [Rq.ok] at ho
  rw [Rq.lat] at hf
  rw [Rq.toD,zt]
  refine ⟨_,by rw [mIf_,kis rfl,oB,KR rfl,jR,f2v (y:=.int (k:Nat)) rfl (zV (Zr (zJ rfl)) rfl (zw (j:=1) rfl)) (hd k hf ho)];rfl,?_⟩
  simp only [Rq.np];rfl
 | one x ps =>
  rw [Rq.ok] at ho
  rw [Rq.toD] at zX
  rw [Rq.toD,zt]
  refine jr (kno rfl ho.1.1) ?_
  rw [ZB,zG,zj]
  exact jf (zX _ rfl) (by simp [jC,Rq.np])
 | loop rs =>
  rw [Rq.toD] at zX
  rw [Rq.toD,zt]
  refine jr (kno rfl (by decide)) ?_
  rw [ZB,zG,zj]
  exact jf (zX _ rfl) (by simp [jC,Rq.np])
 | either a b =>
  rw [Rq.toD] at zX
  rw [Rq.toD,zt]
  refine jr (kno rfl (by decide)) ?_
  rw [ZB,zG,zj]
  exact jf (zX _ rfl) (by simp [jC,Rq.np])
theorem nps_step {n:Nat} {rs:List Rq} (hl:rs.length<=100) (h:∀ r∈rs,(Rq2 n).2 [r.toD,dd]=some (.int (r.np g))):(Rq2 (n+1)).1 [.lst (qDs rs),dd]=some (.int (nps g rs)):=by
 refine Wo.eq ?_
 rw [show (Rq2 (n+1)).1=Z1 2 2 (bq2 (Rq2 n).1 (Rq2 n).2) by rw [Rq2]]
 unfold bq2
 rw [Z6]
 refine ⟨rfl,?_⟩
 simp only [zM,zMap,zLen,List.replicate,zApp,QD,Nat.reduceAdd,Nat.reduceSub]
 generalize (Rq2 n).1=m1
 generalize (Rq2 n).2=m2 at h ⊢
 have ec:=jX (k:=1) (fl:=zh true (zb 0)) (u:=zR 2) (c:=YF) (e:=fA m2 (zf (zb 2) (zf (zb 1) zr))) (ρ:=[some (.lst (qDs rs)),some dd]) (rs.map fun r=>(r.toD,.int (r.np g))) (fun ρ=>∃ z:Option D,ρ=[some (.lst (qDs rs)),some dd,z])
  ((ZP (ds:=qDs rs) rfl).trans (by rw [Pi,Wi];rfl)) (by rw [Qg];omega) ⟨none,rfl⟩ (by
   rintro p ρ hp ⟨z,rfl⟩
   obtain ⟨x,hx,rfl⟩:=QT.mp hp
   exact ⟨_,rfl,rfl,fA2 rfl rfl (h x hx),_,rfl⟩)
 refine jf (d:=.int (nps g rs)) ?_ rfl
 rw [fA_,ZP ec,oB,Pi]
 exact (congrArg JW (show List.map _ rs=(rs.map (Rq.np g)).map D.int by rw [Pi];rfl)).trans (gSum_.trans (by rw [Wl]))
theorem new_all:∀ (h n:Nat),2*h+2<=n->∀ rs:List Rq,rks (fun _=>0) rs<=h->oks mm nb rs->YE f rs->rs.length<=100->(Rq2 n).1 [.lst (qDs rs),dd]=some (.int (nps g rs)):=by
 intro h
 induction h with
 | zero =>
  intro n hn rs hk ho hf hl
  obtain ⟨n,rfl⟩:∃ m,n=m+2:=⟨n - 2,by omega⟩
  refine nps_step hd hl fun r hr=>np_step hd (Wk ho hr) (JT hf hr) fun x hx=>?_
  have h1:=rks_mem (g:=fun _=>0) hr
  have h2:=(subs_rk (g:=fun _=>0) hx)
  omega
 | succ h ih =>
  intro n hn rs hk ho hf hl
  obtain ⟨n,rfl⟩:∃ m,n=m+2:=⟨n - 2,by omega⟩
  refine nps_step hd hl fun r hr=>np_step hd (Wk ho hr) (JT hf hr) fun x hx=>?_
  have h1:=rks_mem (g:=fun _=>0) hr
  have h2:=(subs_rk (g:=fun _=>0) hx)
  obtain ⟨o1,o2,o3⟩:=subs_ok (Wk ho hr) (JT hf hr) hx
  exact ih n (by omega) x (by omega) o1 o2 o3
end
def upto (n i:Nat) (g:Nat->Int):Nat->Option Int:=fun k=>if n - i<=k/\k<n then some (g k) else none
theorem upto_none {n i:Nat} {g:Nat->Int} {j:Nat} (h:j<n - i):upto n i g j=none:=KS (by omega)
theorem upto_some {n i:Nat} {g:Nat->Int} {j:Nat} (h:n - i<=j) (h2:j<n):upto n i g j=some (g j):=KR ⟨h,h2⟩
theorem upto_up {n i:Nat} {g:Nat->Int} (hi:i<n) (k:Nat):upG (upto n i g) (n - 1 - i) (g (n - 1 - i)) k=upto n (i+1) g k:=by
 unfold upG upto
 by_cases e:k=n - 1 - i
 ·rw [KR e,KR (by omega),e]
 ·rw [KS e]
  by_cases h:n - i<=k/\k<n
  ·rw [KR h,KR (by omega)]
  ·rw [KS h,KS (by omega)]
theorem dc_as {d:D} {m m':Nat} {g g':Nat->Option Int} (h:Dc d m g) (hm:m=m') (hg:∀ k,g k=g' k):Dc d m' g':=by
 have:g=g':=funext hg
 subst this;subst hm;exact h
structure Bods2 (mm:Nat) (B:Nat->List Rq) (nb:Nat) (g G:Nat->Nat):Prop extends Bods mm B nb g G where
 lat:∀ k,k<nb->YE (k+1) (B k)
 low:∀ k,k<nb->rks (fun _=>0) (B k)<=12
 few:nb<=4
 pos:1<=nb
theorem places_ok {B:Nat->List Rq} {nb:Nat} {g G:Nat->Nat} (hB:Bods2 mm B nb g G) {N:Nat->Int} (hN:∀ j,j<nb->N j=nps N (B j)):∃ l,mq5 [Z5 B nb]=some l/\∀ k,k<nb->gi l (.int (k:Nat))=some (.int (N k)):=by
 suffices h:Wo (mq5 [Z5 B nb]) fun l=>∀ k,k<nb->gi l (.int (k:Nat))=some (.int (N k)) by
  obtain ⟨d,e,w⟩:=h
  exact ⟨d,e,w⟩
 have hn:=hB.pos
 have hn4:=hB.few
 unfold mq5 bq5
 rw [Z6]
 refine ⟨rfl,?_⟩
 simp only [zM,zMap,zLen,List.replicate,zApp,QD,Nat.reduceAdd,Nat.reduceSub]
 rw [zt]
 refine new_ rfl (by simp) ?_
 simp only [zSet,zj]
 have er:gh (f2 JE (fA yX (zh true (zb 0))) (fC (.int 1))) (f1 ww (fC (.int 1))) [some (Z5 B nb),some (.dict [] []),none]=some (YM ((nb:Int) - 1) nb):=by
  have e1:f2 JE (fA yX (zh true (zb 0))) (fC (.int 1)) [some (Z5 B nb),some (.dict [] []),none]=some (.int ((nb:Int) - 1)):=f2v (x:=.int (nb:Nat)) (by show some (D.int (((List.range nb).map fun k=>D.lst (qDs (B k))).length:Nat))=_;rw [Qg,List.length_range]) rfl rfl
  unfold gh
  rw [e1,oB,show f1 ww (fC (.int 1)) [some (Z5 B nb),some (.dict [] []),none]=some (.int (-1)) from rfl,oB,wZ,oB,wZ,oB,KR (by omega)]
  congr 2
  omega
 rw [zt,jS,er,oB]
 refine Yo (fun i ρ=>i<=nb/\∃ (d1:D) (z:Option D),ρ=[some (Z5 B nb),some d1,z]/\Dc d1 i (upto nb i N)) ⟨Pd _,_,_,rfl,dc_as Dc.nil rfl fun k=>(KS (by omega)).symm⟩ ?_ ?_
 ·rintro i e ρ he ⟨hi,d1,z,rfl,c1⟩
  obtain ⟨hin,rfl⟩:=YL he
  have ej:(nb:Int) - 1 - (i:Nat)=((nb - 1 - i:Nat):Int):=by omega
  rw [ej,yT,zG]
  simp only [zSet]
  have hj:nb - 1 - i<nb:=by omega
  have t1:Tells d1 (nb - 1 - i+1) nb N:=fun k h1 h2=>c1.get (upto_some (by omega) (by omega))
  have v1:=new_all t1 12 60 (by omega) (B (nb - 1 - i)) (hB.low _ hj) (hB.ok _ hj) (hB.lat _ hj) (hB.len _ hj)
  rw [<- hN _ hj] at v1
  have ba:=Wp (B:=B) hj
  refine dput_ (Jo (fA2 (zV (ds:=(List.range nb).map fun k=>.lst (qDs (B k))) rfl rfl ba) rfl v1) rfl) rfl rfl c1 (by omega) fun d1' c1'=>?_
  simp only [zSet]
  have k1:=dc_as c1' (KR (upto_none (by omega))) (upto_up hin)
  exact ⟨hin,d1',_,rfl,k1⟩
 ·rintro ρ ⟨-,d1,z,rfl,c1⟩
  rw [Yw] at c1
  rw [zj]
  exact jf rfl fun k hk=>c1.get (upto_some (by omega) hk)
open RW (Py)
variable {mm:Nat}
def StF (mm:Nat) (d:D):Prop:=∃ (p q:Int) (x:Kw) (ps:List D),d=stp p q (.tup (.str x::ps))/\x≠"halt"/\Dk mm x ps
theorem stp_s {p q:Int}:StF mm (stp p q skD):=⟨p,q,"skip",[],rfl,by decide,.inl ⟨rfl,rfl⟩⟩
section
variable {B:Nat->List Rq} {nb:Nat} {g G:Nat->Nat}
theorem ly_st (hB:Bods mm B nb g G):∀ (m:Nat) (rs:List Rq) (p:Int) (s:Sx),oks mm nb rs->(∀ d∈s.2,StF mm d)->∀ d∈(lyS B m rs p s).2.2,StF mm d
 | 0,rs,p,s,_,h=>by rw [lyS];exact h
 | m+1,rs,p,s,ho,h=>by
  rw [lyS]
  suffices key:∀ (rs:List Rq) (q:Int×Sx),oks mm nb rs->(∀ d∈q.2.2,StF mm d)->∀ d∈(rs.foldl (Za (lyS B m) B) q).2.2,StF mm d from key rs (p,s) ho h
  intro rs
  induction rs with
  | nil=>intro q _ h;exact h
  | cons r rs ih =>
   intro q ho h
   rw [oks] at ho
   rw [PY]
   refine ih _ ho.2 ?_
   have app:∀ {l:List D} {e:List D},(∀ d∈l,StF mm d)->(∀ d∈e,StF mm d)->∀ d∈l++e,StF mm d:=fun h1 h2 d hd=>(QA.mp hd).elim (h1 d) (h2 d)
   cases r with
   | one x ps =>
    have o:=ho.1
    rw [Rq.ok] at o
    simp only [Za]
    split
    ·exact h
    ·rename_i hx
     exact app h fun d hd=>by rw [Qo.mp hd];exact ⟨_,_,x,ps,rfl,hx,o.2.2.2.2⟩
   | call k =>
    simp only [Za]
    exact ly_st hB m (B k) q.1 q.2 (hB.ok k (by have:=ho.1;rwa [Rq.ok] at this)) h
   | loop a =>
    have o:=ho.1
    rw [Rq.ok] at o
    simp only [Za]
    refine app (ly_st hB m a _ _ o.1 (app h fun d hd=>?_)) fun d hd=>?_
    ·rw [Qo.mp hd];exact stp_s
    ·rw [Qo.mp hd];exact stp_s
   | either a b =>
    have o:=ho.1
    rw [Rq.ok] at o
    simp only [Za]
    refine app (ly_st hB m b _ _ o.2.1 (ly_st hB m a _ _ o.1.1 h)) fun d hd=>?_
    simp only [Qc,Qn,or_false] at hd
    rcases hd with rfl | rfl <;> exact stp_s
def ansD (r:Int×Sx):D:=.tup [.int r.2.1,.lst r.2.2,.int r.1]
theorem laid_ok (hB:Bods2 mm B nb g G) (hr:rks g (B 0)<20) (hz:szs G (B 0)<=800000) (KN:Int):mq4 [.tup [.int KN,Z5 B nb]]=some (ansD (lyS B 20 (B 0) 0 (1,[]))):=by
 obtain ⟨N,hN0,hN⟩:=fix_ex (B:=B) (n:=nb) fun j hj=>⟨hB.ok j hj,hB.lat j hj⟩
 obtain ⟨l,hl,hg⟩:=places_ok hB hN
 have hL:Lay B nb N l:=⟨hg,fun k hk z m p s=>no_places hB.ok hN0 hN m (B k) p s (hB.ok k hk) (by rw [<- hN k hk];exact z)⟩
 have key:=fun a=>YQ hB.toBods hL (a:=a) 20 60 (by omega) (B 0) (hB.ok 0 hB.pos) hr 0 (1,[]) (by show 0+_<=_;omega)
 generalize lyS B 20 (B 0) 0 (1,[])=r at key ⊢
 refine JR rfl ?_
 unfold bq4
 refine mLaid_eq (b:=Z5 B nb) (l:=l) (zV (Zr (zJ rfl)) rfl (zw (j:=1) rfl)) hl fun a=>⟨_,yI (yJ (zD (wl_ (zJ rfl)) (zD (wl_ (zV (ZP (zV (Zr (zJ rfl)) rfl (zw (j:=1) rfl))) rfl (Wp (k:=0) hB.pos))) (zD (wl_ rfl) yg))) (key a)),rfl⟩
theorem lent_ok (hB:Bods2 mm B nb g G) (hr:rks g (B 0)<20) (hz:szs G (B 0)<=800000) (a:Kc):mq23 [.lst (qDs (B 0)),.int 0,Z5 B nb,.adr a] [.int 1]=some (.int (lyS B 20 (B 0) 0 (1,[])).1,.int (lyS B 20 (B 0) 0 (1,[])).2.1::(lyS B 20 (B 0) 0 (1,[])).2.2) :=
 law_all hB.toBods (a:=a) 20 60 (by omega) (B 0) (hB.ok 0 hB.pos) hr 0 (1,[]) (by show 0+_<=_;omega)
end
open RW (Py Fi Sc wt wts names JH mulT)
variable {mm:Nat}
theorem if_t {c:Ev->Option Bool} {m1 m2:Ev->Option Out} {ρ:Ev} {T:Out->Prop} (e:c ρ=some true) (k:Wo (m1 ρ) T):Wo (mIf c m1 m2 ρ) T:=by rw [mIf_,e];exact k
theorem wV {c:Ev->Option Bool} {m1 m2:Ev->Option Out} {ρ:Ev} {T:Out->Prop} {b:Bool} (e:c ρ=some b) (k1:b=true->Wo (m1 ρ) T) (k2:b=false->Wo (m2 ρ) T):Wo (mIf c m1 m2 ρ) T:=by
 rw [mIf_,e]
 cases b with
 | true=>exact k1 rfl
 | false=>exact k2 rfl
theorem orv {c1 c2:Ev->Option Bool} {ρ:Ev} {a b:Bool} (e1:c1 ρ=some a) (e:a=false->c2 ρ=some b):fOr c1 c2 ρ=some (a||b):=by
 rw [fOr_,e1]
 cases a with
 | true=>rfl
 | false=>exact e rfl
theorem andc {c1 c2:Ev->Option Bool} {ρ:Ev} {a b:Bool} (e1:c1 ρ=some a) (e:a=true->c2 ρ=some b):wv c1 c2 ρ=some (a&&b):=by
 rw [fAnd_,e1]
 cases a with
 | true=>exact e rfl
 | false=>rfl
theorem lt_ {a b:Int}:dLt (.int a) (.int b)=some (.bl (decide (a<b))):=rfl
theorem gt_ {a b:Int}:dGt (.int a) (.int b)=some (.bl (decide (b<a))):=rfl
theorem sub_ {a b:Int}:JE (.int a) (.int b)=some (.int (a - b)):=rfl
theorem W3 {ρ:Ev}:ZJ zr ρ=some (.lst []):=by rw [fLst_];exact YS (ds:=[]) (ZK (by simp))
theorem Y2 {ρ:Ev} {f f':Ev->Option D} {d d':D} (e:f ρ=some d) (e':f' ρ=some d'):ZC (zf f (zf f' zr)) ρ=some (.tup [d,d']):=by
 rw [fTup_,Zo,e,oB,Zo,e'];exact dTup_ (ZK (by simp))
theorem atB {B:List D} {j:Nat} (h:j<B.length):atI B ((j:Nat):Int)=some (B.getD j .non):=zw (by simp [List.getD,h])
theorem mem_getD {B:List D} {j:Nat} (h:j<B.length):B.getD j .non∈B:=by
 simp only [List.getD,Qv h,Option.getD_some]
 exact Pv h
theorem Jd (ns:List Int) (k:Int) (h0:0<=k) (hk:k<=1000):∃ v:Int,Jx [.scr ns,.int k]=some (.int v):=by
 suffices h:Wo (Jx [.scr ns,.int k]) fun d=>∃ v:Int,d=.int v by
  obtain ⟨d,e,v,rfl⟩:=h
  exact ⟨v,e⟩
 unfold Jx bq18
 rw [Z6]
 refine ⟨rfl,?_⟩
 simp only [zM,zMap,zLen,List.replicate,zApp,QD,Nat.reduceAdd,Nat.reduceSub]
 have el:∀ ρ:Ev,ρ[0]?.join=some (.scr ns)->fA yX (zh true (zb 0)) ρ=some (.int (ns.length:Nat)):=fun ρ h=>by
  rw [fA_,fSeq_,show zb 0 ρ=some (.scr ns) from h,oB]
  show yX (ns.map D.int)=_
  rw [gLen_,Qg]
 have tail:∀ v:Int,Wo (zO (Zi 2 (f2 yf (f2 Yn (zb 2) (zb 2)) (fC (.int 2147483629)))) (ZQ (f2 yf (f2 Yn (f2 ZT (zb 2) (fC (.int 11))) (f2 ZT (zb 2) (fC (.int 3)))) (fC (.int 2147483587)))) [some (.scr ns),some (.int k),some (.int v)]) (wx fun d=>∃ v:Int,d=.int v)\/¬ (-(2 ^ 64)<v/\v<2 ^ 64):=fun v=>by
  by_cases hv:-(2 ^ 64)<v/\v<2 ^ 64
  ·left
   rw [zt]
   refine ZO (f2v (f2v rfl rfl (yt (wc hv.1 hv.2))) rfl (Zw (by decide))) ?_
   simp only [zSet,zj]
   have m0:=Qx (v*v) (show (2147483629:Int)≠0 by decide)
   have m1:=Qy (v*v) (show (0:Int)<2147483629 by decide)
   exact jf (f2v (f2v (f2v rfl rfl rfl) (f2v rfl rfl rfl) (yt (wc (by omega) (by omega)))) rfl (Zw (by decide))) ⟨_,rfl⟩
  ·exact .inr hv
 by_cases hlt:k<(ns.length:Nat)
 ·rw [zt]
  refine if_t (z6 (f2v rfl (el _ rfl) (by show some (D.bl (decide (k<((ns.length:Nat):Int))))=_;rw [KU hlt]))) ?_
  exact wz (zV (ds:=ns.map .int) rfl rfl (Wr h0 hlt)) ⟨_,rfl⟩
 ·rw [zt]
  refine jr (z6 (f2v rfl (el _ rfl) (by show some (D.bl (decide (k<((ns.length:Nat):Int))))=_;rw [KW hlt]))) ?_
  rw [ZB,zG,zj,zt]
  refine ZO (f2v (f2v rfl rfl (yt (wc (by omega) (by omega)))) rfl rfl) ?_
  simp only [zSet,zj]
  rw [zt]
  by_cases hp:(0:Int)<(ns.length:Nat)
  ·refine if_t (z6 (f2v (el _ rfl) rfl (by rw [gt_,KU hp]))) ?_
   have q0:=Qx (k*7) (show ((ns.length:Nat):Int)≠0 by omega)
   have q1:=Qy (k*7) hp
   refine ZO (f2v (f2v (f2v (zV (ds:=ns.map .int) rfl (f2v (f2v rfl rfl (yt (wc (by omega) (by omega)))) (el _ rfl) (Zw hp)) (Wr q0 q1)) rfl (yt (mulT (by decide) (by decide)))) (f2v rfl rfl (yt (wc (by omega) (by omega)))) rfl) rfl (Zw (by decide))) ?_
   simp only [zSet,zj]
   refine (tail _).resolve_right fun z=>z ?_
   have r0:=Qx (ns.getD (k*7 % ((ns.length:Nat):Int)).toNat 0*48271+k*7919) (show (2147483647:Int)≠0 by decide)
   have r1:=Qy (ns.getD (k*7 % ((ns.length:Nat):Int)).toNat 0*48271+k*7919) (show (0:Int)<2147483647 by decide)
   exact ⟨by omega,by omega⟩
  ·refine jr (z6 (f2v (el _ rfl) rfl (by rw [gt_,KW hp]))) ?_
   rw [ZB,zG,zj]
   exact (tail _).resolve_right fun z=>z ⟨by omega,by omega⟩
theorem at_mod {L:List D} {c:Int} (h:0<L.length):∃ d∈L,atI L (c % (L.length:Nat))=some d:=by
 have h0:=Qx c (show ((L.length:Nat):Int)≠0 by omega)
 have h1:=Qy c (show (0:Int)<(L.length:Nat) by omega)
 obtain ⟨j,hj⟩:∃ j:Nat,c % (L.length:Nat)=(j:Nat):=⟨(c % (L.length:Nat)).toNat,by omega⟩
 have hl:j<L.length:=by omega
 exact ⟨L.getD j .non,mem_getD hl,by rw [hj];exact atB hl⟩
theorem ns_small:∀ x∈([0,1,0,-1,1,2,0,3,-2]:List Int),x.natAbs<=3:=by decide
theorem line_ok (c:Int) {KN:Nat} (hm:KN<=6):∃ ns:List Int,mq19 [.int c,.int (KN:Nat)]=some (.tup (ns.map .int))/\ns.length=KN+1/\∀ x∈ns,x.natAbs<=2000000:=by
 suffices h:Wo (mq19 [.int c,.int (KN:Nat)]) fun d=>∃ ns:List Int,d=.tup (ns.map .int)/\ns.length=KN+1/\∀ x∈ns,x.natAbs<=2000000 by
  obtain ⟨d,e,ns,rfl,q⟩:=h
  exact ⟨ns,e,q⟩
 unfold mq19 bq19
 rw [Z6]
 refine ⟨rfl,?_⟩
 simp only [zM,zMap,zLen,List.replicate,zApp,QD,Nat.reduceAdd,Nat.reduceSub]
 rw [zt]
 refine new_ W3 (by simp) ?_
 simp only [zSet,zj]
 rw [zt,jS,rng1v (n:=KN+1) (f2v rfl rfl rfl) (by omega),oB]
 refine Yo (fun i ρ=>∃ (ns:List Int) (a b e:Option D),ρ=[some (.int c),some (.int (KN:Nat)),some (.lst (ns.map .int)),a,b,e]/\ns.length=i/\∀ x∈ns,x.natAbs<=2000000) ⟨[],_,_,_,rfl,rfl,fun x hx=>by cases hx⟩ ?_ ?_
 ·rintro i d ρ hd ⟨ns,a,b,e,rfl,hl,hb⟩
  obtain ⟨hi,rfl⟩:=yA hd
  rw [Pj,yT,zG]
  simp only [zSet]
  have hii:((i:Nat):Int)*(i:Nat)=((i*i:Nat):Int):=by rw [Int.natCast_mul]
  have hpos:(0:Int)<=(i:Nat)*(i:Nat):=by rw [hii];omega
  rw [zt]
  refine ZO (f2v (f2v (f2v (f2v rfl (f2v (f2v rfl rfl (yt (wc (by omega) (by omega)))) rfl yY) (dDivP_s (show (i:Nat)*(i:Nat)+3≠(0:Int) by omega))) rfl (yt (mulT (by decide) (by decide)))) (f2v rfl rfl (yt (wc (by omega) (by omega)))) yY) rfl (Zw (by decide))) ?_
  simp only [zSet,zj]
  generalize (c.fdiv ((i:Nat)*(i:Nat)+3)*48271+(i:Nat)*69621) % 2147483647=v
  have q0:=Qx v (show (9:Int)≠0 by decide)
  have q1:=Qy v (show (0:Int)<9 by decide)
  rw [zt]
  refine ZO (d:=.int (([0,1,0,-1,1,2,0,3,-2]:List Int).getD (v % 9).toNat 0)) (zV (ds:=([0,1,0,-1,1,2,0,3,-2]:List Int).map .int) rfl (f2v rfl rfl (Zw (by decide))) (Wr q0 q1)) ?_
  simp only [zSet,zj]
  have hx0:(([0,1,0,-1,1,2,0,3,-2]:List Int).getD (v % 9).toNat 0).natAbs<=3:=by
   refine ns_small _ ?_
   have hlt:(v % 9).toNat<9:=by omega
   simp only [List.getD]
   rw [Qv (by simpa using hlt),Option.getD_some]
   exact Pv _
  generalize (([0,1,0,-1,1,2,0,3,-2]:List Int).getD (v % 9).toNat 0)=x0 at hx0
  have fin:∀ x:Int,x.natAbs<=2000000->Wo (W6 2 yx (zb 5) [some (.int c),some (.int (KN:Nat)),some (.lst (ns.map .int)),some (.int (i:Nat)),some (.int v),some (.int x)]) fun o=>match o with
    | .nx ρ2=>∃ (ns:List Int) (a b e:Option D),ρ2=[some (.int c),some (.int (KN:Nat)),some (.lst (ns.map .int)),a,b,e]/\ns.length=i+1/\∀ x∈ns,x.natAbs<=2000000
    | .ct ρ2=>∃ (ns:List Int) (a b e:Option D),ρ2=[some (.int c),some (.int (KN:Nat)),some (.lst (ns.map .int)),a,b,e]/\ns.length=i+1/\∀ x∈ns,x.natAbs<=2000000
    | .bk ρ2=>gA (ZQ (fA jV (zh true (zb 2)))) (wx fun d=>∃ ns:List Int,d=.tup (ns.map .int)/\ns.length=KN+1/\∀ x∈ns,x.natAbs<=2000000) (.nx ρ2)
    | .rt r=>gA (ZQ (fA jV (zh true (zb 2)))) (wx fun d=>∃ ns:List Int,d=.tup (ns.map .int)/\ns.length=KN+1/\∀ x∈ns,x.natAbs<=2000000) (.rt r):=fun x hx=>by
   refine upd_ (d:=.int x) rfl rfl (Yy (YJ (by rw [Qg];omega))) ?_
   simp only [zSet]
   refine ⟨ns++[x],_,_,_,by rw [Q5];rfl,by simp [hl],fun y hy=>?_⟩
   rcases QA.mp hy with hy | hy
   ·exact hb y hy
   ·rw [Qo.mp hy];exact hx
  rw [zt]
  refine wV (z6 (f2v (f2v (f2v rfl rfl (yj (by decide) (by decide))) rfl (Zw (by decide))) rfl YT)) (fun _=>?_) (fun _=>?_)
  ·rw [zt]
   have w0:=Qx (v / 540) (show (1999999:Int)≠0 by decide)
   have w1:=Qy (v / 540) (show (0:Int)<1999999 by decide)
   refine ZO (f2v (f2v (f2v rfl rfl (yj (by decide) (by decide))) rfl (Zw (by decide))) rfl sub_) ?_
   simp only [zSet,zj]
   refine wV (z6 (f2v rfl rfl gt_)) (fun _=>?_) (fun _=>?_)
   ·have u0:=Qx (v / 540 % 1999999 - 999999) (show (19:Int)≠0 by decide)
    have u1:=Qy (v / 540 % 1999999 - 999999) (show (0:Int)<19 by decide)
    refine ZO (f2v (f2v rfl rfl (Zw (by decide))) rfl sub_) ?_
    simp only [zSet,zj]
    exact fin _ (by omega)
   ·rw [ZB,zG,zj]
    exact fin _ (by omega)
  ·rw [ZB,zG,zj]
   exact fin _ (by omega)
 ·rintro ρ ⟨ns,a,b,e,rfl,hl,hb⟩
  rw [Zx] at hl
  rw [zj]
  exact jf (tupL rfl) ⟨ns,rfl,hl,hb⟩
theorem wts_ints:∀ ns:List Int,wts (ns.map .int)=9*ns.length
 | []=>by simp [wts]
 | n::ns=>by rw [Qr,wts,wts_ints ns,wt,Qd];omega;all_goals (intros;simp_all)
theorem jb {ds:List D}:wt (.tup ds)=wts ds:=by rw [wt]
theorem wt_lst {ds:List D}:wt (.lst ds)=wts ds:=by rw [wt]
theorem wt_int {i:Int}:wt (.int i)=8:=by simp [wt]
theorem jE {x:Kw}:wt (.str x)=8:=by simp [wt]
theorem ne_nil {xs:List D} (h:Y5 (.lst xs)=true):dNeD (.lst xs) (.lst [])=some (.bl (!xs.isEmpty)):=by
 unfold dNeD
 rw [KR ⟨h,by decide⟩]
 unfold eqD
 cases xs with
 | nil=>rw [ZZ,yh,PyData.eqv];simp [PyData.eqvAll]
 | cons a t=>rw [ZZ,yh,ZZ,yh,PyData.eqv];simp [PyData.eqvAll]
open RW (Py Fi Sc wt wts names JH)
variable {mm:Nat}
mutual
def nd:D->Nat
 | .tup ds=>1+nds ds
 | .lst ds=>nds ds
 | _=>0
def nds:List D->Nat
 | []=>0
 | d::ds=>nd d+nds ds
end
theorem Yx {ds:List D}:nd (.tup ds)=1+nds ds:=by rw [nd]
theorem Jw {ds:List D}:nd (.lst ds)=nds ds:=by rw [nd]
theorem nd_int {i:Int}:nd (.int i)=0:=by simp [nd]
theorem Jv {x:Kw}:nd (.str x)=0:=by simp [nd]
theorem nds_app:∀ a b:List D,nds (a++b)=nds a+nds b
 | [],b=>by rw [Pn,nds];omega
 | d::a,b=>by rw [Pw,nds,nds,nds_app a b];omega
theorem nds_ints:∀ ns:List Int,nds (ns.map .int)=0
 | []=>by simp [nds]
 | n::ns=>by rw [Qr,nds,nds_ints ns,nd_int]
abbrev r0:Nat->Nat:=fun _=>0
def gC (mm nb f:Nat) (d:D):Prop:=∃ t:Rq,d=t.toD/\t.ok mm nb/\t.lat f/\t.rk r0<=1/\Fi 3 d/\(wt d<=150/\nd d<=2)/\((t=.loop []\/t=.either [] [])\/(∃ k,t=.call k)\/∃ x ps,t=.one x ps)
def YO (p:Nat×Int):D:=.tup [.int (p.1:Nat),.int p.2]
def Ym (KM:List (Nat×Int)):D:=.lst (KM.map YO)
structure LatOk (nb f:Nat) (KM:List (Nat×Int)):Prop where
 few:KM.length<=4
 few2:nb<=4
 mem:∀ p∈KM,f<=p.1/\p.1<nb
theorem lat_py (KM:List (Nat×Int)):Y5 (Ym KM)=true:=by
 have h:Py 2 (Ym KM):=.lst fun d hd=>by
  obtain ⟨p,hp,rfl⟩:=QT.mp hd
  refine Py.tup (n:=0) fun e he=>?_
  simp only [Qc,Qn,or_false] at he
  rcases he with rfl | rfl <;> exact .int _ _
 unfold Y5 SeqAt.shaped
 rw [h.1,KU (Qw h.2 (by omega))];rfl
theorem j6 (x:Kw) (ps:List D):(Rq.one x ps).toD=.tup (.str x::ps):=by rw [Rq.toD]
theorem Y3 (k:Nat):(Rq.call k).toD=.tup [.str "call",.int (k:Nat)]:=by rw [Rq.toD]
theorem Ys (a:List Rq):(Rq.loop a).toD=.tup [.str "loop",.lst (qDs a)]:=by rw [Rq.toD]
theorem yz (a b:List Rq):(Rq.either a b).toD=.tup [.str "either",.lst (qDs a),.lst (qDs b)]:=by rw [Rq.toD]
theorem JA {n:Nat} {ds:List D} (h:∀ r∈ds,Fi n r):Fi (n+1) (.tup ds):=.inr ⟨ds,.inl rfl,h⟩
theorem fi_lst {n:Nat} {ds:List D} (h:∀ r∈ds,Fi n r):Fi (n+1) (.lst ds):=.inr ⟨ds,.inr rfl,h⟩
theorem Wf {nb f:Nat} {x:Kw} {ps:List D} (hx:x≠"call"/\x≠"loop"/\x≠"either") (hn:names.contains x=true) (hp:ps.length<=10) (hl:∀ p∈ps,Lf p=true) (hf:∀ p∈ps,Fi 2 p) (hw:wt (.tup (.str x::ps))<=150) (hn2:nds ps<=1) (hk:Dk mm x ps):gC mm nb f (.tup (.str x::ps)):=by
 have hfi:Fi 3 (.tup (.str x::ps)):=JA fun r hr=>by
  rcases Qc.mp hr with rfl | hr
  ·exact .str hn _
  ·exact hf r hr
 exact ⟨.one x ps,(j6 x ps).symm,by rw [Rq.ok];exact ⟨hx,hp,hl,hfi.pyd.mono (by omega),hk⟩,by rw [Rq.lat];trivial,by rw [Rq.rk];omega,hfi,⟨hw,by rw [Yx,nds,Jv];omega⟩,.inr (.inr ⟨_,_,rfl⟩)⟩
theorem row_call {nb f k:Nat} (h1:f<=k) (h2:k<nb) (hnb:nb<=4):gC mm nb f (.tup [.str "call",.int (k:Nat)]) :=
 ⟨.call k,(Y3 k).symm,by rw [Rq.ok];exact h2,by rw [Rq.lat];exact h1,by rw [Rq.rk];exact Ql 1,JA fun r hr=>by
  simp only [Qc,Qn,or_false] at hr
  rcases hr with rfl | rfl
  ·exact .str (by decide) _
  ·exact .int (Qw (m:=10) (by omega) (by decide)) _,⟨by simp only [jb,wts,jE,wt_int];omega,by simp only [Yx,nds,Jv,nd_int];omega⟩,.inr (.inl ⟨_,rfl⟩)⟩
theorem fi_nil (n:Nat):Fi (n+1) (.lst []):=fi_lst fun r hr=>by cases hr
theorem row_loop {nb f:Nat}:gC mm nb f (.tup [.str "loop",.lst []]) :=
 ⟨.loop [],by rw [Ys,qDs],by rw [Rq.ok,oks];exact ⟨trivial,by simp⟩,by rw [Rq.lat,YE];trivial,by rw [Rq.rk,rks];omega,JA fun r hr=>by
  simp only [Qc,Qn,or_false] at hr
  rcases hr with rfl | rfl
  ·exact .str (by decide) _
  ·exact fi_nil 1,⟨by simp only [jb,wts,jE,wt_lst];omega,by simp only [Yx,nds,Jv,Jw];omega⟩,.inl (.inl rfl)⟩
theorem row_either {nb f:Nat}:gC mm nb f (.tup [.str "either",.lst [],.lst []]) :=
 ⟨.either [] [],by rw [yz,qDs],by rw [Rq.ok,oks];exact ⟨⟨trivial,by simp⟩,trivial,by simp⟩,by rw [Rq.lat,YE];exact ⟨trivial,trivial⟩,by rw [Rq.rk,rks];omega,JA fun r hr=>by
  simp only [Qc,Qn,or_false] at hr
  rcases hr with rfl | rfl | rfl
  ·exact .str (by decide) _
  ·exact fi_nil 1
  ·exact fi_nil 1,⟨by simp only [jb,wts,jE,wt_lst];omega,by simp only [Yx,nds,Jv,Jw];omega⟩,.inl (.inr rfl)⟩
theorem lenv {f:Ev->Option D} {ρ:Ev} {ds:List D} (h:f ρ=some (.lst ds)):fA yX (zh true f) ρ=some (.int (ds.length:Nat)):=by rw [fA_,ZP h,oB,gLen_]
theorem deed_ok (c:Int) {KN nb f:Nat} (hm:KN<=6) {KM:List (Nat×Int)} (hl:LatOk nb f KM):∃ d,mq20 [.int c,.int (KN:Nat),Ym KM]=some d/\gC KN nb f d:=by
 suffices h:Wo (mq20 [.int c,.int (KN:Nat),Ym KM]) (gC KN nb f) by
  obtain ⟨d,e,q⟩:=h
  exact ⟨d,e,q⟩
 unfold mq20 bq20
 rw [Z6]
 refine ⟨rfl,?_⟩
 simp only [zM,zMap,zLen,List.replicate,zApp,QD,Nat.reduceAdd,Nat.reduceSub]
 rw [zt]
 refine ZO (f2v (f2v rfl rfl (yj (by decide) (by decide))) rfl (Zw (by decide))) ?_
 simp only [zSet,zj]
 generalize c / 8 % 13=kd
 rw [zt]
 refine wV (andc (z6 (f2v rfl rfl gt_)) fun _=>z6 (f2v rfl W3 (ne_nil (lat_py KM)))) (fun e=>?_) (fun _=>?_)
 ·simp only [QK,decide_eq_true_eq,PM,List.isEmpty_eq_false_iff,ne_eq,List.map_eq_nil_iff] at e
  have hpos:0<KM.length:=List.length_pos_iff.mpr e.2
  have ec:Z4 1 (zh true (zb 2)) (zR 5) YF (ZC (zf (fC (.str "call")) (zf (fIx (zh false (zb 5)) (fC (.int 0))) zr))) [some (.int c),some (.int (KN:Nat)),some (Ym KM),some (.int kd),none]=some (.lst (KM.map fun p=>.tup [.str "call",.int (p.1:Nat)])):=by
   have:=jX (k:=1) (fl:=zh true (zb 2)) (u:=zR 5) (c:=YF) (e:=ZC (zf (fC (.str "call")) (zf (fIx (zh false (zb 5)) (fC (.int 0))) zr))) (ρ:=[some (.int c),some (.int (KN:Nat)),some (Ym KM),some (.int kd),none]) (KM.map fun p=>(YO p,.tup [.str "call",.int (p.1:Nat)])) (fun ρ=>∃ z:Option D,ρ=[some (.int c),some (.int (KN:Nat)),some (Ym KM),some (.int kd),none,z])
    ((ZP (ds:=KM.map YO) rfl).trans (by rw [Pi];rfl)) (by rw [Qg];have:=hl.few;omega) ⟨none,rfl⟩ (by
     rintro p ρ hp ⟨z,rfl⟩
     obtain ⟨x,hx,rfl⟩:=QT.mp hp
     exact ⟨_,rfl,rfl,Y2 rfl (zV (Zr (zJ rfl)) rfl (zw (j:=0) rfl)),_,rfl⟩)
   rw [this,Pi]
   rfl
  obtain ⟨d,hd,ed⟩:=at_mod (L:=KM.map fun p=>.tup [.str "call",.int (p.1:Nat)]) (c:=c / 104) (by rw [Qg];exact hpos)
  rw [Qg] at ed
  obtain ⟨p,hp,rfl⟩:=QT.mp hd
  refine wz (Jo (zV (ZP ec) (f2v (f2v rfl rfl (yj (by decide) (by decide))) (lenv (ds:=KM.map YO) rfl) (by rw [Qg];exact Zw (by omega))) ed) rfl) ?_
  exact row_call (hl.mem p hp).1 (hl.mem p hp).2 hl.few2
 ·rw [ZB,zG,zj,zt]
  refine wV (z6 (f2v rfl rfl YT)) (fun e=>?_) (fun _=>?_)
  ·exact wz (JK rfl W3 W3) row_either
  ·rw [ZB,zG,zj,zt]
   refine wV (z6 (f2v rfl rfl YT)) (fun e=>?_) (fun _=>?_)
   ·exact wz (Y2 rfl W3) row_loop
   ·rw [ZB,zG,zj,zt]
    refine wV (andc (z6 (f2v rfl rfl YT)) fun _=>z6 (f2v (f2v (f2v rfl rfl (yj (by decide) (by decide))) rfl (Zw (by decide))) rfl YT)) (fun e=>?_) (fun _=>?_)
    ·exact wz (Jo (tup1_ rfl) rfl) (Wf (ps:=[]) (by decide) (by decide) (by simp) (fun p hp=>by cases hp) (fun p hp=>by cases hp) (by simp only [jb,wts,jE];omega) (by simp only [nds];omega) (.inr (.inl ⟨rfl,rfl⟩)))
    ·rw [ZB,zG,zj,zt]
     refine wV (orv (z6 (f2v rfl rfl YT)) fun _=>z6 (f2v rfl rfl YT)) (fun e=>?_) (fun e=>?_)
     ·exact wz (Jo (tup1_ rfl) rfl) (Wf (ps:=[]) (by decide) (by decide) (by simp) (fun p hp=>by cases hp) (fun p hp=>by cases hp) (by simp only [jb,wts,jE];omega) (by simp only [nds];omega) (.inl ⟨rfl,rfl⟩))
     ·rw [ZB,zG,zj,zt]
      simp only [P3,decide_eq_false_iff_not] at e
      have hpos:(0:Int)<(KN:Nat):=by omega
      have q0:=Qx (c / 104) (show ((KN:Nat):Int)≠0 by omega)
      have q1:=Qy (c / 104) hpos
      refine ZO (f2v (f2v rfl rfl (yj (by decide) (by decide))) rfl (Zw hpos)) ?_
      simp only [zSet,zj]
      generalize c / 104 % ((KN:Nat):Int)=box at q0 q1
      have fb:Fi 2 (.int box):=.int (Qw (m:=10) (by omega) (by decide)) _
      rw [zt]
      refine wV (andc (z6 (f2v rfl rfl gt_)) fun _=>z6 (f2v rfl rfl lt_)) (fun _=>?_) (fun _=>?_)
      ·refine wz (Jo (Y2 rfl rfl) rfl) (Wf (ps:=[.int box]) (by decide) (by decide) (by simp) (fun p hp=>?_) (fun p hp=>?_) (by simp only [jb,wts,jE,wt_int];omega) (by simp only [nds,nd_int];omega) (.inr (.inr (.inl ⟨box.toNat,rfl,by rw [P6 q0],by omega⟩))))
       ·rw [Qo.mp hp];rfl
       ·rw [Qo.mp hp];exact fb
      ·rw [ZB,zG,zj]
       obtain ⟨ns,el,hln,hx⟩:=line_ok (c / 13) hm
       refine wz (Jo (JK rfl rfl (fA2 (f2v rfl rfl (yj (by decide) (by decide))) rfl el)) (by simp [D.flat,YR,flats_ints])) (Wf (ps:=[.int box,.tup (ns.map .int)]) (by decide) (by decide) (by simp) (fun p hp=>?_) (fun p hp=>?_) (by simp only [jb,wts,jE,wt_int,wts_ints];omega) (by simp only [nds,nd_int,Yx,nds_ints];omega) (.inr (.inr (.inr ⟨box.toNat,ns,rfl,by rw [P6 q0],by omega,hln,hx⟩))))
       ·simp only [Qc,Qn,or_false] at hp
        rcases hp with rfl | rfl <;> rfl
       ·simp only [Qc,Qn,or_false] at hp
        rcases hp with rfl | rfl
        ·exact fb
        ·refine JA fun r hr=>?_
         obtain ⟨x,hx',rfl⟩:=QT.mp hr
         exact .int (Qw (hx x hx') (by decide)) _
variable {mm:Nat}
def Gq (mm nb f n:Nat) (d:D):Prop:=∃ t:Rq,d=t.toD/\t.ok mm nb/\t.lat f/\t.rk r0<=n/\Fi (2*n+3) d
section
variable {nb f:Nat}
theorem Gq.mono {n m:Nat} {d:D} (h:Gq mm nb f n d) (hm:n<=m):Gq mm nb f m d:=by
 obtain ⟨t,a,b,c,e,g⟩:=h
 exact ⟨t,a,b,c,by omega,g.mono (by omega)⟩
theorem gC.gq {d:D} (h:gC mm nb f d) {n:Nat} (hn:1<=n):Gq mm nb f n d:=by
 obtain ⟨t,a,b,c,e,g,_⟩:=h
 exact ⟨t,a,b,c,by omega,g.mono (by omega)⟩
theorem JV {n:Nat}:∀ {ds:List D},(∀ r∈ds,Gq mm nb f n r)->∃ ts:List Rq,ds=qDs ts/\oks mm nb ts/\YE f ts/\rks r0 ts<=n/\ts.length=ds.length
 | [],_=>⟨[],by rw [qDs],by rw [oks];trivial,by rw [YE];trivial,by rw [rks];omega,rfl⟩
 | d::ds,h=>by
  obtain ⟨t,a,b,c,e,_⟩:=h d Qt
  obtain ⟨ts,a',b',c',e',l'⟩:=JV fun r hr=>h r (Qe _ hr)
  exact ⟨t::ts,by rw [qDs,<- a,<- a'],by rw [oks];exact ⟨b,b'⟩,by rw [YE];exact ⟨c,c'⟩,by rw [rks];omega,by simp [l']⟩
theorem gq_fi {n:Nat} {ds:List D} (h:∀ r∈ds,Gq mm nb f n r):Fi (2*n+4) (.lst ds):=fi_lst fun r hr=>by obtain ⟨_,_,_,_,_,g⟩:=h r hr;exact g
theorem gq_loop {n:Nat} {ds:List D} (hl:ds.length<=100) (h:∀ r∈ds,Gq mm nb f n r):Gq mm nb f (n+1) (.tup [.str "loop",.lst ds]):=by
 obtain ⟨ts,rfl,b,c,e,l⟩:=JV h
 refine ⟨.loop ts,(Ys ts).symm,by rw [Rq.ok];exact ⟨b,by omega⟩,by rw [Rq.lat];exact c,by rw [Rq.rk];omega,?_⟩
 refine JA (n:=2*n+4) fun r hr=>?_
 simp only [Qc,Qn,or_false] at hr
 rcases hr with rfl | rfl
 ·exact .str (by decide) _
 ·exact gq_fi h
theorem Jb {n:Nat} {as bs:List D} (la:as.length<=100) (ha:∀ r∈as,Gq mm nb f n r) (lb:bs.length<=100) (hb:∀ r∈bs,Gq mm nb f n r):Gq mm nb f (n+1) (.tup [.str "either",.lst as,.lst bs]):=by
 obtain ⟨ts,rfl,b,c,e,l⟩:=JV ha
 obtain ⟨us,rfl,b',c',e',l'⟩:=JV hb
 refine ⟨.either ts us,(yz ts us).symm,by rw [Rq.ok];exact ⟨⟨b,by omega⟩,b',by omega⟩,by rw [Rq.lat];exact ⟨c,c'⟩,by rw [Rq.rk];omega,?_⟩
 refine JA (n:=2*n+4) fun r hr=>?_
 simp only [Qc,Qn,or_false] at hr
 rcases hr with rfl | rfl | rfl
 ·exact .str (by decide) _
 ·exact gq_fi ha
 ·exact gq_fi hb
def FrOk (mm nb f m n:Nat) (fr:Fr):Prop:=(fr.x="loop"/\fr.pre=[]/\fr.post=[])\/(fr.x="either"/\fr.pre=[]/\fr.post=[.lst []])\/(fr.x="either"/\fr.post=[]/\∃ a,fr.pre=[.lst a]/\a.length<=m/\∀ r∈a,Gq mm nb f n r)
def Fq (mm nb f dp m:Nat):Nat->List Fr->Prop
 | n,[]=>n=dp
 | n,fr::fs=>FrOk mm nb f m n fr/\fr.done.length+1<=m/\(∀ r∈fr.done,Gq mm nb f (n+1) r)/\Fq mm nb f dp m (n+1) fs
structure Zt (mm nb f dp m n:Nat) (top:List D) (fs:List Fr):Prop where
 len:top.length<=m
 gq:∀ r∈top,Gq mm nb f n r
 pos:1<=n
 fq:Fq mm nb f dp m n fs
variable {dp:Nat}
theorem FrOk.up {m n:Nat} {fr:Fr} (h:FrOk mm nb f m n fr):FrOk mm nb f (m+1) n fr:=by
 rcases h with h | h | ⟨h1,h2,a,h3,h4,h5⟩
 ·exact .inl h
 ·exact .inr (.inl h)
 ·exact .inr (.inr ⟨h1,h2,a,h3,by omega,h5⟩)
theorem Fq.up {m:Nat}:∀ {n:Nat} {fs:List Fr},Fq mm nb f dp m n fs->Fq mm nb f dp (m+1) n fs
 | n,[],h=>h
 | n,fr::fs,⟨a,b,c,d⟩=>⟨a.up,by omega,c,d.up⟩
theorem Fq.sum {m:Nat}:∀ {n:Nat} {fs:List Fr},Fq mm nb f dp m n fs->n+fs.length=dp
 | n,[],h=>h
 | n,fr::fs,⟨_,_,_,d⟩=>by have:=d.sum;simp only [Qd];omega
theorem Zt.up {m n:Nat} {top:List D} {fs:List Fr} (z:Zt mm nb f dp m n top fs):Zt mm nb f dp (m+1) n top fs:=⟨Nat.le_succ_of_le z.len,z.gq,z.pos,z.fq.up⟩
theorem Zt.row {m n:Nat} {top:List D} {fr:Fr} {fs:List Fr} (z:Zt mm nb f dp m n top (fr::fs)) (hm:m<=100):Zt mm nb f dp m (n+1) (shut fr top) fs:=by
 obtain ⟨a,b,c,d⟩:=z.fq
 refine ⟨?_,fun r hr=>?_,by omega,d⟩
 ·unfold shut;rw [Qj];simp only [Qd,QB];omega
 ·unfold shut at hr
  rcases QA.mp hr with hr | hr
  ·exact c r hr
  ·rw [Qo.mp hr]
   have hl:=z.len
   rcases a with ⟨h1,h2,h3⟩ | ⟨h1,h2,h3⟩ | ⟨h1,h2,e,h3,h4,h5⟩
   ·rw [h1,h2,h3];exact gq_loop (by omega) z.gq
   ·rw [h1,h2,h3];exact Jb (by omega) z.gq (by simp) fun r hr=>by cases hr
   ·rw [h1,h2,h3];exact Jb (by omega) h5 (by omega) z.gq
theorem Zt.shut {m:Nat} (hm:m<=100):∀ {fs:List Fr} {n:Nat} {top:List D},Zt mm nb f dp m n top fs->(ZA top fs).length<=m/\∀ r∈ZA top fs,Gq mm nb f dp r
 | [],n,top,z=>by
  have e:n=dp:=z.fq
  subst e
  exact ⟨z.len,z.gq⟩
 | fr::fs,n,top,z=>by rw [ZA];exact Zt.shut hm (z.row hm)
theorem j3:∀ (fs:List Fr) (top:List D),wts (ZA top fs)=wts top+wts (ZA [] fs)
 | [],top=>by rw [ZA,ZA];simp only [wts];omega
 | fr::fs,top=>by
  rw [ZA,ZA,j3 fs (M.shut fr top),j3 fs (M.shut fr [])]
  unfold M.shut
  simp only [JH,wts,jb,wt_lst]
  omega
theorem j9:∀ (fs:List Fr) (top:List D),nds (ZA top fs)=nds top+nds (ZA [] fs)
 | [],top=>by rw [ZA,ZA];simp only [nds];omega
 | fr::fs,top=>by
  rw [ZA,ZA,j9 fs (M.shut fr top),j9 fs (M.shut fr [])]
  unfold M.shut
  simp only [nds_app,nds,Yx,Jw]
  omega
theorem inV2 {x:Kw} (h1:x≠"either") (h2:x≠"loop"):inV (.str x) jP=false:=by
 unfold inV jP
 simp only [Pm,List.any_nil,Bool.or_false,P3]
 exact ⟨by simp [eqV];exact fun e=>h1 e.symm,by simp [eqV];exact fun e=>h2 e.symm⟩
theorem add_ok {m n:Nat} {top:List D} {fs:List Fr} {d:D} (z:Zt mm nb f dp m n top fs) (hd:gC mm nb f d) (hm:m<100) (hdp:dp<=10):∃ top' fs' n',addQ (dp:Nat) d top fs=some (top',fs')/\Zt mm nb f dp (m+1) n' top' fs'/\ZA top' fs'=ZA (top++[d]) fs:=by
 have hg:=hd.gq z.pos
 have hl:=z.len
 have hs:=z.fq.sum
 have zup:Zt mm nb f dp (m+1) n (top++[d]) fs:=⟨by rw [Qj];simp only [Qd,QB];omega,fun r hr=>by
  rcases QA.mp hr with hr | hr
  ·exact z.gq r hr
  ·rw [Qo.mp hr];exact hg,z.pos,z.fq.up⟩
 have htop:top.length<Kg:=YJ (by omega)
 obtain ⟨t,rfl,ok,_,_,_,_,hk⟩:=hd
 have hn:=z.pos
 have fit:∀ {x:Kw} {ps:List D},FrOk mm nb f (m+1) (n - 1) ⟨top,x,[],ps⟩->((fs.length+1:Nat):Int)<(dp:Nat)->Zt mm nb f dp (m+1) (n - 1) [] (⟨top,x,[],ps⟩::fs):=fun hF hlt =>
  ⟨by simp,fun r hr=>(by cases hr),by omega,hF,by simp only;omega,fun r hr=>by rw [show n - 1+1=n by omega];exact z.gq r hr,by rw [show n - 1+1=n by omega];exact z.fq.up⟩
 rcases hk with (rfl | rfl) | ⟨k,rfl⟩ | ⟨x,ps,rfl⟩
 ·rw [Ys,qDs] at zup ⊢
  unfold addQ
  simp only
  rw [KR ⟨htop,by omega,by simp⟩]
  by_cases ho:inV (.str "loop") jP=true/\((fs.length+1:Nat):Int)<(dp:Nat)
  ·rw [KR ho,KR ⟨by simp,by simp⟩]
   exact ⟨_,_,n - 1,rfl,fit (.inl ⟨rfl,rfl,rfl⟩) ho.2,by rw [ZA];rfl⟩
  ·rw [KS ho]
   exact ⟨_,_,n,rfl,zup,rfl⟩
 ·rw [yz,qDs] at zup ⊢
  unfold addQ
  simp only
  rw [KR ⟨htop,by omega,by simp⟩]
  by_cases ho:inV (.str "either") jP=true/\((fs.length+1:Nat):Int)<(dp:Nat)
  ·rw [KR ho,KR ⟨by simp,by simp⟩]
   exact ⟨_,_,n - 1,rfl,fit (.inr (.inl ⟨rfl,rfl,rfl⟩)) ho.2,by rw [ZA];rfl⟩
  ·rw [KS ho]
   exact ⟨_,_,n,rfl,zup,rfl⟩
 ·rw [Y3] at zup ⊢
  unfold addQ
  simp only
  rw [KR ⟨htop,by omega,by simp⟩,KS (fun h=>by rw [inV2 (by decide) (by decide)] at h;cases h.1)]
  exact ⟨_,_,n,rfl,zup,rfl⟩
 ·rw [Rq.ok] at ok
  rw [j6] at zup ⊢
  unfold addQ
  simp only
  rw [KR ⟨htop,by omega,by omega⟩,KS (fun h=>by rw [inV2 ok.1.2.2 ok.1.2.1] at h;cases h.1)]
  exact ⟨_,_,n,rfl,zup,rfl⟩
theorem pop_ok {m n:Nat} {top:List D} {fs:List Fr} (z:Zt mm nb f dp m n top fs) (hm:m<=100) (hp:0<fs.length):∃ top' fs' n',popQ top fs=some (top',fs')/\Zt mm nb f dp m n' top' fs'/\ZA top' fs'=ZA top fs:=by
 cases fs with
 | nil=>simp at hp
 | cons fr fs =>
  obtain ⟨a,b,c,d⟩:=id z.fq
  rcases a with ⟨h1,h2,h3⟩ | ⟨h1,h2,h3⟩ | ⟨h1,h2,e,h3,h4,h5⟩
  ·refine ⟨_,_,n+1,by rw [popQ,h3],z.row hm,by rw [ZA]⟩
  ·refine ⟨[],⟨fr.done,fr.x,fr.pre++[.lst top],[]⟩::fs,n,by rw [popQ,h3],⟨by simp,fun r hr=>(by cases hr),z.pos,.inr (.inr ⟨h1,rfl,top,by rw [h2];rfl,z.len,z.gq⟩),b,c,d⟩,?_⟩
   rw [ZA,ZA]
   unfold M.shut
   simp only
   rw [h2,h3]
   rfl
  ·refine ⟨_,_,n+1,by rw [popQ,h2],z.row hm,by rw [ZA]⟩
def Draws (mm nb f:Nat) (ρ:Ev) (F c1 c2:Ev->Option D):Prop:=∀ (u c:Int),∃ (d k1:D) (k:Int),F ((evQ ρ u).set 8 (some (.int c)))=some d/\gC mm nb f d/\c1 (((evQ ρ u).set 8 (some (.int c))).set 9 (some d))=some k1/\c2 ((((evQ ρ u).set 8 (some (.int c))).set 9 (some d)).set 10 (some k1))=some (.int k)
theorem step_ok {ρ:Ev} {F c1 c2:Ev->Option D} (hD:Draws mm nb f ρ F c1 c2) {m n:Nat} {top:List D} {fs:List Fr} {c u KO:Int} (z:Zt mm nb f dp m n top fs) (hm:m<100) (hdp:dp<=10):∃ top' fs' n' u',stepQ (dp:Nat) KO ρ F c1 c2 c top fs u=some ((top',fs'),u')/\Zt mm nb f dp (m+1) n' top' fs'/\wts (ZA top' fs')<=wts (ZA top fs)+151/\nds (ZA top' fs')<=nds (ZA top fs)+2:=by
 unfold stepQ
 by_cases hc:c % 8=0/\0<fs.length
 ·rw [KR hc]
  obtain ⟨top',fs',n',e,z',hcl⟩:=pop_ok z (by omega) hc.2
  exact ⟨top',fs',n',u,by rw [e];rfl,z'.up,by rw [hcl];omega,by rw [hcl];omega⟩
 ·rw [KS hc]
  obtain ⟨d,k1,k,e1,hd,e2,e3⟩:=hD u c
  have hr:isRowT d=true:=by
   obtain ⟨t,rfl,_⟩:=hd
   cases t with
   | one x ps=>rw [j6];rfl
   | call k=>rw [Y3];rfl
   | loop a=>rw [Ys];rfl
   | either a b=>rw [yz];rfl
  rw [e1,oB,KR hr,e2,oB,e3,oB,wZ,oB]
  by_cases hu:u+k<=KO
  ·rw [KR hu]
   obtain ⟨top',fs',n',e,z',hcl⟩:=add_ok z hd hm hdp
   obtain ⟨_,_,_,_,_,_,hw,_⟩:=hd
   refine ⟨top',fs',n',u+k,by rw [e];rfl,z',?_,?_⟩
   ·rw [hcl,j3 fs (top++[d]),j3 fs top,JH]
    simp only [wts]
    omega
   ·rw [hcl,j9 fs (top++[d]),j9 fs top,nds_app]
    simp only [nds]
    omega
  ·rw [KS hu]
   exact ⟨top,fs,n,u,rfl,z.up,by omega,by omega⟩
theorem goQ_ok {ρ:Ev} {F c1 c2:Ev->Option D} (hD:Draws mm nb f ρ F c1 c2) {KO:Int} (hdp:dp<=10):∀ (cs:List Int) (m n:Nat) (top:List D) (fs:List Fr) (u:Int),Zt mm nb f dp m n top fs->m+cs.length<=100->∃ out u',goQ (dp:Nat) KO ρ F c1 c2 cs top fs u=some (out,u')/\out.length<=m+cs.length/\(∀ r∈out,Gq mm nb f dp r)/\wts out<=wts (ZA top fs)+151*cs.length/\nds out<=nds (ZA top fs)+2*cs.length
 | [],m,n,top,fs,u,z,hm=>by
  obtain ⟨h1,h2⟩:=z.shut (by simp at hm;omega)
  exact ⟨_,u,by rw [goQ],by simpa using h1,h2,by simp,by simp⟩
 | c::cs,m,n,top,fs,u,z,hm=>by
  simp only [Qd] at hm
  obtain ⟨top',fs',n',u',e,z',hw,hn⟩:=step_ok (c:=c) (u:=u) (KO:=KO) hD z (by omega) hdp
  obtain ⟨out,u2,e2,hl,hg,hw2,hn2⟩:=goQ_ok hD hdp cs (m+1) n' top' fs' u' z' (by omega)
  refine ⟨out,u2,?_,by simp only [Qd];omega,hg,by simp only [Qd];omega,by simp only [Qd];omega⟩
  rw [goQ,e,oB]
  exact e2
end
variable {mm:Nat}
theorem eqD_ii (a b:Int):∃ w:Bool,wY (.int a) (.int b)=some (.bl w):=by
 have h:∀ i:Int,Y5 (.int i)=true:=fun i=>by
  unfold Y5 SeqAt.shaped
  rw [(Py.int i 0).1,KU (Qw (Py.int i 0).2 (by omega))];rfl
 exact ⟨_,by unfold wY;rw [KR ⟨h a,h b⟩]⟩
theorem cost_comp {nb f:Nat} {d:D} (hd:gC mm nb f d):∀ (KM:List (Nat×Int)) (ρ:Ev),ρ.length=12->ρ[9]?=some (some d)->∃ vs:List Int,yn (zR 11) (wv (zI (f2 ZE (fIx (zh false (zb 9)) (fC (.int 0))) (fC (.str "call")))) (zI (f2 wY (fIx (zh false (zb 11)) (fC (.int 0))) (fIx (zh false (zb 9)) (fC (.int 1)))))) (fIx (zh false (zb 11)) (fC (.int 1))) (KM.map YO) ρ=some (vs.map .int)/\vs.length<=KM.length
 | [],ρ,_,_=>⟨[],rfl,Ql _⟩
 | p::KM,ρ,hl,h9=>by
  have l1:(ρ.set 11 (some (YO p))).length=12:=by simpa using hl
  have h9':(ρ.set 11 (some (YO p)))[9]?=some (some d):=by rw [zc (by decide)];exact h9
  have h11:(ρ.set 11 (some (YO p)))[11]?=some (some (YO p)):=zL (by omega)
  obtain ⟨vs,e,hv⟩:=cost_comp hd KM _ l1 h9'
  have et:∃ b,wv (zI (f2 ZE (fIx (zh false (zb 9)) (fC (.int 0))) (fC (.str "call")))) (zI (f2 wY (fIx (zh false (zb 11)) (fC (.int 0))) (fIx (zh false (zb 9)) (fC (.int 1))))) (ρ.set 11 (some (YO p)))=some b:=by
   obtain ⟨t,rfl,ok,_,_,_,_,hk⟩:=hd
   rcases hk with (rfl | rfl) | ⟨k,rfl⟩ | ⟨x,ps,rfl⟩
   ·rw [Ys] at h9'
    exact ⟨_,andc (kno h9' (by decide)) (b:=false) fun z=>by cases z⟩
   ·rw [yz] at h9'
    exact ⟨_,andc (kno h9' (by decide)) (b:=false) fun z=>by cases z⟩
   ·rw [Y3] at h9'
    obtain ⟨w,ew⟩:=eqD_ii (p.1:Nat) (k:Nat)
    exact ⟨_,andc (kis h9') fun _=>z6 (f2v (zV (Zr (zJ h11)) rfl (zw (j:=0) rfl)) (zV (Zr (zJ h9')) rfl (zw (j:=1) rfl)) ew)⟩
   ·rw [Rq.ok] at ok
    rw [j6] at h9'
    exact ⟨_,andc (kno h9' ok.1.1) (b:=false) fun z=>by cases z⟩
  obtain ⟨b,eb⟩:=et
  rw [Qr,yn,zR,oB,eb,oB]
  cases b with
  | true =>
   rw [KR rfl,zV (d:=.int p.2) (Zr (zJ h11)) rfl (zw (j:=1) rfl),oB,e]
   exact ⟨p.2::vs,rfl,by simp;omega⟩
  | false =>
   rw [KS (by simp),e]
   exact ⟨vs,rfl,by simp;omega⟩
theorem draws_ok {nb f KN:Nat} (hm:KN<=6) {KM:List (Nat×Int)} (hl:LatOk nb f KM) (cells:D) (deep KO:Int):Draws KN nb f (zM 11 [cells,.int (KN:Nat),Ym KM,.int deep,.int KO]) (fA mq20 (zf (zb 8) (zf (zb 1) (zf (zb 2) zr)))) (fA JW (zh true (Z4 1 (zh true (zb 2)) (zR 11) (wv (zI (f2 ZE (fIx (zh false (zb 9)) (fC (.int 0))) (fC (.str "call")))) (zI (f2 wY (fIx (zh false (zb 11)) (fC (.int 0))) (fIx (zh false (zb 9)) (fC (.int 1)))))) (fIx (zh false (zb 11)) (fC (.int 1)))))) (f2 ZT (zb 10) (fA wn (zf (yP (f2 Y9 (fIx (zh false (zb 9)) (fC (.int 0))) (fC (.str "call")))) zr))):=by
 intro u c
 obtain ⟨d,ed,hd⟩:=deed_ok c hm hl
 obtain ⟨vs,ev,hv⟩:=cost_comp hd KM ([some cells,some (.int (KN:Nat)),some (Ym KM),some (.int deep),some (.int KO),none,none,some (.int u),some (.int c),some d,none]++List.replicate 1 none) rfl rfl
 have en:∃ b:Bool,f2 Y9 (fIx (zh false (zb 9)) (fC (.int 0))) (fC (.str "call")) [some cells,some (.int (KN:Nat)),some (Ym KM),some (.int deep),some (.int KO),none,none,some (.int u),some (.int c),some d,some (.int vs.sum)]=some (.bl b):=by
  obtain ⟨t,rfl,_⟩:=hd
  have key:∀ (x:Kw) (ps:List D),t.toD=.tup (.str x::ps)->_:=fun x ps e=>(⟨_,f2v (jB (x:=x) (ps:=ps) (by rw [e];rfl)) rfl rfl⟩:∃ b:Bool,f2 Y9 (fIx (zh false (zb 9)) (fC (.int 0))) (fC (.str "call")) [some cells,some (.int (KN:Nat)),some (Ym KM),some (.int deep),some (.int KO),none,none,some (.int u),some (.int c),some t.toD,some (.int vs.sum)]=some (.bl b))
  cases t with
  | one x ps=>exact key _ _ (j6 x ps)
  | call k=>exact key _ _ (Y3 k)
  | loop a=>exact key _ _ (Ys a)
  | either a b=>exact key _ _ (yz a b)
 obtain ⟨b,eb⟩:=en
 refine ⟨d,.int vs.sum,vs.sum+(if b then 1 else 0),fA3 rfl rfl rfl ed,hd,?_,?_⟩
 ·show fA JW _ [some cells,some (.int (KN:Nat)),some (Ym KM),some (.int deep),some (.int KO),none,none,some (.int u),some (.int c),some d,none]=_
  have hfew:=hl.few
  have ec:Z4 1 (zh true (zb 2)) (zR 11) (wv (zI (f2 ZE (fIx (zh false (zb 9)) (fC (.int 0))) (fC (.str "call")))) (zI (f2 wY (fIx (zh false (zb 11)) (fC (.int 0))) (fIx (zh false (zb 9)) (fC (.int 1)))))) (fIx (zh false (zb 11)) (fC (.int 1))) [some cells,some (.int (KN:Nat)),some (Ym KM),some (.int deep),some (.int KO),none,none,some (.int u),some (.int c),some d,none]=some (.lst (vs.map .int)):=by
   rw [JB,ZP (ds:=KM.map YO) rfl,oB,ev,oB]
   exact YS (ZK (by rw [Qg];omega))
  rw [fA_,ZP ec,oB]
  exact gSum_
 ·exact f2v (x:=.int vs.sum) (y:=.int (if b then 1 else 0)) rfl (fA1 (Jo eb rfl) rfl) rfl
theorem body_ok {nb f KN dp:Nat} (hm:KN<=6) {KM:List (Nat×Int)} (hl:LatOk nb f KM) {cs:List Int} (hc:cs.length<=20) (hd1:1<=dp) (hd2:dp<=10) (KO:Int):∃ (out:List D) (u:Int),mq21 [.lst (cs.map .int),.int (KN:Nat),Ym KM,.int (dp:Nat),.int KO]=some (.tup [.lst out,.int u])/\out.length<=20/\(∀ r∈out,Gq KN nb f dp r)/\wts out<=151*cs.length/\nds out<=2*cs.length:=by
 obtain ⟨out,u,e,h1,h2,h3,h4⟩:=goQ_ok (draws_ok hm hl (.lst (cs.map .int)) (dp:Nat) KO) (KO:=KO) hd2 cs 0 dp [] [] 0 ⟨by simp,fun r hr=>(by cases hr),hd1,rfl⟩ (by omega)
 refine ⟨out,u,?_,by omega,h2,by simpa [ZA,wts] using h3,by simpa [ZA,nds] using h4⟩
 refine JR rfl ?_
 unfold bq21 mB15
 show Option.bind (JU (cs.map .int)) _=_
 rw [intsD_map,oB]
 show Option.bind (some ((dp:Nat):Int)) _=_
 rw [oB]
 show Option.bind (some KO) _=_
 rw [oB,KR (by rfl),e]
 rfl
variable {mm:Nat}
theorem fA5 {ρ:Ev} {fa fb fc fd fe:Ev->Option D} {x y z t w d:D} {g:List D->Option D} (h1:fa ρ=some x) (h2:fb ρ=some y) (h3:fc ρ=some z) (h4:fd ρ=some t) (h5:fe ρ=some w) (e:g [x,y,z,t,w]=some d):fA g (zf fa (zf fb (zf fc (zf fd (zf fe zr))))) ρ=some d:=by
 rw [fA_,Zo,h1,oB,Zo,h2,oB,Zo,h3,oB,Zo,h4,oB,Zo,h5];exact e
def hb (n k:Nat):Nat:=if k=0 then (if n=1 then 6 else 3) else 2
structure BodG (mm n k:Nat) (ds:List D):Prop where
 len:ds.length<=20
 gq:∀ r∈ds,Gq mm n (k+1) (hb n k) r
 wt:wts ds<=2500
 nd:nds ds<=if k=0 then 40 else 8
theorem wrap_v {ρ:Ev} {d:D} (h:ρ[12]?=some (some d)):ZJ (zf (ZC (zf (fC (.str "either")) (zf (ZJ zr) (zf (ZJ (zf (ZC (zf (fC (.str "loop")) (zf (ZJ (zf (ZC (zf (fC (.str "either")) (zf (zb 12) (zf (ZJ zr) zr)))) zr)) zr))) zr)) zr)))) zr) ρ=some (.lst [.tup [.str "either",.lst [],.lst [.tup [.str "loop",.lst [.tup [.str "either",d,.lst []]]]]]]) :=
 jA (JK rfl W3 (jA (Y2 rfl (jA (JK rfl (zJ h) W3)))))
theorem wrap_g {out:List D} (hl:out.length<=20) (hg:∀ r∈out,Gq mm 1 1 3 r) (hw:wts out<=2265) (hn:nds out<=30):BodG mm 1 0 [.tup [.str "either",.lst [],.lst [.tup [.str "loop",.lst [.tup [.str "either",.lst out,.lst []]]]]]]:=by
 have one:∀ {n:Nat} {d:D},Gq mm 1 1 n d->∀ r∈[d],Gq mm 1 1 n r:=fun h r hr=>by rw [Qo.mp hr];exact h
 have non:∀ {n:Nat},∀ r∈([]:List D),Gq mm 1 1 n r:=fun r hr=>by cases hr
 have g1:Gq mm 1 1 4 (.tup [.str "either",.lst out,.lst []]):=Jb (n:=3) (by omega) hg (by simp) non
 have g2:Gq mm 1 1 5 (.tup [.str "loop",.lst [.tup [.str "either",.lst out,.lst []]]]):=gq_loop (n:=4) (by simp) (one g1)
 have g3:Gq mm 1 1 6 (.tup [.str "either",.lst [],.lst [.tup [.str "loop",.lst [.tup [.str "either",.lst out,.lst []]]]]]):=Jb (n:=5) (by simp) non (by simp) (one g2)
 refine ⟨by simp,one g3,?_,?_⟩
 ·simp only [wts,jb,wt_lst,jE];omega
 ·simp only [nds,Yx,Jw,Jv]
  show _<=(if (0:Nat)=0 then 40 else 8)
  rw [KR rfl]
  omega
theorem prog_ok (ns:List Int) {at_ KN:Nat} (ha:at_<=100) (hm:KN<=6) (KO:Int):∃ L:List (List D),mq22 [.scr ns,.int (at_:Nat),.int (KN:Nat),.int KO]=some (.tup [.int (KN:Nat),.lst (L.map .lst)])/\1<=L.length/\L.length<=4/\∀ k,k<L.length->BodG KN L.length k (L.getD k []):=by
 suffices h:Wo (mq22 [.scr ns,.int (at_:Nat),.int (KN:Nat),.int KO]) fun d=>∃ L:List (List D),d=.tup [.int (KN:Nat),.lst (L.map .lst)]/\1<=L.length/\L.length<=4/\∀ k,k<L.length->BodG KN L.length k (L.getD k []) by
  obtain ⟨d,e,L,rfl,q⟩:=h
  exact ⟨L,e,q⟩
 unfold mq22 bq22
 rw [Z6]
 refine ⟨rfl,?_⟩
 simp only [zM,zMap,zLen,List.replicate,zApp,QD,Nat.reduceAdd,Nat.reduceSub]
 obtain ⟨v0,e0⟩:=Jd ns (at_:Nat) (by omega) (by omega)
 have p0:=Qx v0 (show (4:Int)≠0 by decide)
 have p1:=Qy v0 (show (0:Int)<4 by decide)
 obtain ⟨n,hn⟩:∃ n:Nat,1+v0 % 4=n:=⟨(1+v0 % 4).toNat,by omega⟩
 have n1:1<=n:=by omega
 have n4:n<=4:=by omega
 rw [zt]
 refine ZO W3 ?_
 simp only [zSet,zj]
 rw [zt]
 refine ZO W3 ?_
 simp only [zSet,zj]
 rw [zt]
 refine ZO (d:=.int (n:Nat)) (f2v rfl (f2v (fA2 rfl rfl e0) rfl (Zw (by decide))) (yY.trans (by rw [hn]))) ?_
 simp only [zSet,zj]
 have er:gh (f2 JE (zb 6) (fC (.int 1))) (f1 ww (fC (.int 1))) [some (.scr ns),some (.int (at_:Nat)),some (.int (KN:Nat)),some (.int KO),some (.lst []),some (.lst []),some (.int (n:Nat)),none,none,none,none,none,none,none]=some (YM ((n:Int) - 1) n):=by
  unfold gh
  rw [show f2 JE (zb 6) (fC (.int 1)) [some (.scr ns),some (.int (at_:Nat)),some (.int (KN:Nat)),some (.int KO),some (.lst []),some (.lst []),some (.int (n:Nat)),none,none,none,none,none,none,none]=some (.int ((n:Int) - 1)) from rfl,oB,show f1 ww (fC (.int 1)) [some (.scr ns),some (.int (at_:Nat)),some (.int (KN:Nat)),some (.int KO),some (.lst []),some (.lst []),some (.int (n:Nat)),none,none,none,none,none,none,none]=some (.int (-1)) from rfl,oB,wZ,oB,wZ,oB,KR (by omega)]
  congr 2
  omega
 rw [zt,jS,er,oB]
 refine Yo (fun i ρ=>i<=n/\∃ (L:List (List D)) (KM:List (Nat×Int)) (z7 z8 z9 z10 z11 z12 z13:Option D),ρ=[some (.scr ns),some (.int (at_:Nat)),some (.int (KN:Nat)),some (.int KO),some (.lst (L.map .lst)),some (Ym KM),some (.int (n:Nat)),z7,z8,z9,z10,z11,z12,z13]/\L.length=i/\KM.length=i/\(∀ p∈KM,n - i<=p.1/\p.1<n)/\∀ t,t<i->BodG KN n (n - i+t) (L.getD t [])) ⟨Pd _,[],[],_,_,_,_,_,_,_,rfl,rfl,rfl,fun p hp=>(by cases hp),fun t ht=>by omega⟩ ?_ ?_
 ·rintro i d ρ hd ⟨hi,L,KM,z7,z8,z9,z10,z11,z12,z13,rfl,hL,hla,hmem,hG⟩
  obtain ⟨hin,rfl⟩:=YL hd
  obtain ⟨k,hk⟩:∃ k:Nat,k=n - 1 - i:=⟨_,rfl⟩
  have ej:(n:Int) - 1 - (i:Nat)=((k:Nat):Int):=by omega
  rw [ej,yT,zG]
  simp only [zSet]
  rw [zt]
  refine ZO rfl ?_
  simp only [zSet,zj]
  rw [zt]
  refine ZO rfl ?_
  simp only [zSet,zj]
  rw [zt]
  have zX:∀ (sz dp:Nat),sz<=(if k=0 then 15 else 4)->dp=(if k=0 then 3 else 2)->Wo (zO (Zi 10 (f2 ZT (f2 ZT (f2 ZT (zb 1) (fC (.int 1))) (f2 Yn (fC (.int 11)) (fA wn (zf (yP (f2 dGt (zb 7) (fC (.int 0)))) zr)))) (f2 Yn (fC (.int 4)) (zb 7))))
    (zO (Zi 11 (Z4 1 (yO (zb 8)) (zR 14) YF (fA Jx (zf (zb 0) (zf (f2 ZT (zb 10) (zb 14)) zr)))))
    (zO (mAsg (uTup (jx (zR 12) (jx (zR 13) uNil))) (fA mq21 (zf (zb 11) (zf (zb 2) (zf (zb 5) (zf (zb 9) (zf (zb 3) zr)))))))
    (zO (mIf (wv (zI (f2 ZE (zb 6) (fC (.int 1)))) (zI (f2 ZE (f2 yf (f2 Yi (fA Jx (zf (zb 0) (zf (zb 1) zr))) (fC (.int 108))) (fC (.int 2))) (fC (.int 1)))))
    (Zi 12 (ZJ (zf (ZC (zf (fC (.str "either")) (zf (ZJ zr) (zf (ZJ (zf (ZC (zf (fC (.str "loop")) (zf (ZJ (zf (ZC (zf (fC (.str "either")) (zf (zb 12) (zf (ZJ zr) zr)))) zr)) zr))) zr)) zr)))) zr)))
    Z2)
    (zO (Zi 4 (wX (fL (ZJ (zf (zb 12) zr))) (fL (zb 4))))
    (Zi 5 (wX (fL (ZJ (zf (ZC (zf (zb 7) (zf (zb 13) zr))) zr))) (fL (zb 5))))))))
    [some (.scr ns),some (.int (at_:Nat)),some (.int (KN:Nat)),some (.int KO),some (.lst (L.map .lst)),some (Ym KM),some (.int (n:Nat)),some (.int (k:Nat)),some (.int (sz:Nat)),some (.int (dp:Nat)),z10,z11,z12,z13]) fun o=>∃ ρ2,o=.nx ρ2/\i+1<=n/\∃ (L:List (List D)) (KM:List (Nat×Int)) (z7 z8 z9 z10 z11 z12 z13:Option D),ρ2=[some (.scr ns),some (.int (at_:Nat)),some (.int (KN:Nat)),some (.int KO),some (.lst (L.map .lst)),some (Ym KM),some (.int (n:Nat)),z7,z8,z9,z10,z11,z12,z13]/\L.length=i+1/\KM.length=i+1/\(∀ p∈KM,n - (i+1)<=p.1/\p.1<n)/\∀ t,t<i+1->BodG KN n (n - (i+1)+t) (L.getD t []):=by
   intro sz dp hsz hdp
   have hsz':sz<=15:=by split at hsz <;> omega
   have hdp1:1<=dp/\dp<=3:=by split at hdp <;> omega
   obtain ⟨bg,hbg,ebg⟩:∃ bg:Nat,bg<=200/\f2 ZT (f2 ZT (f2 ZT (zb 1) (fC (.int 1))) (f2 Yn (fC (.int 11)) (fA wn (zf (yP (f2 dGt (zb 7) (fC (.int 0)))) zr)))) (f2 Yn (fC (.int 4)) (zb 7)) [some (.scr ns),some (.int (at_:Nat)),some (.int (KN:Nat)),some (.int KO),some (.lst (L.map .lst)),some (Ym KM),some (.int (n:Nat)),some (.int (k:Nat)),some (.int (sz:Nat)),some (.int (dp:Nat)),z10,z11,z12,z13]=some (.int (bg:Nat)):=by
    by_cases h0:(0:Int)<(k:Nat)
    ·refine ⟨at_+1+11+4*k,by omega,f2v (f2v (f2v rfl rfl yY) (f2v (x:=.int 11) (y:=.int 1) rfl (fA1 (x:=.bl true) (Jo (f2v rfl rfl (by rw [gt_,KU h0])) rfl) rfl) (yt (wc (by decide) (by decide)))) yY) (f2v rfl rfl (yt (wc (by decide) (by decide)))) (yY.trans ?_)⟩
     congr 2
    ·refine ⟨at_+1+4*k,by omega,f2v (f2v (f2v rfl rfl yY) (f2v (x:=.int 11) (y:=.int 0) rfl (fA1 (x:=.bl false) (Jo (f2v rfl rfl (by rw [gt_,KW h0])) rfl) rfl) (yt (wc (by decide) (by decide)))) yY) (f2v rfl rfl (yt (wc (by decide) (by decide)))) (yY.trans ?_)⟩
     congr 2
   rw [zt]
   refine ZO ebg ?_
   simp only [zSet,zj]
   obtain ⟨cs,ecs,hcs,_⟩:=ju (k:=1) (fl:=yO (zb 8)) (u:=zR 14) (c:=YF) (e:=fA Jx (zf (zb 0) (zf (f2 ZT (zb 10) (zb 14)) zr))) (ρ:=[some (.scr ns),some (.int (at_:Nat)),some (.int (KN:Nat)),some (.int KO),some (.lst (L.map .lst)),some (Ym KM),some (.int (n:Nat)),some (.int (k:Nat)),some (.int (sz:Nat)),some (.int (dp:Nat)),some (.int (bg:Nat)),z11,z12,z13]) (ds:=yr 0 sz) (fun _ _=>True) (fun ρ=>∃ z:Option D,ρ=[some (.scr ns),some (.int (at_:Nat)),some (.int (KN:Nat)),some (.int KO),some (.lst (L.map .lst)),some (Ym KM),some (.int (n:Nat)),some (.int (k:Nat)),some (.int (sz:Nat)),some (.int (dp:Nat)),some (.int (bg:Nat)),z11,z12,z13,z])
    (rng1v (n:=sz) rfl (by omega)) (by rw [Zx];omega) ⟨none,rfl⟩ (by
     rintro t d ρ hd ⟨z,rfl⟩
     obtain ⟨ht,rfl⟩:=yA hd
     rw [yT,zG]
     simp only [zSet]
     obtain ⟨v,ev⟩:=Jd ns ((bg:Nat)+(0+(t:Nat))) (by omega) (by omega)
     exact ⟨rfl,⟨_,fA2 rfl (f2v rfl rfl yY) ev,v,rfl,trivial⟩,_,rfl⟩)
   rw [Zx] at hcs
   rw [zt]
   refine ZO ecs ?_
   simp only [zSet,zj]
   have hlat:LatOk n (k+1) KM:=⟨by omega,n4,fun p hp=>⟨by have:=(hmem p hp).1;omega,(hmem p hp).2⟩⟩
   obtain ⟨out,u,eo,o1,o2,o3,o4⟩:=body_ok (cs:=cs) (KN:=KN) (dp:=dp) hm hlat (by omega) (by omega) (by omega) KO
   rw [zt]
   refine asg_ (fA5 rfl rfl rfl rfl rfl eo) rfl ?_
   simp only [zSet,zj]
   have fin:∀ body:List D,BodG KN n k body->Wo (zO (Zi 4 (wX (fL (ZJ (zf (zb 12) zr))) (fL (zb 4)))) (Zi 5 (wX (fL (ZJ (zf (ZC (zf (zb 7) (zf (zb 13) zr))) zr))) (fL (zb 5)))) [some (.scr ns),some (.int (at_:Nat)),some (.int (KN:Nat)),some (.int KO),some (.lst (L.map .lst)),some (Ym KM),some (.int (n:Nat)),some (.int (k:Nat)),some (.int (sz:Nat)),some (.int (dp:Nat)),some (.int (bg:Nat)),some (lstI cs),some (.lst body),some (.int u)]) fun o=>∃ ρ2,o=.nx ρ2/\i+1<=n/\∃ (L:List (List D)) (KM:List (Nat×Int)) (z7 z8 z9 z10 z11 z12 z13:Option D),ρ2=[some (.scr ns),some (.int (at_:Nat)),some (.int (KN:Nat)),some (.int KO),some (.lst (L.map .lst)),some (Ym KM),some (.int (n:Nat)),z7,z8,z9,z10,z11,z12,z13]/\L.length=i+1/\KM.length=i+1/\(∀ p∈KM,n - (i+1)<=p.1/\p.1<n)/\∀ t,t<i+1->BodG KN n (n - (i+1)+t) (L.getD t []):=by
    intro body hb
    rw [zt]
    refine ZO (catv (lv (jA (d:=.lst body) rfl)) (lv (xs:=L.map .lst) rfl) (by rw [Qg];simp only [Qd,QB];omega)) ?_
    simp only [zSet,zj]
    refine ZO (catv (lv (jA (Y2 (d:=.int (k:Nat)) (d':=.int u) rfl rfl))) (lv (xs:=KM.map YO) rfl) (by rw [Qg];simp only [Qd,QB];omega)) ?_
    simp only [zSet]
    refine ⟨_,rfl,by omega,body::L,(k,u)::KM,_,_,_,_,_,_,_,rfl,by simp [hL],by simp [hla],fun p hp=>?_,fun t ht=>?_⟩
    ·rcases Qc.mp hp with rfl | hp
     ·simp only;omega
     ·have:=hmem p hp;omega
    ·cases t with
     | zero=>rw [show n - (i+1)+0=k by omega];simpa using hb
     | succ t =>
      rw [show n - (i+1)+(t+1)=n - i+t by omega]
      simpa using hG t (by omega)
   have bodg:¬ (n=1)\/True->(dp<=hb n k)->BodG KN n k out:=fun _ hle=>⟨o1,fun r hr=>(o2 r hr).mono hle,by omega,by
    split
    ·rename_i h0;rw [KR h0] at hsz;omega
    ·rename_i h0;rw [KS h0] at hsz;omega⟩
   have hle:dp<=hb n k:=by
    unfold hb
    rw [hdp]
    split
    ·split <;> omega
    ·omega
   rw [zt]
   refine wV (andc (z6 (f2v rfl rfl YT)) fun _=>z6 (f2v (f2v (f2v (fA2 rfl rfl e0) rfl (yj (by decide) (by decide))) rfl (Zw (by decide))) rfl YT)) (fun e=>?_) (fun _=>?_)
   ·simp only [QK,decide_eq_true_eq] at e
    have hn1:n=1:=by omega
    have hk0:k=0:=by omega
    refine ZO (wrap_v (d:=.lst out) rfl) ?_
    simp only [zSet,zj]
    refine fin _ ?_
    subst hn1
    subst hk0
    rw [KR rfl] at hsz hdp
    subst hdp
    exact wrap_g o1 o2 (by omega) (by omega)
   ·rw [ZB,zG,zj]
    exact fin out (bodg (.inr trivial) hle)
  have conv:∀ {m:Ev->Option Out} {ρ:Ev},Wo (m ρ) (fun o=>∃ ρ2,o=.nx ρ2/\i+1<=n/\∃ (L:List (List D)) (KM:List (Nat×Int)) (z7 z8 z9 z10 z11 z12 z13:Option D),ρ2=[some (.scr ns),some (.int (at_:Nat)),some (.int (KN:Nat)),some (.int KO),some (.lst (L.map .lst)),some (Ym KM),some (.int (n:Nat)),z7,z8,z9,z10,z11,z12,z13]/\L.length=i+1/\KM.length=i+1/\(∀ p∈KM,n - (i+1)<=p.1/\p.1<n)/\∀ t,t<i+1->BodG KN n (n - (i+1)+t) (L.getD t []))->∃ ρ2,m ρ=some (.nx ρ2)/\i+1<=n/\∃ (L:List (List D)) (KM:List (Nat×Int)) (z7 z8 z9 z10 z11 z12 z13:Option D),ρ2=[some (.scr ns),some (.int (at_:Nat)),some (.int (KN:Nat)),some (.int KO),some (.lst (L.map .lst)),some (Ym KM),some (.int (n:Nat)),z7,z8,z9,z10,z11,z12,z13]/\L.length=i+1/\KM.length=i+1/\(∀ p∈KM,n - (i+1)<=p.1/\p.1<n)/\∀ t,t<i+1->BodG KN n (n - (i+1)+t) (L.getD t []):=fun ⟨o,e,ρ2,ho,q⟩=>⟨ρ2,by rw [e,ho],q⟩
  have s0:=Qx (v0 / 3) (show (9:Int)≠0 by decide)
  have s1:=Qy (v0 / 3) (show (0:Int)<9 by decide)
  refine wV (z6 (f2v rfl rfl YT)) (fun e=>?_) (fun e=>?_)
  ·simp only [decide_eq_true_eq] at e
   obtain ⟨sz,hsz⟩:∃ m:Nat,6+v0 / 3 % 9=m:=⟨(6+v0 / 3 % 9).toNat,by omega⟩
   rw [zt]
   refine ZO (d:=.int (sz:Nat)) (f2v rfl (f2v (f2v (fA2 rfl rfl e0) rfl (yj (by decide) (by decide))) rfl (Zw (by decide))) (yY.trans (by rw [hsz]))) ?_
   simp only [zSet,zj]
   refine ZO rfl ?_
   simp only [zSet,zj]
   obtain ⟨ρ2,e2,q⟩:=conv (zX sz 3 (by rw [KR (by omega)];omega) (by rw [KR (by omega)]))
   exact ⟨_,e2,q⟩
  ·simp only [decide_eq_false_iff_not] at e
   rw [ZB,zG,zj]
   obtain ⟨ρ2,e2,q⟩:=conv (zX 4 2 (by rw [KS (by omega)];omega) (by rw [KS (by omega)]))
   exact ⟨_,e2,q⟩
 ·rintro ρ ⟨-,L,KM,z7,z8,z9,z10,z11,z12,z13,rfl,hL,hla,hmem,hG⟩
  rw [Yw] at hL hG
  rw [zj]
  refine jf (Y2 rfl rfl) ⟨L,rfl,by omega,by omega,fun k hk=>?_⟩
  rw [hL]
  have:=hG k (by omega)
  rwa [show n - n+k=k by omega] at this
variable {mm:Nat}
mutual
theorem rk_le {g:Nat->Nat} {c f nb:Nat} (h:∀ k,f<=k->k<nb->g k<=c):∀ r:Rq,r.lat f->r.ok mm nb->r.rk g<=r.rk r0+c
 | .one _ _,_,_=>by simp only [Rq.rk];omega
 | .call k,o,o'=>by rw [Rq.lat] at o;rw [Rq.ok] at o';have:=h k o o';simp only [Rq.rk];show g k+1<=0+1+c;omega
 | .loop rs,o,o'=>by rw [Rq.lat] at o;rw [Rq.ok] at o';have:=Jt h rs o o'.1;simp only [Rq.rk];omega
 | .either a b,o,o'=>by rw [Rq.lat] at o;rw [Rq.ok] at o';have:=Jt h a o.1 o'.1.1;have:=Jt h b o.2 o'.2.1;simp only [Rq.rk];omega
theorem Jt {g:Nat->Nat} {c f nb:Nat} (h:∀ k,f<=k->k<nb->g k<=c):∀ rs:List Rq,YE f rs->oks mm nb rs->rks g rs<=rks r0 rs+c
 | [],_,_=>by simp only [rks];omega
 | r::rs,o,o'=>by rw [YE] at o;rw [oks] at o';have:=rk_le h r o.1 o'.1;have:=Jt h rs o.2 o'.2;simp only [rks];omega
end
mutual
theorem sz_le {G:Nat->Nat} {m f nb:Nat} (h2:2<=m) (h:∀ k,f<=k->k<nb->G k<=m):∀ r:Rq,r.lat f->r.ok mm nb->r.sz G<=m*nd r.toD
 | .one x ps,_,_=>by rw [j6,Yx,Ph];simp only [Rq.sz];omega
 | .call k,o,o'=>by rw [Rq.lat] at o;rw [Rq.ok] at o';have:=h k o o';rw [Y3,Yx,Ph];simp only [Rq.sz];omega
 | .loop rs,o,o'=>by
  rw [Rq.lat] at o;rw [Rq.ok] at o'
  have:=Wy h2 h rs o o'.1
  rw [Ys,Yx,nds,nds,nds,Jv,Jw,Ph,Ph,Ph]
  simp only [Rq.sz]
  omega
 | .either a b,o,o'=>by
  rw [Rq.lat] at o;rw [Rq.ok] at o'
  have:=Wy h2 h a o.1 o'.1.1
  have:=Wy h2 h b o.2 o'.2.1
  rw [yz,Yx,nds,nds,nds,nds,Jv,Jw,Jw,Ph,Ph,Ph,Ph]
  simp only [Rq.sz]
  omega
theorem Wy {G:Nat->Nat} {m f nb:Nat} (h2:2<=m) (h:∀ k,f<=k->k<nb->G k<=m):∀ rs:List Rq,YE f rs->oks mm nb rs->szs G rs<=m*nds (qDs rs)
 | [],_,_=>by simp only [szs];omega
 | r::rs,o,o'=>by
  rw [YE] at o;rw [oks] at o'
  have:=sz_le h2 h r o.1 o'.1
  have:=Wy h2 h rs o.2 o'.2
  rw [qDs,nds,Ph]
  simp only [szs]
  omega
end
def gR (nb:Nat):Nat->Nat:=fun k=>if k=0 then 13 else 3*(nb - k)
def gS:Nat->Nat
 | 0=>40960
 | 1=>1024
 | 2=>128
 | _=>16
def gM:Nat->Nat
 | 0=>1024
 | 1=>128
 | 2=>16
 | _=>2
theorem trees {L:List (List D)} (h1:1<=L.length) (h4:L.length<=4) (hG:∀ k,k<L.length->BodG mm L.length k (L.getD k [])):∃ B:Nat->List Rq,Bods2 mm B L.length (gR L.length) gS/\D.lst (L.map .lst)=Z5 B L.length/\rks (gR L.length) (B 0)<20/\szs gS (B 0)<=800000/\L.getD 0 []=qDs (B 0):=by
 have hex:∀ k:Nat,∃ ts:List Rq,k<L.length->L.getD k []=qDs ts/\oks mm L.length ts/\YE (k+1) ts/\rks r0 ts<=hb L.length k/\ts.length<=20:=fun k=>by
  by_cases hk:k<L.length
  ·obtain ⟨ts,a,b,c,d,e⟩:=JV (hG k hk).gq
   exact ⟨ts,fun _=>⟨a,b,c,d,by rw [e];exact (hG k hk).len⟩⟩
  ·exact ⟨[],fun z=>absurd z hk⟩
 obtain ⟨B,hB⟩:=Classical.axiomOfChoice hex
 generalize hn:L.length=n at *
 have hbl:∀ k,hb n k<=6:=fun k=>by unfold hb;split <;> (try split) <;> omega
 have rk:∀ k,k<n->rks (gR n) (B k)<=gR n k:=fun k hk=>by
  obtain ⟨a,b,c,d,e⟩:=hB k hk
  by_cases h0:k=0
  ·subst h0
   by_cases hn1:n=1
   ·have:=Jt (g:=gR n) (c:=0) (f:=1) (nb:=n) (fun j j1 j2=>by omega) (B 0) c b
    have h6:=hbl 0
    have:gR n 0=13:=rfl
    omega
   ·have:=Jt (g:=gR n) (c:=9) (f:=1) (nb:=n) (fun j j1 j2=>by unfold gR;rw [KS (by omega)];omega) (B 0) c b
    have h3:hb n 0=3:=by unfold hb;rw [KR rfl,KS hn1]
    have:gR n 0=13:=rfl
    omega
  ·have:=Jt (g:=gR n) (c:=3*(n - (k+1))) (f:=k+1) (nb:=n) (fun j j1 j2=>by unfold gR;rw [KS (by omega)];omega) (B k) c b
   have h2:hb n k=2:=by unfold hb;rw [KS h0]
   have:gR n k=3*(n - k):=by unfold gR;rw [KS h0]
   omega
 have sz:∀ k,k<n->szs gS (B k)<=gS k:=fun k hk=>by
  obtain ⟨a,b,c,d,e⟩:=hB k hk
  have hnd:=(hG k hk).nd
  rw [a] at hnd
  have k4:k=0\/k=1\/k=2\/k=3:=by omega
  have key:szs gS (B k)<=gM k*nds (qDs (B k)):=Wy (f:=k+1) (nb:=n) (by rcases k4 with rfl | rfl | rfl | rfl <;> decide) (fun j j1 j2=>by
   have j4:j=1\/j=2\/j=3:=by omega
   rcases k4 with rfl | rfl | rfl | rfl <;> rcases j4 with rfl | rfl | rfl <;> first | decide | omega) (B k) c b
  rcases k4 with rfl | rfl | rfl | rfl
  ·rw [KR rfl] at hnd
   have:gM 0*nds (qDs (B 0))<=1024*40:=PH 1024 hnd
   have:gS 0=40960:=rfl
   omega
  ·rw [KS (by decide)] at hnd
   have:gM 1*nds (qDs (B 1))<=128*8:=PH 128 hnd
   have:gS 1=1024:=rfl
   omega
  ·rw [KS (by decide)] at hnd
   have:gM 2*nds (qDs (B 2))<=16*8:=PH 16 hnd
   have:gS 2=128:=rfl
   omega
  ·rw [KS (by decide)] at hnd
   have:gM 3*nds (qDs (B 3))<=2*8:=PH 2 hnd
   have:gS 3=16:=rfl
   omega
 refine ⟨B,⟨⟨fun k hk=>(hB k hk).2.1,fun k hk=>by have:=(hB k hk).2.2.2.2;omega,rk,sz⟩,fun k hk=>(hB k hk).2.2.1,fun k hk=>Qw (hB k hk).2.2.2.1 (Qw (hbl k) (by decide)),h4,h1⟩,?_,?_,?_,(hB 0 h1).1⟩
 ·unfold Z5
  congr 1
  refine List.ext_getElem (by simp [hn]) fun k hk1 hk2=>?_
  rw [Qg,hn] at hk1
  have:=(hB k hk1).1
  rw [List.getElem_map,List.getElem_map,List.getElem_range,<- this]
  congr 1
  simp [List.getD,hn,hk1]
 ·have:=rk 0 h1;have:gR n 0=13:=rfl;omega
 ·have:=sz 0 h1;have:gS 0=40960:=rfl;omega
theorem all_laid {L:List (List D)} (h1:1<=L.length) (h4:L.length<=4) (hG:∀ k,k<L.length->BodG mm L.length k (L.getD k [])) (KN:Int):∃ r:Int×Sx,mq4 [.tup [.int KN,.lst (L.map .lst)]]=some (ansD r)/\(∀ a,mq23 [.lst (L.getD 0 []),.int 0,.lst (L.map .lst),.adr a] [.int 1]=some (.int r.1,.int r.2.1::r.2.2))/\(∀ d∈r.2.2,StF mm d)/\r.2.2.length<=800000/\(L.getD 0 []=[]->r=(0,1,[])):=by
 obtain ⟨B,hB,e,hr,hz,h0⟩:=trees h1 h4 hG
 rw [e]
 refine ⟨_,laid_ok hB hr hz KN,fun a=>by rw [h0];exact lent_ok hB hr hz a,ly_st hB.toBods _ _ _ _ (hB.ok 0 hB.pos) (fun d hd=>by cases hd),?_,fun hz0=>?_⟩
 ·have:=yW hB.toBods 20 (B 0) 0 (1,[]) (hB.ok 0 hB.pos)
  simp only [QB] at this
  omega
 ·rw [hz0] at h0
  cases hb0:B 0 with
  | nil=>rw [lyS];rfl
  | cons r rs=>rw [hb0,qDs] at h0;cases h0
variable {mm:Nat}
inductive Dd where
 | skip | take (b:Nat) | set (b:Nat) (ns:List Int)
def Dd.toD:Dd->D
 | .skip=>skD
 | .take b=>.tup [.str "take",.int (b:Nat)]
 | .set b ns=>.tup [.str "set",.int (b:Nat),.tup (ns.map .int)]
def Dd.ok (mm:Nat):Dd->Prop
 | .skip=>True
 | .take b=>b<mm
 | .set b ns=>b<mm/\ns.length=mm+1/\∀ n∈ns,n.natAbs<=2000000
def Dd.tk:Dd->Bool
 | .take _=>true
 | _=>false
def dot (ns st:List Int):Int:=(List.zipWith (·*·) ns st).sum
def Dd.go (d:Dd) (o:Option Int) (st:List Int):List Int:=match d with
 | .skip=>st
 | .take b=>st.set (b+1) (o.getD 0)
 | .set b ns=>st.set (b+1) (dot ns st)
structure Sp where
 p:Int
 q:Int
 d:Dd
def Sp.toD (t:Sp):D:=stp t.p t.q t.d.toD
theorem steps_of:∀ l:List D,(∀ d∈l,StF mm d)->∃ sps:List Sp,l=sps.map Sp.toD/\∀ t∈sps,t.d.ok mm
 | [],_=>⟨[],rfl,fun t h=>by cases h⟩
 | d::l,h=>by
  obtain ⟨sps,e,ho⟩:=steps_of l fun d hd=>h d (Qe _ hd)
  obtain ⟨p,q,x,ps,rfl,hx,hk⟩:=h d Qt
  have key:∃ t:Sp,stp p q (.tup (.str x::ps))=t.toD/\t.d.ok mm:=by
   rcases hk with ⟨rfl,rfl⟩ | ⟨rfl,rfl⟩ | ⟨b,rfl,rfl,hb⟩ | ⟨b,ns,rfl,rfl,hb,hl,hn⟩
   ·exact ⟨⟨p,q,.skip⟩,rfl,trivial⟩
   ·exact absurd rfl hx
   ·exact ⟨⟨p,q,.take b⟩,rfl,hb⟩
   ·exact ⟨⟨p,q,.set b ns⟩,rfl,hb,hl,hn⟩
  obtain ⟨t,e1,e2⟩:=key
  exact ⟨t::sps,by rw [Qr,e,e1],fun u hu=>(Qc.mp hu).elim (fun z=>by rw [z];exact e2) (ho u)⟩
def oD:Option Int->D
 | none=>.non
 | some n=>.int n
def mvD (m:Nat×Option Int):D:=.tup [.int (m.1:Nat),oD m.2]
def inD (st:List Int):D:=.tup (st.map .int)
def rowD (s:Int×List Int):D:=.tup [.int s.1,inD s.2]
theorem W7 {vs ws:List Int} (hl:vs.length=ws.length) (h:∀ i,i<ws.length->vs.getD i 0=ws.getD i 0):vs=ws:=by
 refine List.ext_getElem hl fun i h1 h2=>?_
 have:=h i h2
 simpa [List.getD,h1,h2] using this
theorem dot_at {ns st:List Int} {i:Nat} (h1:i<ns.length) (h2:i<st.length):(List.zipWith (·*·) ns st).getD i 0=ns.getD i 0*st.getD i 0:=by
 simp [List.getD,Ps,h1,h2]
theorem b21 {n:Int} (h:n.natAbs<=2000000):n.natAbs<2 ^ 21:=Pa h (by decide)
theorem wo_retv {f:Ev->Option D} {ρ:Ev} {d:D} {m:Ev->Option Out} {P:D->Prop} (e:f ρ=some d) (k:P d):Wo (ZQ f ρ) (gA m (wx P)):=by rw [jR,e];exact ⟨_,rfl,k⟩
section
variable {ns st:List Int} {n:Nat}
theorem jU {l:List Int} {i:Nat} (h:i<l.length):l.getD i 0∈l:=by
 rw [List.getD,Qv h]
 exact Pv h
theorem gy {l:List Int} {i:Nat} (h:i<l.length):atI (l.map D.int) (i:Int)=some (.int (l.getD i 0)):=zw (by simp [List.getD,h])
theorem worth_ok (hl:ns.length=st.length) (h7:st.length<=7) (h1:∀ x∈ns,x.natAbs<=2000000) (h2:∀ x∈st,x.natAbs<2 ^ n) (hn:n<=1000000):mq0 [inD ns,inD st]=some (.int (dot ns st)):=by
 obtain ⟨vs,e,hv,hP⟩:=ju (k:=2) (fl:=fZip (zh false (zb 0)) (zh false (zb 1))) (u:=uTup (jx (zR 2) (jx (zR 3) uNil))) (c:=YF) (e:=f2 Yn (zb 2) (zb 3)) (ρ:=[some (inD ns),some (inD st)]) (ds:=zipD (ns.map .int) (st.map .int))
  (fun i v=>v=ns.getD i 0*st.getD i 0) (fun ρ=>∃ y z:Option D,ρ=[some (inD ns),some (inD st),y,z]) rfl (by simp [zipD];omega) ⟨none,none,rfl⟩ (by
   rintro i d ρ hd ⟨y,z,rfl⟩
   obtain ⟨a1,a2,rfl⟩:=zip_at hd
   refine ⟨_,rfl,rfl,⟨_,f2v rfl rfl (yt (mulB (b21 (h1 _ (jU a1))) (h2 _ (jU a2)) (by omega))),_,rfl,rfl⟩,_,_,rfl⟩)
 have hz:(zipD (ns.map D.int) (st.map D.int)).length=st.length:=by simp [zipD];omega
 have ev:vs=List.zipWith (·*·) ns st:=W7 (by rw [hv,hz];simp;omega) fun i hi=>by
  have hi':i<st.length:=by simp at hi;omega
  rw [hP i (by rw [hz];exact hi'),dot_at (by omega) hi']
 refine JR rfl ?_
 unfold bq0
 rw [jR]
 show (Option.map Out.rt (fA JW (zh true _) [some (inD ns),some (inD st)]))=_
 rw [fA_,ZP e,oB,gSum_,ev]
 rfl
theorem set_cat {st:List Int} {b:Nat} {v:Int} (hb:b<st.length):(st.map D.int).take b++[D.int v]++(st.map D.int).drop (b+1)=(st.set b v).map D.int:=by
 rw [List.set_eq_take_append_cons_drop,KR hb]
 simp [P8,List.map_drop]
theorem JL (d:Dd):mq14 [d.toD]=some (.bl d.tk):=by
 cases d with
 | skip =>
  refine JR rfl ?_
  unfold bq14
  rw [jR,f2v (jB (i:=0) rfl) rfl (eq_f (x:="skip") (y:="take") (by decide))]
  rfl
 | take b =>
  refine JR rfl ?_
  unfold bq14
  rw [jR,f2v (jB (i:=0) rfl) rfl (eq_t (x:="take"))]
  rfl
 | set b ns =>
  refine JR rfl ?_
  unfold bq14
  rw [jR,f2v (jB (i:=0) rfl) rfl (eq_f (x:="set") (y:="take") (by decide))]
  rfl
theorem behind_ok (d:Dd) (o:Option Int) (hd:d.ok mm) (ho:o.isSome=d.tk) (hl:st.length=mm+1) (h6:mm<=6) (hs:∀ x∈st,x.natAbs<2 ^ n) (hn:n<=1000000):mq15 [d.toD,oD o,inD st]=some (inD (d.go o st)):=by
 refine Wo.eq ?_
 unfold mq15 bq15
 rw [Z6]
 refine ⟨rfl,?_⟩
 simp only [zM,zMap,zLen,List.replicate,zApp,QD,Nat.reduceAdd,Nat.reduceSub]
 have fin:∀ (b:Nat) (v:Int),b<mm->Wo (ZQ (Jp (Jp (JX (zh false (zb 2)) fNo (yE (zb 3))) (ZC (zf (zb 4) zr))) (JX (zh false (zb 2)) (yE (f2 ZT (zb 3) (fC (.int 1)))) fNo)) [some d.toD,some (oD o),some (inD st),some (.int ((b:Nat)+1)),some (.int v)]) (wx fun r=>r=inD (st.set (b+1) v)):=fun b v hb=>by
  have hlm:(st.map D.int).length=mm+1:=by rw [Qg,hl]
  have e3:zb 3 [some d.toD,some (oD o),some (inD st),some (.int ((b:Nat)+1)),some (.int v)]=some (.int ((b+1:Nat):Int)):=by rw [Int.natCast_add];rfl
  have e4:f2 ZT (zb 3) (fC (.int 1)) [some d.toD,some (oD o),some (inD st),some (.int ((b:Nat)+1)),some (.int v)]=some (.int ((b+1+1:Nat):Int)):=by rw [f2v e3 rfl yY];rfl
  have e:=catT_ (catT_ (cutTo_ (fl:=zh false (zb 2)) (ds:=st.map D.int) rfl e3 (by rw [hlm];omega)) (tup1_ (f:=zb 4) rfl) (by simp;omega)) (cutFrom_ (fl:=zh false (zb 2)) (ds:=st.map D.int) rfl e4 (by omega) (by rw [hlm];omega)) (by simp;omega)
  rw [set_cat (by omega)] at e
  exact jf e rfl
 cases d with
 | skip =>
  rw [zt]
  refine if_t (kis (x:="skip") (ps:=[]) rfl) ?_
  refine wo_retv (d:=inD st) ?_ ?_
  ·rfl
  ·rfl
 | take b =>
  rw [zt]
  refine jr (kno (x:="take") rfl (by decide)) ?_
  rw [ZB,zG,zj,zt]
  refine ZO (f2v (zV (Zr (zJ rfl)) rfl (zw (j:=1) rfl)) rfl yY) ?_
  simp only [zSet,zj]
  rw [zt]
  obtain ⟨v,rfl⟩:∃ v,o=some v:=Q2.mp ho
  refine ZO (d:=.int v) (by rw [fIf_,z6 (fA1 rfl (JL (.take b)))];rfl) ?_
  simp only [zSet,zj]
  exact fin b v hd
 | set b ns =>
  rw [zt]
  refine jr (kno (x:="set") rfl (by decide)) ?_
  rw [ZB,zG,zj,zt]
  refine ZO (f2v (zV (Zr (zJ rfl)) rfl (zw (j:=1) rfl)) rfl yY) ?_
  simp only [zSet,zj]
  rw [zt]
  refine ZO (d:=.int (dot ns st)) (by rw [fIf_,z6 (fA1 rfl (JL (.set b ns))),oB,KS (by simp [Dd.tk])];exact fA2 (x:=inD ns) (y:=inD st) (zV (Zr (zJ rfl)) rfl (zw (j:=2) rfl)) (zJ rfl) (worth_ok (by rw [hd.2.1,hl]) (by omega) hd.2.2 hs hn)) ?_
  simp only [zSet,zj]
  exact fin b _ hd.1
theorem law_behind_ok (d:Dd) (o:Option Int) (hd:d.ok mm) (ho:o.isSome=d.tk) (hl:st.length=mm+1) (h6:mm<=6) (hs:∀ x∈st,x.natAbs<2 ^ n) (hn:n<=1000000):mq24 [inD st,d.toD,oD o]=some (inD (d.go o st)):=by
 refine Wo.eq ?_
 unfold mq24 bq24
 rw [Z6]
 refine ⟨rfl,?_⟩
 simp only [zM,zMap,zLen,List.replicate,zApp,QD,Nat.reduceAdd,Nat.reduceSub]
 have fin:∀ (x:Kw) (b:Nat) (ps:List D) (v:Int),d.toD=.tup (.str x::.int (b:Nat)::ps)->b<mm->Wo (ZQ (fA jV (zh true (Z4 1 (yO (fA yX (zh false (zb 0)))) (zR 3) YF (fIf (zI (f2 Y9 (zb 3) (f2 ZT (fIx (zh false (zb 1)) (fC (.int 1))) (fC (.int 1))))) (fIx (zh false (zb 0)) (zb 3)) (zb 2))))) [some (inD st),some d.toD,some (.int v)]) (wx fun r=>r=inD (st.set (b+1) v)):=fun x b ps v hdd hb=>by
  obtain ⟨vs,e,hv,hP⟩:=ju (k:=1) (fl:=yO (fA yX (zh false (zb 0)))) (u:=zR 3) (c:=YF) (e:=fIf (zI (f2 Y9 (zb 3) (f2 ZT (fIx (zh false (zb 1)) (fC (.int 1))) (fC (.int 1))))) (fIx (zh false (zb 0)) (zb 3)) (zb 2)) (ρ:=[some (inD st),some d.toD,some (.int v)]) (ds:=yr 0 st.length)
   (fun i w=>w=(st.set (b+1) v).getD i 0) (fun ρ=>∃ z:Option D,ρ=[some (inD st),some d.toD,some (.int v),z]) (rng1v (by rw [fA_,Zr (ds:=st.map D.int) rfl,oB,gLen_,Qg]) (by omega)) (by rw [Zx];omega) ⟨none,rfl⟩ (by
    rintro i d' ρ hd' ⟨z,rfl⟩
    obtain ⟨hi,rfl⟩:=yA hd'
    rw [yT,zG]
    refine ⟨rfl,?_,_,rfl⟩
    have et:zI (f2 Y9 (zb 3) (f2 ZT (fIx (zh false (zb 1)) (fC (.int 1))) (fC (.int 1)))) [some (inD st),some d.toD,some (.int v),some (.int (0+(i:Nat)))]=some (!decide ((0+(i:Nat):Int)=(b:Nat)+1)):=z6 (f2v rfl (f2v (zV (Zr (ds:=.str x::.int (b:Nat)::ps) (by rw [<- hdd];rfl)) rfl (zw (j:=1) rfl)) rfl yY) dNeS_)
    simp only [zSet]
    rw [fIf_,et,oB]
    by_cases hc:i=b+1
    ·rw [KS (by simp [hc])]
     refine ⟨_,rfl,v,rfl,?_⟩
     rw [hc]
     simp [List.getD,hl,show b+1<mm+1 by omega]
    ·rw [KR (by simp;omega)]
     refine ⟨_,zV (Zr (ds:=st.map D.int) rfl) rfl (by rw [Pj];exact gy hi),_,rfl,?_⟩
     simp [List.getD,Px (Ne.symm hc)])
  have ev:vs=st.set (b+1) v:=W7 (by rw [hv,Zx,Qp]) fun i hi=>hP i (by rw [Zx];simpa using hi)
  refine jf (tupL e) ?_
  rw [ev]
  rfl
 cases d with
 | skip =>
  rw [zt]
  refine if_t (kis (x:="skip") (ps:=[]) rfl) ?_
  refine wo_retv (d:=inD st) ?_ ?_
  ·rfl
  ·rfl
 | take b =>
  rw [zt]
  refine jr (kno (x:="take") rfl (by decide)) ?_
  rw [ZB,zG,zj,zt]
  refine jr (kno (x:="take") rfl (by decide)) ?_
  rw [ZB,zG,zj]
  obtain ⟨v,rfl⟩:∃ v,o=some v:=Q2.mp ho
  exact fin "take" b [] v rfl hd
 | set b ns =>
  rw [zt]
  refine jr (kno (x:="set") rfl (by decide)) ?_
  rw [ZB,zG,zj,zt]
  refine if_t (kis (x:="set") rfl) ?_
  have hns:ns.length=mm+1:=hd.2.1
  obtain ⟨vs,e,hv,hP⟩:=ju (k:=1) (fl:=yO (fA yX (zh false (zb 0)))) (u:=zR 3) (c:=YF) (e:=f2 Yn (fIx (zh false (fIx (zh false (zb 1)) (fC (.int 2)))) (zb 3)) (fIx (zh false (zb 0)) (zb 3))) (ρ:=[some (inD st),some (Dd.set b ns).toD,some (oD o)]) (ds:=yr 0 st.length)
   (fun i w=>w=ns.getD i 0*st.getD i 0) (fun ρ=>∃ z:Option D,ρ=[some (inD st),some (Dd.set b ns).toD,some (oD o),z]) (rng1v (by rw [fA_,Zr (ds:=st.map D.int) rfl,oB,gLen_,Qg]) (by omega)) (by rw [Zx];omega) ⟨none,rfl⟩ (by
    rintro i d' ρ hd' ⟨z,rfl⟩
    obtain ⟨hi,rfl⟩:=yA hd'
    have hi':i<ns.length:=by rw [hd.2.1];omega
    rw [yT,zG]
    refine ⟨rfl,⟨_,f2v (zV (Zr (zV (Zr (zJ rfl)) rfl (zw (j:=2) rfl))) rfl (by rw [Pj];exact gy hi')) (zV (Zr (ds:=st.map D.int) rfl) rfl (by rw [Pj];exact gy hi)) (yt (mulB (b21 (hd.2.2 _ (jU hi'))) (hs _ (jU hi)) (by omega))),_,rfl,rfl⟩,_,rfl⟩)
  have ev:vs=List.zipWith (·*·) ns st:=W7 (by rw [hv,Zx];simp;omega) fun i hi=>by
   have hi':i<st.length:=by simp at hi;omega
   rw [hP i (by rw [Zx];exact hi'),dot_at (by omega) hi']
  refine ZO (d:=.int (dot ns st)) (by rw [fA_,ZP e,oB,gSum_,ev];rfl) ?_
  simp only [zSet,zj]
  exact fin "set" b [.tup (ns.map .int)] _ rfl hd.1
end
variable {mm:Nat}
abbrev Mv:=Nat×Option Int
def nxt (sps:List Sp) (s:Int×List Int) (m:Mv):Int×List Int:=match sps[m.1]? with
 | some t=>(t.q,t.d.go m.2 s.2)
 | none=>s
def stA (sps:List Sp) (s:Int×List Int) (ms:List Mv) (i:Nat):Int×List Int:=(ms.take i).foldl (nxt sps) s
def s0 (mm:Nat):Int×List Int:=(0,1::List.replicate mm 0)
structure Good (mm:Nat) (sps:List Sp) (ms:List Mv):Prop where
 ok:∀ t∈sps,t.d.ok mm
 at_:∀ (i:Nat) m,ms[i]?=some m->∃ t,sps[m.1]?=some t/\t.p=(stA sps (s0 mm) ms i).1/\m.2.isSome=t.d.tk/\∀ n,m.2=some n->n.natAbs<2 ^ 30
section
variable {sps:List Sp} {ms:List Mv} {s:Int×List Int}
theorem jJ:stA sps s ms 0=s:=by simp [stA]
theorem Yt {i:Nat} {m:Mv} (h:ms[i]?=some m):stA sps s ms (i+1)=nxt sps (stA sps s ms i) m:=by
 unfold stA
 rw [List.take_add_one,h]
 simp [List.foldl_append]
theorem WG {a i:Nat} (h:i<=a):stA sps s (ms.take a) i=stA sps s ms i:=by
 unfold stA
 rw [List.take_take,Pl h]
theorem stA_app {es:List Mv} {i:Nat} (h:i<=ms.length):stA sps s (ms++es) i=stA sps s ms i:=by
 unfold stA
 rw [List.take_append_of_le_length h]
theorem Good.take {a:Nat} (h:Good mm sps ms):Good mm sps (ms.take a):=⟨h.ok,fun i m e=>by
 rw [List.getElem?_take] at e
 split at e
 ·rename_i hi
  rw [WG (Q6 hi)]
  exact h.at_ i m e
 ·cases e⟩
theorem Ju {t:Sp} {m:Mv} (h:sps[m.1]?=some t):nxt sps s m=(t.q,t.d.go m.2 s.2):=by unfold nxt;rw [h]
theorem mem_set' {l:List Int} {i:Nat} {v x:Int} (h:x∈l.set i v):x=v\/x∈l:=by
 rcases List.mem_or_eq_of_mem_set h with h | h
 ·exact .inr h
 ·exact .inl h
theorem pw {a b x:Nat} (h:x<2 ^ a) (hab:a<=b):x<2 ^ b:=Qs h (Nat.pow_le_pow_right (by decide) hab)
theorem WD (h:Good mm sps ms) (h6:mm<=6):∀ i,i<=ms.length->(stA sps (s0 mm) ms i).2.length=mm+1/\∀ x∈(stA sps (s0 mm) ms i).2,x.natAbs<2 ^ (30+24*i)
 | 0,_=>by
  rw [jJ]
  refine ⟨by simp [s0],fun x hx=>?_⟩
  have hx':x∈(1:Int)::List.replicate mm 0:=hx
  rcases Qc.mp hx' with rfl | hx'
  ·decide
  ·rw [List.eq_of_mem_replicate hx'];decide
 | i+1,hi=>by
  obtain ⟨hl,hb⟩:=WD h h6 i (by omega)
  have hm:ms[i]?=some ms[i]:=Qv (by omega)
  obtain ⟨t,e1,_,e3,e4⟩:=h.at_ i _ hm
  rw [Yt hm,Ju e1]
  have hok:=h.ok t (QV e1)
  generalize stA sps (s0 mm) ms i=w at hl hb
  show (t.d.go _ w.2).length=mm+1/\∀ x∈t.d.go _ w.2,_
  have old:∀ x∈w.2,x.natAbs<2 ^ (30+24*(i+1)):=fun x hx=>pw (hb x hx) (by omega)
  cases hd:t.d with
  | skip=>exact ⟨hl,old⟩
  | take b =>
   refine ⟨by simp [Dd.go,hl],fun x hx=>?_⟩
   rcases mem_set' hx with rfl | hx
   ·rw [hd] at e3
    obtain ⟨v,ev⟩:=Q2.mp e3
    have:=e4 v ev
    rw [ev]
    exact pw this (by omega)
   ·exact old x hx
  | set b ns =>
   rw [hd] at hok
   refine ⟨by simp [Dd.go,hl],fun x hx=>?_⟩
   rcases mem_set' hx with rfl | hx
   ·refine pw (sum_big (m:=51+24*i) (fun y hy=>?_) (by simp [hl,hok.2.1];omega)) (by omega)
    obtain ⟨k,hk,rfl⟩:=List.getElem_of_mem hy
    rw [List.getElem_zipWith,Int.natAbs_mul]
    have a1:=hok.2.2 _ (Pv (l:=ns) (n:=k) (by simp at hk;omega))
    have a2:=hb _ (Pv (l:=w.2) (n:=k) (by simp at hk;omega))
    have e:51+24*i=21+(30+24*i):=by omega
    rw [e,Nat.pow_add]
    exact Nat.mul_lt_mul_of_lt_of_le (b21 a1) (Q6 a2) (Nat.pow_pos (by decide))
   ·exact old x hx
end
variable {mm:Nat}
theorem atI_end {xs:List D} {x:D}:atI (xs++[x]) (-1)=some x:=by
 unfold atI ixN
 rw [KS (by omega),KR (by simp;omega)]
 have:((-1:Int)+((xs++[x]).length:Nat)).toNat=xs.length:=by rw [Qj,Pr];omega
 rw [this,oB]
 simp
theorem Wq {f:Nat->D} {i:Nat}:atI ((List.range (i+1)).map f) (-1)=some (f i):=by
 rw [List.range_succ,Q5]
 exact atI_end
theorem Wh {f:Nat->D} {i:Nat}:(List.range (i+1)).map f++[f (i+1)]=(List.range (i+1+1)).map f:=by
 rw [List.range_succ (n:=i+1),Q5]
 rfl
theorem chainv {fa fb fc:Ev->Option D} {ρ:Ev} {a b c:Int} (h1:fa ρ=some (.int a)) (h2:fb ρ=some (.int b)) (h3:fc ρ=some (.int c)) (hab:a<=b) (hbc:b<c):jY dLe dLt fa fb fc ρ=some (.bl true):=by
 unfold jY
 rw [h1,oB,h2,oB]
 have e:dLe (.int a) (.int b)=some (.bl true):=by
  show some (D.bl (decide (a<=b)))=_
  rw [KU hab]
 rw [e,oB]
 rw [show asB (D.bl true)=some true from rfl,oB,KR rfl,h3,oB]
 show some (D.bl (decide (b<c)))=_
 rw [KU hbc]
def ZF (sps:List Sp):D:=.lst (sps.map Sp.toD)
def yL (ms:List Mv):D:=.lst (ms.map mvD)
section
variable {sps:List Sp} {ms:List Mv}
theorem jL {t:Sp} {j:Nat} (h:sps[j]?=some t):atI (sps.map Sp.toD) (j:Int)=some t.toD:=zw (by simp [h])
theorem mv_get {i:Nat} {d:D} (h:(ms.map mvD)[i]?=some d):∃ m,ms[i]?=some m/\d=mvD m:=by
 rw [QO] at h
 obtain ⟨m,e,rfl⟩:=PR.mp h
 exact ⟨m,e,rfl⟩
theorem W8 {t:Sp} {m:Mv} (h:sps[m.1]?=some t) (ho:m.2.isSome=t.d.tk):mq17 [ZF sps,mvD m,.int t.p]=some (.bl true):=by
 refine Wo.eq ?_
 unfold mq17 bq17
 rw [Z6]
 refine ⟨rfl,?_⟩
 simp only [zM,zMap,zLen,List.replicate,zApp,QD,Nat.reduceAdd,Nat.reduceSub]
 have e0:∀ z,fIx (zh false (zb 1)) (fC (.int 0)) [some (ZF sps),some (mvD m),some (.int t.p),z]=some (.int (m.1:Nat)):=fun z=>zV (Zr (ds:=[.int (m.1:Nat),oD m.2]) rfl) rfl (zw (j:=0) rfl)
 have hlt:=(Qh.mp h).1
 rw [zt]
 refine jr (not_t (z6 (chainv rfl (e0 none) (lenv (ds:=sps.map Sp.toD) rfl) (by omega) (by rw [Qg];omega)))) ?_
 rw [ZB,zG,zj,zt]
 refine ZO (d:=t.toD) (zV (ZP (ds:=sps.map Sp.toD) rfl) (e0 none) (jL h)) ?_
 simp only [zSet,zj]
 refine jf (andV_t (f2v (zV (Zr (ds:=[.int t.p,.int t.q,t.d.toD]) rfl) rfl (zw (j:=0) rfl)) rfl (by show ZE (.int t.p) (.int t.p)=_;rw [dEqS_self])) (f2v (fA1 (zV (Zr (ds:=[.int t.p,.int t.q,t.d.toD]) rfl) rfl (zw (j:=2) rfl)) (JL t.d)) (f2v (zV (Zr (ds:=[.int (m.1:Nat),oD m.2]) rfl) rfl (zw (j:=1) rfl)) rfl dNotN_) ?_)) rfl
 have:yN (oD m.2)=!t.d.tk:=by
  rw [<- ho]
  cases m.2 <;> rfl
 rw [this,Bool.not_not]
 cases t.d.tk <;> rfl
def plD (sps:List Sp) (mm:Nat) (ms:List Mv) (k:Nat):D:=.int (stA sps (s0 mm) ms k).1
theorem jz (h:Good mm sps ms) (hl:ms.length<=100000):mq16 [ZF sps,yL ms]=some (.lst ((List.range (ms.length+1)).map (plD sps mm ms))):=by
 refine Wo.eq ?_
 unfold mq16 bq16
 rw [Z6]
 refine ⟨rfl,?_⟩
 simp only [zM,zMap,zLen,List.replicate,zApp,QD,Nat.reduceAdd,Nat.reduceSub]
 rw [zt]
 refine new_ (jA (d:=.int 0) rfl) (by simp) ?_
 simp only [zSet,zj]
 rw [zt,jS,ZP (ds:=ms.map mvD) rfl,oB]
 refine Yo (fun i ρ=>i<=ms.length/\∃ z:Option D,ρ=[some (ZF sps),some (yL ms),some (.lst ((List.range (i+1)).map (plD sps mm ms))),z]) ⟨by omega,none,?_⟩ ?_ ?_
 ·show _=[some (ZF sps),some (yL ms),some (.lst [plD sps mm ms 0]),none]
  unfold plD
  rw [jJ]
  rfl
 ·rintro i d ρ hd ⟨hi,z,rfl⟩
  obtain ⟨m,em,rfl⟩:=mv_get hd
  have hlt:=(Qh.mp em).1
  obtain ⟨t,e1,e2,e3,_⟩:=h.at_ i m em
  rw [yT,zG]
  simp only [zSet]
  rw [zt]
  refine jr (not_t (z6 (fA3 (x:=ZF sps) (y:=mvD m) (z:=.int t.p) rfl rfl (zV (ZP (ds:=(List.range (i+1)).map (plD sps mm ms)) rfl) (f1v rfl dNeg_) (by rw [Wq];unfold plD;rw [e2])) (W8 e1 e3)))) ?_
  rw [ZB,zG,zj]
  refine upd_ (d:=.int t.q) (zV (Zr (ds:=[.int t.p,.int t.q,t.d.toD]) (zV (ZP (ds:=sps.map Sp.toD) rfl) (zV (Zr (ds:=[.int (m.1:Nat),oD m.2]) rfl) rfl (zw (j:=0) rfl)) (jL e1))) rfl (zw (j:=1) rfl)) rfl (Yy (size8 (by simp;omega))) ?_
  refine ⟨by omega,some (mvD m),?_⟩
  simp only [zSet]
  have:(D.int t.q)=plD sps mm ms (i+1):=by unfold plD;rw [Yt em,Ju e1]
  rw [this,Wh]
 ·rintro ρ ⟨_,z,rfl⟩
  rw [zj]
  refine jf (zJ (d:=.lst ((List.range ((ms.map mvD).length+1)).map (plD sps mm ms))) rfl) ?_
  rw [Qg]
theorem s0_cat (h6:mm<=6) {f:Ev->Option D} {ρ:Ev} (e:f ρ=some (.int (mm:Nat))):Jp (ZC (zf (fC (.int 1)) zr)) (f2 wK (ZC (zf (fC (.int 0)) zr)) f) ρ=some (inD (s0 mm).2):=by
 have e2:wK (.tup [.int 0]) (.int (mm:Nat))=some (.tup (List.replicate mm (.int 0))):=by
  unfold wK
  simp only
  rw [KR ⟨by simp,by omega,by simp;omega,by omega⟩,Pe,Jm]
 rw [catT_ (tup1_ (d:=.int 1) rfl) (f2v (tup1_ (d:=.int 0) rfl) e e2) (by simp;omega)]
 unfold inD s0
 simp
theorem first_ok (h6:mm<=6) (bs:D):mq13 [.tup [.int (mm:Nat),bs]]=some (inD (s0 mm).2):=by
 refine JR rfl ?_
 unfold bq13
 rw [jR,s0_cat h6 (zV (Zr (ds:=[.int (mm:Nat),bs]) rfl) rfl (zw (j:=0) rfl))]
 rfl
def stD (sps:List Sp) (mm:Nat) (ms:List Mv) (k:Nat):D:=inD (stA sps (s0 mm) ms k).2
def rwD (sps:List Sp) (mm:Nat) (ms:List Mv) (k:Nat):D:=rowD (stA sps (s0 mm) ms k)
theorem zip_rows:∀ (l:List Nat),zipD (l.map (plD sps mm ms)) (l.map (stD sps mm ms))=l.map (rwD sps mm ms)
 | []=>rfl
 | k::l=>by
  have:=zip_rows l
  unfold zipD at this ⊢
  rw [Qr,Qr,Qr,List.zipWith_cons_cons,this]
  rfl
theorem ran_ok (h:Good mm sps ms) (h6:mm<=6) (hl:ms.length<=10000) {bs c e:D} (hp:mq4 [.tup [.int (mm:Nat),bs]]=some (.tup [c,ZF sps,e])):mq12 [.tup [.int (mm:Nat),bs],yL ms]=some (.lst ((List.range (ms.length+1)).map (rwD sps mm ms))):=by
 refine Wo.eq ?_
 unfold mq12 bq12
 rw [Z6]
 refine ⟨rfl,?_⟩
 simp only [zM,zMap,zLen,List.replicate,zApp,QD,Nat.reduceAdd,Nat.reduceSub]
 rw [zt]
 refine ZO (d:=ZF sps) (zV (Zr (fA1 rfl hp)) rfl (zw (j:=1) rfl)) ?_
 simp only [zSet,zj]
 rw [zt]
 refine ZO (fA2 rfl rfl (jz h (by omega))) ?_
 simp only [zSet,zj]
 rw [zt]
 refine jr (z6 (f2v rfl rfl (by rw [dIsN_,isNon_l]))) ?_
 rw [ZB,zG,zj,zt]
 refine new_ (jA (fA1 rfl (first_ok h6 bs))) (by simp) ?_
 simp only [zSet,zj]
 rw [zt,jS,ZP (ds:=ms.map mvD) rfl,oB]
 refine Yo (fun i ρ=>i<=ms.length/\∃ z:Option D,ρ=[some (.tup [.int (mm:Nat),bs]),some (yL ms),some (ZF sps),some (.lst ((List.range (ms.length+1)).map (plD sps mm ms))),some (.lst ((List.range (i+1)).map (stD sps mm ms))),z]) ⟨by omega,none,?_⟩ ?_ ?_
 ·show _=[_,_,_,_,some (D.lst [stD sps mm ms 0]),none]
  unfold stD
  rw [jJ]
 ·rintro i d ρ hd ⟨hi,z,rfl⟩
  obtain ⟨m,em,rfl⟩:=mv_get hd
  have hlt:=(Qh.mp em).1
  obtain ⟨t,e1,e2,e3,_⟩:=h.at_ i m em
  obtain ⟨s1,s2⟩:=WD h h6 i hi
  rw [yT,zG]
  simp only [zSet]
  refine upd_ (d:=stD sps mm ms (i+1)) (fA3 (x:=t.d.toD) (y:=oD m.2) (z:=stD sps mm ms i) (zV (Zr (ds:=[.int t.p,.int t.q,t.d.toD]) (zV (ZP (ds:=sps.map Sp.toD) rfl) (zV (Zr (ds:=[.int (m.1:Nat),oD m.2]) rfl) rfl (zw (j:=0) rfl)) (jL e1))) rfl (zw (j:=2) rfl)) (zV (Zr (ds:=[.int (m.1:Nat),oD m.2]) rfl) rfl (zw (j:=1) rfl)) (zV (ZP (ds:=(List.range (i+1)).map (stD sps mm ms)) rfl) (f1v rfl dNeg_) Wq) ?_) rfl (Yy (size8 (by simp;omega))) ?_
  ·unfold stD
   rw [behind_ok t.d m.2 (h.ok t (QV e1)) e3 s1 h6 s2 (by omega),Yt em,Ju e1]
  ·refine ⟨by omega,some (mvD m),?_⟩
   simp only [zSet]
   rw [Wh]
 ·rintro ρ ⟨_,z,rfl⟩
  rw [zj]
  refine jf (d:=.lst ((List.range (ms.length+1)).map (rwD sps mm ms))) ?_ rfl
  unfold gf
  rw [Qg,ZP (ds:=(List.range (ms.length+1)).map (plD sps mm ms)) rfl,oB,ZP (ds:=(List.range (ms.length+1)).map (stD sps mm ms)) rfl]
  show some (D.lst (zipD _ _))=_
  rw [zip_rows]
theorem is_run_ok (h:Good mm sps ms) (hl:ms.length<=10000) {bs c e:D} (hp:mq4 [.tup [.int (mm:Nat),bs]]=some (.tup [c,ZF sps,e])):mq11 [.tup [.int (mm:Nat),bs],yL ms]=some (.bl true):=by
 refine JR rfl ?_
 unfold bq11
 rw [jR,f2v (fA2 (zV (Zr (fA1 rfl hp)) rfl (zw (j:=1) rfl)) rfl (jz h (by omega))) rfl dNotN_]
 rfl
theorem walked_ok (h:Good mm sps ms) (h6:mm<=6) (hl:ms.length<=10000):mq26 [.int (mm:Nat),ZF sps,yL ms]=some (.lst ((List.range (ms.length+1)).map (rwD sps mm ms))):=by
 refine Wo.eq ?_
 unfold mq26 bq26
 rw [Z6]
 refine ⟨rfl,?_⟩
 simp only [zM,zMap,zLen,List.replicate,zApp,QD,Nat.reduceAdd,Nat.reduceSub]
 rw [zt]
 refine ZO (d:=.int 0) rfl ?_
 simp only [zSet,zj]
 rw [zt]
 refine ZO (s0_cat h6 rfl) ?_
 simp only [zSet,zj]
 rw [zt]
 refine new_ (jA (Y2 (d:=.int 0) (d':=inD (s0 mm).2) rfl rfl)) (by simp) ?_
 simp only [zSet,zj]
 rw [zt,jS,ZP (ds:=ms.map mvD) rfl,oB]
 refine Yo (fun i ρ=>i<=ms.length/\∃ y z:Option D,ρ=[some (.int (mm:Nat)),some (ZF sps),some (yL ms),some (plD sps mm ms i),some (stD sps mm ms i),some (.lst ((List.range (i+1)).map (rwD sps mm ms))),y,z]) ⟨by omega,none,none,?_⟩ ?_ ?_
 ·show _=[_,_,_,some (plD sps mm ms 0),some (stD sps mm ms 0),some (D.lst [rwD sps mm ms 0]),none,none]
  unfold stD plD rwD
  rw [jJ]
  rfl
 ·rintro i d ρ hd ⟨hi,y,z,rfl⟩
  obtain ⟨m,em,rfl⟩:=mv_get hd
  have hlt:=(Qh.mp em).1
  obtain ⟨t,e1,e2,e3,_⟩:=h.at_ i m em
  obtain ⟨s1,s2⟩:=WD h h6 i hi
  refine ⟨[some (.int (mm:Nat)),some (ZF sps),some (yL ms),some (plD sps mm ms i),some (stD sps mm ms i),some (.lst ((List.range (i+1)).map (rwD sps mm ms))),some (.int (m.1:Nat)),some (oD m.2)],rfl,?_⟩
  have est:∀ a b c,fIx (zh true (zb 1)) (zb 6) [some (.int (mm:Nat)),some (ZF sps),some (yL ms),a,b,c,some (.int (m.1:Nat)),some (oD m.2)]=some (.tup [.int t.p,.int t.q,t.d.toD]):=fun a b c=>zV (ZP (ds:=sps.map Sp.toD) rfl) rfl (jL e1)
  show Wo (zO _ _ _) _
  rw [zt]
  refine ZO (d:=stD sps mm ms (i+1)) (fA3 (x:=stD sps mm ms i) (y:=t.d.toD) (z:=oD m.2) rfl (zV (Zr (est _ _ _)) rfl (zw (j:=2) rfl)) rfl ?_) ?_
  ·unfold stD
   rw [law_behind_ok t.d m.2 (h.ok t (QV e1)) e3 s1 h6 s2 (by omega),Yt em,Ju e1]
  simp only [zSet,zj]
  rw [zt]
  have eq':(D.int t.q)=plD sps mm ms (i+1):=by unfold plD;rw [Yt em,Ju e1]
  refine ZO (d:=plD sps mm ms (i+1)) (zV (Zr (est _ _ _)) rfl (by rw [<- eq'];exact zw (j:=1) rfl)) ?_
  simp only [zSet,zj]
  refine upd_ (d:=rwD sps mm ms (i+1)) (Y2 rfl rfl) rfl (Yy (size8 (by simp;omega))) ?_
  refine ⟨by omega,some (.int (m.1:Nat)),some (oD m.2),?_⟩
  simp only [zSet]
  rw [Wh]
 ·rintro ρ ⟨_,y,z,rfl⟩
  rw [zj]
  refine jf (zJ (d:=.lst ((List.range ((ms.map mvD).length+1)).map (rwD sps mm ms))) rfl) ?_
  rw [Qg]
end
variable {mm:Nat}
theorem rows_py {rs:List (Int×List Int)}:Py 3 (.lst (rs.map rowD)):=.lst fun d hd=>by
 obtain ⟨s,_,rfl⟩:=QT.mp hd
 refine Py.tup (n:=1) fun e he=>?_
 simp only [Qc,Qn,or_false] at he
 rcases he with rfl | rfl
 ·exact .int _ _
 ·refine Py.tup (n:=0) fun e he=>?_
  obtain ⟨x,_,rfl⟩:=QT.mp he
  exact .int _ _
theorem rng1w {f:Ev->Option D} {ρ:Ev} {n:Nat} (h:f ρ=some (.int (n:Nat))) (hn:n<=1000000):yO f ρ=some (yr 0 n):=by
 refine Wo.eq ?_
 rw [wo_rng1,h,zG,wZ,zG]
 exact ⟨⟨by omega,by omega⟩,by rw [Pe]⟩
section
variable {sps:List Sp} {ms:List Mv}
theorem Good.snoc (h:Good mm sps ms) {j:Nat} {o:Option Int} {t:Sp} (e1:sps[j]?=some t) (e2:t.p=(stA sps (s0 mm) ms ms.length).1) (e3:o.isSome=t.d.tk) (e4:∀ n,o=some n->n.natAbs<2 ^ 30):Good mm sps (ms++[(j,o)])/\(stA sps (s0 mm) (ms++[(j,o)]) (ms.length+1)).1=t.q:=by
 refine ⟨⟨h.ok,fun i m e=>?_⟩,?_⟩
 ·rw [List.getElem?_append] at e
  split at e
  ·rename_i hi
   rw [stA_app (Q6 hi)]
   exact h.at_ i m e
  ·rename_i hi
   have hz:i=ms.length:=by
    rcases Nat.eq_or_lt_of_le (Nat.le_of_not_lt hi) with q | q
    ·exact q.symm
    ·rw [Pu (by simp;omega)] at e;cases e
   subst hz
   rw [Nat.sub_self] at e
   cases e
   rw [stA_app (Ql _)]
   exact ⟨t,e1,e2,e3,e4⟩
 ·rw [Yt (m:=(j,o)) (by simp),Ju (m:=(j,o)) e1]
theorem pick_comp (q:Int) {y0 y1 y3 y4 y6 y7 y8 y9 y10:Option D}:∀ (js0:List Nat) (y11:Option D),(∀ j∈js0,j<sps.length)->∃ js:List Nat,yn (zR 11) (zI (f2 ZE (fIx (zh false (fIx (zh true (zb 2)) (zb 11))) (fC (.int 0))) (zb 5))) (zb 11) (js0.map fun j=>D.int (0+(j:Nat))) [y0,y1,some (ZF sps),y3,y4,some (.int q),y6,y7,y8,y9,y10,y11]=some (js.map fun j=>D.int (j:Nat))/\js.length<=js0.length/\∀ j∈js,∃ t,sps[j]?=some t/\t.p=q
 | [],y11,_=>⟨[],rfl,Ql _,fun j hj=>by cases hj⟩
 | j::js0,y11,hj=>by
  obtain ⟨js,e,hl,hp⟩:=pick_comp q js0 (some (.int (0+(j:Nat)))) fun i hi=>hj i (Qe _ hi)
  obtain ⟨t,et⟩:∃ t,sps[j]?=some t:=⟨_,Qv (hj j Qt)⟩
  have eb:zI (f2 ZE (fIx (zh false (fIx (zh true (zb 2)) (zb 11))) (fC (.int 0))) (zb 5)) [y0,y1,some (ZF sps),y3,y4,some (.int q),y6,y7,y8,y9,y10,some (.int (0+(j:Nat)))]=some (decide (t.p=q)):=z6 (f2v (zV (Zr (ds:=[.int t.p,.int t.q,t.d.toD]) (zV (ZP (ds:=sps.map Sp.toD) rfl) rfl (by rw [Pj];exact jL et))) rfl (zw (j:=0) rfl)) rfl YT)
  rw [Qr,yn,zR,oB]
  simp only [zSet]
  rw [eb,oB]
  by_cases hc:t.p=q
  ·rw [KR (KU hc),zJ (d:=.int (0+(j:Nat))) rfl,oB,e]
   refine ⟨j::js,by simp,by simp;omega,fun i hi=>?_⟩
   rcases Qc.mp hi with rfl | hi
   ·exact ⟨t,et,hc⟩
   ·exact hp i hi
  ·rw [KS (by simp [hc]),e]
   exact ⟨js,rfl,by simp;omega,hp⟩
theorem js_py (js:List Nat):Y5 (.lst (js.map fun j=>D.int (j:Nat)))=true:=by
 have h:Py 1 (.lst (js.map fun j=>D.int (j:Nat))):=.lst fun d hd=>by
  obtain ⟨p,hp,rfl⟩:=QT.mp hd
  exact .int _ _
 unfold Y5 SeqAt.shaped
 rw [h.1,KU (Qw h.2 (by omega))];rfl
theorem run_ok (ns:List Int) (hok:∀ t∈sps,t.d.ok mm) (hs:sps.length<=800000) {KO:Nat} (hm:KO<=250):∃ ms:List Mv,mq25 [.scr ns,.int 26,ZF sps,.int (KO:Nat)]=some (yL ms)/\Good mm sps ms/\ms.length<=KO:=by
 suffices h:Wo (mq25 [.scr ns,.int 26,ZF sps,.int (KO:Nat)]) fun d=>∃ ms:List Mv,d=yL ms/\Good mm sps ms/\ms.length<=KO by
  obtain ⟨d,e,ms,rfl,q⟩:=h
  exact ⟨ms,e,q⟩
 unfold mq25 bq25
 rw [Z6]
 refine ⟨rfl,?_⟩
 simp only [zM,zMap,zLen,List.replicate,zApp,QD,Nat.reduceAdd,Nat.reduceSub]
 rw [zt]
 refine new_ W3 (by simp) ?_
 simp only [zSet,zj]
 rw [zt]
 refine ZO (d:=.int 0) rfl ?_
 simp only [zSet,zj]
 rw [zt,jS,rng1v (n:=KO) rfl (by omega),oB]
 refine Yo (fun i ρ=>i<=KO/\∃ (ms:List Mv) (a b c d e:Option D),ρ=[some (.scr ns),some (.int 26),some (ZF sps),some (.int (KO:Nat)),some (yL ms),some (.int (stA sps (s0 mm) ms ms.length).1),a,b,c,d,e]/\Good mm sps ms/\ms.length<=i) ⟨by omega,[],_,_,_,_,_,rfl,⟨hok,fun i m e=>by simp at e⟩,by simp⟩ ?_ ?_
 ·rintro i d ρ hd ⟨him,ms,a,b,c,d',e,rfl,hg,hl⟩
  obtain ⟨hi,rfl⟩:=yA hd
  generalize hq:(stA sps (s0 mm) ms ms.length).1=q
  rw [Pj,yT,zG]
  simp only [zSet]
  obtain ⟨v,ev⟩:=Jd ns (26+((i:Nat):Int) % 23) (by omega) (by omega)
  rw [zt]
  refine ZO (f2v (fA2 rfl (f2v rfl (f2v rfl rfl (Zw (by decide))) yY) ev) (f2v rfl (f2v rfl rfl (yj (by decide) (by decide))) yY) (dDivP_s (show (1+((i:Nat):Int) / 23)≠0 by omega))) ?_
  simp only [zSet,zj]
  generalize v.fdiv (1+((i:Nat):Int) / 23)=cell
  obtain ⟨js,ej,jl,hp⟩:=pick_comp (sps:=sps) q (y0:=some (.scr ns)) (y1:=some (.int 26)) (y3:=some (.int (KO:Nat))) (y4:=some (yL ms)) (y6:=some (.int (i:Nat))) (y7:=some (.int cell)) (y8:=c) (y9:=d') (y10:=e) (List.range sps.length) none fun j hj=>by simpa using hj
  rw [zt]
  refine ZO (d:=.lst (js.map fun j=>D.int (j:Nat))) (by
   rw [JB,rng1w (n:=sps.length) ((lenv (ds:=sps.map Sp.toD) rfl).trans (by rw [Qg])) (by omega),oB]
   show (yn _ _ _ ((List.range sps.length).map fun j=>D.int (0+(j:Nat))) [some (.scr ns),some (.int 26),some (ZF sps),some (.int (KO:Nat)),some (yL ms),some (.int q),some (.int (i:Nat)),some (.int cell),c,d',e,none]).bind Jg=_
   rw [ej,oB]
   exact YS (ZK (by rw [Qg];rw [List.length_range] at jl;omega))) ?_
  simp only [zSet,zj]
  refine wV (z6 (f2v rfl W3 (ne_nil (js_py js)))) (fun ne=>?_) (fun _=>?_)
  ·have hpos:0<(js.map fun j=>D.int (j:Nat)).length:=by
    cases js with
    | nil=>simp at ne
    | cons _ _=>simp
   have hmul:((i:Nat):Int)*(i:Nat)=((i*i:Nat):Int):=by rw [Int.natCast_mul]
   obtain ⟨x,hx,ex⟩:=at_mod (c:=cell+(i:Nat)*(i:Nat)) hpos
   obtain ⟨j,hj,rfl⟩:=QT.mp hx
   obtain ⟨t,et,ep⟩:=hp j hj
   rw [zt]
   refine ZO (zV (ZP (ds:=js.map fun j=>D.int (j:Nat)) rfl) (f2v (f2v rfl (f2v rfl rfl (yt (wc (by omega) (by omega)))) yY) (lenv (ds:=js.map fun j=>D.int (j:Nat)) rfl) (Zw (by omega))) ex) ?_
   simp only [zSet,zj]
   rw [zt]
   refine ZO (d:=.non) rfl ?_
   simp only [zSet,zj]
   have fin:∀ o:Option Int,o.isSome=t.d.tk->(∀ n,o=some n->n.natAbs<2 ^ 30)->Wo ((zO (W6 4 yx (ZC (zf (zb 9) (zf (zb 10) zr)))) (Zi 5 (fIx (zh false (fIx (zh true (zb 2)) (zb 9))) (fC (.int 1))))) [some (.scr ns),some (.int 26),some (ZF sps),some (.int (KO:Nat)),some (yL ms),some (.int q),some (.int (i:Nat)),some (.int cell),some (.lst (js.map fun j=>D.int (j:Nat))),some (.int (j:Nat)),some (oD o)]) fun o=>match o with
     | .nx ρ2=>i+1<=KO/\∃ (ms:List Mv) (a b c d e:Option D),ρ2=[some (.scr ns),some (.int 26),some (ZF sps),some (.int (KO:Nat)),some (yL ms),some (.int (stA sps (s0 mm) ms ms.length).1),a,b,c,d,e]/\Good mm sps ms/\ms.length<=i+1
     | .ct ρ2=>i+1<=KO/\∃ (ms:List Mv) (a b c d e:Option D),ρ2=[some (.scr ns),some (.int 26),some (ZF sps),some (.int (KO:Nat)),some (yL ms),some (.int (stA sps (s0 mm) ms ms.length).1),a,b,c,d,e]/\Good mm sps ms/\ms.length<=i+1
     | .bk ρ2=>gA (ZQ (zb 4)) (wx fun d=>∃ ms:List Mv,d=yL ms/\Good mm sps ms/\ms.length<=KO) (.nx ρ2)
     | .rt r=>gA (ZQ (zb 4)) (wx fun d=>∃ ms:List Mv,d=yL ms/\Good mm sps ms/\ms.length<=KO) (.rt r):=fun o ho hb=>by
    obtain ⟨g1,g2⟩:=hg.snoc et (by rw [ep,hq]) ho hb
    rw [zt]
    refine upd_ (ds:=ms.map mvD) (d:=mvD (j,o)) (Y2 rfl rfl) rfl (Yy (size8 (by rw [Qg];omega))) ?_
    simp only [zSet,zj]
    refine ZO (d:=.int t.q) (zV (Zr (ds:=[.int t.p,.int t.q,t.d.toD]) (zV (ZP (ds:=sps.map Sp.toD) rfl) rfl (jL et))) rfl (zw (j:=1) rfl)) ?_
    simp only [zSet]
    refine ⟨by omega,ms++[(j,o)],some (.int (i:Nat)),some (.int cell),some (.lst (js.map fun j=>D.int (j:Nat))),some (.int (j:Nat)),some (oD o),?_,g1,by simp;omega⟩
    rw [Qj,Pr,g2]
    unfold yL
    rw [Q5]
    rfl
   have est:∀ z,fIx (zh false (fIx (zh true (zb 2)) (zb 9))) (fC (.int 2)) [some (.scr ns),some (.int 26),some (ZF sps),some (.int (KO:Nat)),some (yL ms),some (.int q),some (.int (i:Nat)),some (.int cell),some (.lst (js.map fun j=>D.int (j:Nat))),some (.int (j:Nat)),z]=some t.d.toD:=fun z=>zV (Zr (ds:=[.int t.p,.int t.q,t.d.toD]) (zV (ZP (ds:=sps.map Sp.toD) rfl) rfl (jL et))) rfl (zw (j:=2) rfl)
   rw [zt]
   cases hd:t.d with
   | skip =>
    rw [hd] at est fin
    refine jr (z6 (f2v (zV (Zr (est _)) rfl (zw (j:=0) rfl)) rfl (eq_f (x:="skip") (y:="take") (by decide)))) ?_
    rw [ZB,zG,zj]
    exact fin none rfl fun n z=>by cases z
   | set b l =>
    rw [hd] at est fin
    refine jr (z6 (f2v (zV (Zr (est _)) rfl (zw (j:=0) rfl)) rfl (eq_f (x:="set") (y:="take") (by decide)))) ?_
    rw [ZB,zG,zj]
    exact fin none rfl fun n z=>by cases z
   | take b =>
    rw [hd] at est fin
    refine if_t (z6 (f2v (zV (Zr (est _)) rfl (zw (j:=0) rfl)) rfl (eq_t (x:="take")))) ?_
    have q0:=Qx (cell / 3) (show (4:Int)≠0 by decide)
    have q1:=Qy (cell / 3) (show (0:Int)<4 by decide)
    have r0:=Qx (cell / 7) (show (21:Int)≠0 by decide)
    have r1:=Qy (cell / 7) (show (0:Int)<21 by decide)
    have u0:=Qx (cell / 7) (show (1999999999:Int)≠0 by decide)
    have u1:=Qy (cell / 7) (show (0:Int)<1999999999 by decide)
    obtain ⟨w,ew,hw⟩:∃ w:Int,atI (([0,1,cell / 7 % 21 - 10,cell / 7 % 1999999999 - 999999999]:List Int).map D.int) (cell / 3 % 4)=some (.int w)/\w.natAbs<2 ^ 30:=by
     refine ⟨_,Wr q0 q1,?_⟩
     have hlt:(cell / 3 % 4).toNat<4:=by omega
     have hmem:(([0,1,cell / 7 % 21 - 10,cell / 7 % 1999999999 - 999999999]:List Int).getD (cell / 3 % 4).toNat 0)∈([0,1,cell / 7 % 21 - 10,cell / 7 % 1999999999 - 999999999]:List Int):=jU (by simpa using hlt)
     have p30:(2:Nat) ^ 30=1073741824:=by decide
     rw [p30]
     simp only [Qc,Qn,or_false] at hmem
     rcases hmem with z | z | z | z <;> rw [z] <;> omega
    refine ZO (d:=.int w) (zV (ds:=([0,1,cell / 7 % 21 - 10,cell / 7 % 1999999999 - 999999999]:List Int).map D.int) ?_ (f2v (f2v rfl rfl (yj (by decide) (by decide))) rfl (Zw (by decide))) ew) ?_
    ·refine ZP (ds:=([0,1,cell / 7 % 21 - 10,cell / 7 % 1999999999 - 999999999]:List Int).map D.int) ?_
     rw [fLst_,Zo,show fC (D.int 0) _=some (D.int 0) from rfl,oB,Zo,show fC (D.int 1) _=some (D.int 1) from rfl,oB,Zo,f2v (f2v (f2v rfl rfl (yj (by decide) (by decide))) rfl (Zw (by decide))) rfl sub_,oB,Zo,f2v (f2v (f2v rfl rfl (yj (by decide) (by decide))) rfl (Zw (by decide))) rfl sub_,oB]
     exact YS (ZK (by simp))
    simp only [zSet,zj]
    exact fin (some w) rfl fun n z=>by cases z;exact hw
  ·refine ⟨_,rfl,by omega,ms,_,_,_,_,_,by rw [hq],hg,by omega⟩
 ·rintro ρ ⟨_,ms,a,b,c,d,e,rfl,hg,hl⟩
  rw [zj]
  refine jf (zJ rfl) ⟨ms,rfl,hg,by rw [Zx] at hl;exact hl⟩
end
open RW (Py Fi)
variable {mm:Nat}
theorem py_ne {n:Nat} {d:D} (h:Py n d) (hn:n<=64):dNeD d d=some (.bl false):=by
 have hp:Y5 d=true:=by
  unfold Y5 SeqAt.shaped
  rw [h.1,KU (Qw h.2 hn)];rfl
 unfold dNeD
 rw [KR ⟨hp,hp⟩,eqD_self hp]
 rfl
theorem lst2_ {f f':Ev->Option D} {ρ:Ev} {d d':D} (e:f ρ=some d) (e':f' ρ=some d'):ZJ (zf f (zf f' zr)) ρ=some (.lst [d,d']):=by
 rw [fLst_,Zo,e,oB,Zo,e',oB]
 exact YS (ZK (by simp))
theorem not_f {c:Ev->Option Bool} {ρ:Ev} (e:c ρ=some false):fNot c ρ=some true:=by rw [fNot_,e];rfl
theorem chainN {fa fb fc:Ev->Option D} {ρ:Ev} {a b c:Int} (h1:fa ρ=some (.int a)) (h2:fb ρ=some (.int b)) (h3:fc ρ=some (.int c)) (hn:¬ (a<=b/\b<c)):jY dLe dLt fa fb fc ρ=some (.bl false):=by
 unfold jY
 rw [h1,oB,h2,oB]
 by_cases hab:a<=b
 ·have e:dLe (.int a) (.int b)=some (.bl true):=by
   show some (D.bl (decide (a<=b)))=_
   rw [KU hab]
  rw [e,oB]
  rw [show asB (D.bl true)=some true from rfl,oB,KR rfl,h3,oB]
  show some (D.bl (decide (b<c)))=_
  rw [KW fun q=>hn ⟨hab,q⟩]
 ·have e:dLe (.int a) (.int b)=some (.bl false):=by
   show some (D.bl (decide (a<=b)))=_
   rw [KW hab]
  rw [e,oB]
  rfl
abbrev Bm:=Int×Option Int
def bmD (m:Bm):D:=.tup [.int m.1,oD m.2]
def Bad (sps:List Sp) (q:Int) (m:Bm):Prop:=m.1<0\/(sps.length:Nat)<=m.1\/∃ (j:Nat) (t:Sp),m.1=(j:Nat)/\sps[j]?=some t/\(t.p≠q\/m.2.isSome≠t.d.tk)
section
variable {sps:List Sp} {ms:List Mv} {q:Int} {m:Bm}
theorem goes_no (h:Bad sps q m):mq17 [ZF sps,bmD m,.int q]=some (.bl false):=by
 refine Wo.eq ?_
 unfold mq17 bq17
 rw [Z6]
 refine ⟨rfl,?_⟩
 simp only [zM,zMap,zLen,List.replicate,zApp,QD,Nat.reduceAdd,Nat.reduceSub]
 have e0:∀ z,fIx (zh false (zb 1)) (fC (.int 0)) [some (ZF sps),some (bmD m),some (.int q),z]=some (.int m.1):=fun z=>zV (Zr (ds:=[.int m.1,oD m.2]) rfl) rfl (zw (j:=0) rfl)
 rw [zt]
 by_cases hin:0<=m.1/\m.1<(sps.length:Nat)
 ·obtain ⟨j,t,ej,et,hb⟩:∃ (j:Nat) (t:Sp),m.1=(j:Nat)/\sps[j]?=some t/\(t.p≠q\/m.2.isSome≠t.d.tk):=by
   rcases h with h | h | h
   ·omega
   ·omega
   ·exact h
  rw [ej] at hin
  have e0':=fun z=>(e0 z).trans (by rw [ej])
  refine jr (not_t (z6 (chainv rfl (e0' none) (lenv (ds:=sps.map Sp.toD) rfl) hin.1 (by rw [Qg];exact hin.2)))) ?_
  rw [ZB,zG,zj,zt]
  refine ZO (d:=t.toD) (zV (ZP (ds:=sps.map Sp.toD) rfl) (e0' none) (jL et)) ?_
  simp only [zSet,zj]
  have e1:f2 ZE (fIx (zh false (zb 3)) (fC (.int 0))) (zb 2) [some (ZF sps),some (bmD m),some (.int q),some t.toD]=some (.bl (decide (t.p=q))):=f2v (zV (Zr (ds:=[.int t.p,.int t.q,t.d.toD]) rfl) rfl (zw (j:=0) rfl)) rfl YT
  have e2:f2 ZE (fA mq14 (zf (fIx (zh false (zb 3)) (fC (.int 2))) zr)) (f2 dNotN (fIx (zh false (zb 1)) (fC (.int 1))) (fC .non)) [some (ZF sps),some (bmD m),some (.int q),some t.toD]=some (.bl (decide (t.d.tk=!yN (oD m.2)))):=f2v (fA1 (zV (Zr (ds:=[.int t.p,.int t.q,t.d.toD]) rfl) rfl (zw (j:=2) rfl)) (JL t.d)) (f2v (zV (Zr (ds:=[.int m.1,oD m.2]) rfl) rfl (zw (j:=1) rfl)) rfl dNotN_) rfl
  refine jf (d:=.bl false) ?_ rfl
  by_cases hp:t.p=q
  ·rw [KU hp] at e1
   have hne:¬ (t.d.tk=!yN (oD m.2)):=fun z=>by
    rcases hb with hb | hb
    ·exact hb hp
    ·refine hb ?_
     rw [z]
     cases m.2 <;> rfl
   rw [KW hne] at e2
   exact andV_t e1 e2
  ·rw [KW hp] at e1
   rw [fAndV_,e1]
   rfl
 ·refine if_t (not_f (z6 (chainN rfl (e0 none) (lenv (ds:=sps.map Sp.toD) rfl) (by rw [Qg];exact hin)))) ?_
  exact wo_retv (d:=.bl false) rfl rfl
theorem places_no (h:Good mm sps ms) (hl:ms.length<=100000) (hb:Bad sps (stA sps (s0 mm) ms ms.length).1 m) (zX:List D):mq16 [ZF sps,.lst (ms.map mvD++bmD m::zX)]=some .non:=by
 refine Wo.eq ?_
 unfold mq16 bq16
 rw [Z6]
 refine ⟨rfl,?_⟩
 simp only [zM,zMap,zLen,List.replicate,zApp,QD,Nat.reduceAdd,Nat.reduceSub]
 generalize hL:ms.map mvD++bmD m::zX=L
 rw [zt]
 refine new_ (jA (d:=.int 0) rfl) (by simp) ?_
 simp only [zSet,zj]
 rw [zt,jS,ZP (ds:=L) rfl,oB]
 refine Yo (fun i ρ=>i<=ms.length/\∃ z:Option D,ρ=[some (ZF sps),some (.lst L),some (.lst ((List.range (i+1)).map (plD sps mm ms))),z]) ⟨by omega,none,?_⟩ ?_ ?_
 ·show _=[some (ZF sps),some (D.lst L),some (.lst [plD sps mm ms 0]),none]
  unfold plD
  rw [jJ]
  rfl
 ·rintro i d ρ hd ⟨hi,z,rfl⟩
  rw [<- hL] at hd
  rw [yT,zG]
  simp only [zSet]
  rw [zt]
  by_cases hlt:i<ms.length
  ·rw [QL (by rw [Qg];exact hlt)] at hd
   obtain ⟨m,em,rfl⟩:=mv_get hd
   obtain ⟨t,e1,e2,e3,_⟩:=h.at_ i m em
   refine jr (not_t (z6 (fA3 (x:=ZF sps) (y:=mvD m) (z:=.int t.p) rfl rfl (zV (ZP (ds:=(List.range (i+1)).map (plD sps mm ms)) rfl) (f1v rfl dNeg_) (by rw [Wq];unfold plD;rw [e2])) (W8 e1 e3)))) ?_
   rw [ZB,zG,zj]
   refine upd_ (d:=.int t.q) (zV (Zr (ds:=[.int t.p,.int t.q,t.d.toD]) (zV (ZP (ds:=sps.map Sp.toD) rfl) (zV (Zr (ds:=[.int (m.1:Nat),oD m.2]) rfl) rfl (zw (j:=0) rfl)) (jL e1))) rfl (zw (j:=1) rfl)) rfl (Yy (size8 (by simp;omega))) ?_
   refine ⟨by omega,some (mvD m),?_⟩
   simp only [zSet]
   have:(D.int t.q)=plD sps mm ms (i+1):=by unfold plD;rw [Yt em,Ju e1]
   rw [this,Wh]
  ·have hz:i=ms.length:=by omega
   subst hz
   rw [QP (by rw [Qg];omega),Qg,Nat.sub_self] at hd
   cases hd
   refine if_t (not_f (z6 (fA3 (x:=ZF sps) (y:=bmD m) (z:=.int (stA sps (s0 mm) ms ms.length).1) rfl rfl (zV (ZP (ds:=(List.range (ms.length+1)).map (plD sps mm ms)) rfl) (f1v rfl dNeg_) (by rw [Wq];rfl)) (goes_no hb)))) ?_
   exact ⟨_,rfl,rfl⟩
 ·rintro ρ ⟨hi,_⟩
  rw [<- hL] at hi
  simp at hi
  omega
variable {bs c e:D}
theorem is_run_no (h:Good mm sps ms) (hl:ms.length<=10000) (hb:Bad sps (stA sps (s0 mm) ms ms.length).1 m) (zX:List D) (hp:mq4 [.tup [.int (mm:Nat),bs]]=some (.tup [c,ZF sps,e])):mq11 [.tup [.int (mm:Nat),bs],.lst (ms.map mvD++bmD m::zX)]=some (.bl false):=by
 refine JR rfl ?_
 unfold bq11
 rw [jR,f2v (fA2 (zV (Zr (fA1 rfl hp)) rfl (zw (j:=1) rfl)) rfl (places_no h (by omega) hb zX)) rfl dNotN_]
 rfl
theorem refused_ok (h:Good mm sps ms) (hl:ms.length<=10000) (hb:Bad sps (stA sps (s0 mm) ms ms.length).1 m) (zX:List D) (hp:mq4 [.tup [.int (mm:Nat),bs]]=some (.tup [c,ZF sps,e])):mq28 [.tup [.int (mm:Nat),bs],.lst (ms.map mvD++bmD m::zX)]=some (.bl true):=by
 show (mq4 _).bind _=_
 rw [hp,oB]
 show Option.bind (some [c,ZF sps,e]) _=_
 rw [oB]
 show Option.bind (some (ZF sps)) _=_
 rw [oB,places_no h (by omega) hb zX]
 rfl
end
section
variable {sps:List Sp} {q:Int}
theorem size24 {n:Nat} (h:n<=16000000):n<=Kg:=Qw h (by decide)
theorem wD (q:Int) {y2 y3 y4 y5:Option D}:∀ (js0:List Nat) (y6:Option D),(∀ j∈js0,j<sps.length)->∃ js:List Nat,yn (zR 6) (zI (f2 Y9 (fIx (zh false (fIx (zh true (zb 0)) (zb 6))) (fC (.int 0))) (zb 1))) (zb 6) (js0.map fun j=>D.int (0+(j:Nat))) [some (ZF sps),some (.int q),y2,y3,y4,y5,y6]=some (js.map fun j=>D.int (j:Nat))/\js.length<=js0.length/\∀ j∈js,∃ t,sps[j]?=some t/\t.p≠q
 | [],y6,_=>⟨[],rfl,Ql _,fun j hj=>by cases hj⟩
 | j::js0,y6,hj=>by
  obtain ⟨js,e,hl,hp⟩:=wD q js0 (some (.int (0+(j:Nat)))) fun i hi=>hj i (Qe _ hi)
  obtain ⟨t,et⟩:∃ t,sps[j]?=some t:=⟨_,Qv (hj j Qt)⟩
  have eb:zI (f2 Y9 (fIx (zh false (fIx (zh true (zb 0)) (zb 6))) (fC (.int 0))) (zb 1)) [some (ZF sps),some (.int q),y2,y3,y4,y5,some (.int (0+(j:Nat)))]=some (!decide (t.p=q)):=z6 (f2v (zV (Zr (ds:=[.int t.p,.int t.q,t.d.toD]) (zV (ZP (ds:=sps.map Sp.toD) rfl) rfl (by rw [Pj];exact jL et))) rfl (zw (j:=0) rfl)) rfl dNeS_)
  rw [Qr,yn,zR,oB]
  simp only [zSet]
  rw [eb,oB]
  by_cases hc:t.p=q
  ·rw [KS (by simp [hc]),e]
   exact ⟨js,rfl,by simp;omega,hp⟩
  ·rw [KR (by simp [hc]),zJ (d:=.int (0+(j:Nat))) rfl,oB,e]
   refine ⟨j::js,by simp,by simp;omega,fun i hi=>?_⟩
   rcases Qc.mp hi with rfl | hi
   ·exact ⟨t,et,hc⟩
   ·exact hp i hi
theorem step_at {j:Nat} {t:Sp} (et:sps[j]?=some t) {ρ:Ev} (h0:ρ[0]?=some (some (ZF sps))) (h5:ρ[5]?=some (some (.int (j:Nat)))):fIx (zh true (zb 0)) (zb 5) ρ=some (.tup [.int t.p,.int t.q,t.d.toD]):=zV (ZP (ds:=sps.map Sp.toD) (zJ h0)) (zJ h5) (jL et)
theorem kindT {j:Nat} {t:Sp} (et:sps[j]?=some t) {ρ:Ev} (h0:ρ[0]?=some (some (ZF sps))) (h5:ρ[5]?=some (some (.int (j:Nat)))):fA wn (zf (yP (f2 ZE (fIx (zh false (fIx (zh false (fIx (zh true (zb 0)) (zb 5))) (fC (.int 2)))) (fC (.int 0))) (fC (.str "take")))) zr) ρ=some (.int (if t.d.tk then 1 else 0)):=by
 have key:∃ x ps,t.d.toD=.tup (.str x::ps)/\ZE (.str x) (.str "take")=some (.bl t.d.tk):=by
  cases t.d with
  | skip=>exact ⟨_,_,rfl,eq_f (by decide)⟩
  | take b=>exact ⟨_,_,rfl,eq_t⟩
  | set b ns=>exact ⟨_,_,rfl,eq_f (by decide)⟩
 obtain ⟨x,ps,e1,e2⟩:=key
 exact fA1 (Jo (f2v (zV (Zr (zV (Zr (step_at et h0 h5)) rfl ((zw (j:=2) rfl).trans (by rw [e1])))) rfl (zw (j:=0) rfl)) rfl e2) rfl) gIntB
theorem pickT {j:Nat} {t:Sp} (et:sps[j]?=some t) {ρ:Ev} (h0:ρ[0]?=some (some (ZF sps))) (h5:ρ[5]?=some (some (.int (j:Nat)))) (a b:D):ZC (zf (zb 5) (zf (fIx (zh true (ZJ (zf (fC a) (zf (fC b) zr)))) (fA wn (zf (yP (f2 ZE (fIx (zh false (fIx (zh false (fIx (zh true (zb 0)) (zb 5))) (fC (.int 2)))) (fC (.int 0))) (fC (.str "take")))) zr))) zr)) ρ=some (.tup [.int (j:Nat),if t.d.tk then b else a]) :=
 Y2 (zJ h5) (zV (ZP (lst2_ (d:=a) (d':=b) rfl rfl)) (kindT et h0 h5) (by cases t.d.tk <;> rfl))
theorem bent_ok (hs:sps.length<=800000) (cell:Int):∃ m,mq27 [ZF sps,.int q,.int cell]=some (bmD m)/\Bad sps q m:=by
 suffices h:Wo (mq27 [ZF sps,.int q,.int cell]) fun d=>∃ m,d=bmD m/\Bad sps q m by
  obtain ⟨d,e,m,rfl,hb⟩:=h
  exact ⟨m,e,hb⟩
 unfold mq27 bq27
 rw [Z6]
 refine ⟨rfl,?_⟩
 simp only [zM,zMap,zLen,List.replicate,zApp,QD,Nat.reduceAdd,Nat.reduceSub]
 have p0:=Qx (cell / 5) (show (9:Int)≠0 by decide)
 have r0:=Qx (cell / 5) (show (10:Int) ^ (8:Int).toNat≠0 by decide)
 have elen:∀ {ρ:Ev},ρ[0]?=some (some (ZF sps))->fA yX (zh true (zb 0)) ρ=some (.int (sps.length:Nat)):=fun h=>(lenv (ds:=sps.map Sp.toD) (zJ h)).trans (by rw [Qg])
 have ec5:∀ {ρ:Ev},ρ[2]?=some (some (.int cell))->f2 Yi (zb 2) (fC (.int 5)) ρ=some (.int (cell / 5)):=fun h=>f2v (zJ h) rfl (yj (by decide) (by decide))
 rw [zt]
 refine new_ (d:=.lst ([(0 - 1 - cell / 5 % 9,none),((sps.length:Nat)+cell / 5 % 9,none),((sps.length:Nat)+cell / 5 % (10:Int) ^ (8:Int).toNat,some 0)].map bmD)) ?_ (by simp) ?_
 ·rw [fLst_,Zo,Y2 (f2v (f2v rfl rfl sub_) (f2v (ec5 rfl) rfl (Zw (by decide))) sub_) rfl,oB,Zo,Y2 (f2v (elen rfl) (f2v (ec5 rfl) rfl (Zw (by decide))) yY) rfl,oB,Zo,Y2 (f2v (elen rfl) (f2v (ec5 rfl) (f2v rfl rfl (dPow_s (by decide) (by decide) (by decide))) (Zw (by decide))) yY) rfl,oB]
  exact YS (ZK (by simp))
 simp only [zSet,zj]
 have hl0:∀ m∈([(0 - 1 - cell / 5 % 9,none),((sps.length:Nat)+cell / 5 % 9,none),((sps.length:Nat)+cell / 5 % (10:Int) ^ (8:Int).toNat,some 0)]:List Bm),Bad sps q m:=fun m hm=>by
  simp only [Qc,Qn,or_false] at hm
  rcases hm with rfl | rfl | rfl
  ·exact .inl (show 0 - 1 - cell / 5 % 9<0 by omega)
  ·exact .inr (.inl (show ((sps.length:Nat):Int)<=(sps.length:Nat)+cell / 5 % 9 by omega))
  ·exact .inr (.inl (show ((sps.length:Nat):Int)<=(sps.length:Nat)+cell / 5 % (10:Int) ^ (8:Int).toNat by omega))
 generalize hL0:([(0 - 1 - cell / 5 % 9,none),((sps.length:Nat)+cell / 5 % 9,none),((sps.length:Nat)+cell / 5 % (10:Int) ^ (8:Int).toNat,some 0)]:List Bm)=l0 at hl0
 have hn0:l0.length=3:=by rw [<- hL0];rfl
 obtain ⟨js,ej,jl,hp⟩:=wD (sps:=sps) q (y2:=some (.int cell)) (y3:=some (.lst (l0.map bmD))) (y4:=none) (y5:=none) (List.range sps.length) none fun j hj=>by simpa using hj
 rw [zt]
 refine ZO (d:=.lst (js.map fun j=>D.int (j:Nat))) (by
  rw [JB,rng1w (n:=sps.length) (elen rfl) (by omega),oB]
  show (yn _ _ _ ((List.range sps.length).map fun j=>D.int (0+(j:Nat))) [some (ZF sps),some (.int q),some (.int cell),some (.lst (l0.map bmD)),none,none,none]).bind Jg=_
  rw [ej,oB]
  exact YS (ZK (by rw [Qg];rw [List.length_range] at jl;omega))) ?_
 simp only [zSet,zj]
 have s0:=Qx (cell / 5) (show (7:Int)≠0 by decide)
 obtain ⟨s,hs7⟩:∃ n:Nat,cell / 5 % 7=(n:Nat):=⟨(cell / 5 % 7).toNat,by omega⟩
 have ecut:=cutLTo (k:=4) (f:=fC (.int 4)) (ZP (gk (k:=s) (fl:=zh true (zb 4)) (f:=f2 yf (f2 Yi (zb 2) (fC (.int 5))) (fC (.int 7))) (ρ:=[some (ZF sps),some (.int q),some (.int cell),some (.lst (l0.map bmD)),some (.lst (js.map fun j=>D.int (j:Nat))),none]) (ds:=js.map fun j=>D.int (j:Nat)) rfl (f2v (ec5 rfl) rfl ((Zw (by decide)).trans (by rw [hs7]))))) rfl
 rw [zt,jS,ZP ecut,oB]
 refine Yo (fun i ρ=>∃ (l:List Bm) (z:Option D),ρ=[some (ZF sps),some (.int q),some (.int cell),some (.lst (l.map bmD)),some (.lst (js.map fun j=>D.int (j:Nat))),z]/\l.length=3+i/\∀ m∈l,Bad sps q m) ⟨l0,none,rfl,hn0,hl0⟩ ?_ ?_
 ·rintro i d ρ hd ⟨l,z,rfl,hl,hb⟩
  have hi:i<4:=by
   have:=(Qh.mp hd).1
   rw [QW] at this
   omega
  have hm:=List.mem_of_mem_drop (List.mem_of_mem_take (QV hd))
  obtain ⟨j,hj,rfl⟩:=QT.mp hm
  obtain ⟨t,et,hpq⟩:=hp j hj
  rw [yT,zG]
  simp only [zSet]
  refine upd_ (ds:=l.map bmD) (pickT et rfl rfl .non (.int 1)) rfl (Yy (size8 (by rw [Qg];omega))) ?_
  simp only [zSet]
  refine ⟨l++[(((j:Nat):Int),if t.d.tk then some 1 else none)],some (.int (j:Nat)),?_,by simp;omega,fun m hm=>?_⟩
  ·rw [Q5]
   cases t.d.tk <;> rfl
  ·rcases QA.mp hm with hm | hm
   ·exact hb m hm
   ·rw [Qo.mp hm]
    exact .inr (.inr ⟨j,t,rfl,et,.inl hpq⟩)
 rintro ρ ⟨l,z,rfl,hl,hb⟩
 have hl7:l.length<=7:=by rw [hl,QW];omega
 have hl3:0<l.length:=by omega
 clear hl
 rw [zj,zt,jS,rng1w (n:=sps.length) (elen rfl) (by omega),oB]
 refine Yo (fun i ρ=>∃ (l:List Bm) (z:Option D),ρ=[some (ZF sps),some (.int q),some (.int cell),some (.lst (l.map bmD)),some (.lst (js.map fun j=>D.int (j:Nat))),z]/\0<l.length/\l.length<=7+3*i/\∀ m∈l,Bad sps q m) ⟨l,z,rfl,hl3,by omega,hb⟩ ?_ ?_
 ·rintro i d ρ hd ⟨l,z,rfl,hl3,hl,hb⟩
  obtain ⟨hi,rfl⟩:=yA hd
  obtain ⟨t,et⟩:∃ t,sps[i]?=some t:=⟨_,Qv hi⟩
  rw [Pj,yT,zG]
  simp only [zSet]
  refine wV (z6 (f2v (zV (Zr (step_at et rfl rfl)) rfl (zw (j:=0) rfl)) rfl YT)) (fun hc=>?_) (fun _=>?_)
  ·have hc':t.p=q:=of_decide_eq_true hc
   have hx:Bad sps q ((i:Nat),if t.d.tk then none else some 0):=.inr (.inr ⟨i,t,rfl,et,.inr (by cases t.d.tk <;> simp)⟩)
   have hx':(D.tup [.int (i:Nat),if t.d.tk then .non else .int 0])=bmD ((i:Nat),if t.d.tk then none else some 0):=by cases t.d.tk <;> rfl
   have ep:=pickT et (ρ:=[some (ZF sps),some (.int q),some (.int cell),some (.lst (l.map bmD)),some (.lst (js.map fun j=>D.int (j:Nat))),some (.int (i:Nat))]) rfl rfl (.int 0) .non
   rw [hx'] at ep
   generalize (((i:Nat):Int),if t.d.tk then none else some (0:Int))=x at hx ep
   refine new_ (d:=.lst ((l++[x,x,x]).map bmD)) ?_ (by simp) ?_
   ·rw [fCat_,fL_,zJ (d:=.lst (l.map bmD)) rfl,oB]
    show Option.bind (some (l.map bmD)) _=_
    rw [oB,fL_,fRep_,fL_,jA ep,oB]
    show Option.bind (Option.bind (Option.bind (some [bmD x]) _) asL) _=_
    rw [oB,show fC (D.int 3) _=some (D.int 3) from rfl,oB]
    unfold dRep
    simp only
    rw [KR ⟨by omega,by omega,size24 (by simp)⟩,oB]
    show Option.bind (some [bmD x,bmD x,bmD x]) _=_
    rw [oB,Q5]
    exact YS (size24 (by simp;omega))
   simp only [zSet]
   refine ⟨l++[x,x,x],some (.int (i:Nat)),rfl,by simp,by simp;omega,fun m hm=>?_⟩
   rcases QA.mp hm with hm | hm
   ·exact hb m hm
   ·simp only [Qc,Qn,or_false,or_self] at hm
    rw [hm]
    exact hx
  ·exact ⟨_,rfl,l,_,rfl,hl3,by omega,hb⟩
 ·rintro ρ ⟨l,z,rfl,hl3,_,hb⟩
  rw [zj]
  obtain ⟨d,hd,ed⟩:=at_mod (L:=l.map bmD) (c:=cell / 3) (by rw [Qg];exact hl3)
  obtain ⟨m,hm,rfl⟩:=QT.mp hd
  exact jf (zV (ZP (ds:=l.map bmD) rfl) (f2v (f2v rfl rfl (yj (by decide) (by decide))) (lenv (ds:=l.map bmD) rfl) (Zw (by rw [Qg];omega))) ed) ⟨m,rfl,hb m hm⟩
end
theorem oD_py (o:Option Int):Py 0 (oD o):=by
 cases o with
 | none=>exact Fi.pyd (n:=0) (Fi.sc (d:=.non) rfl 0)
 | some v=>exact .int _ _
theorem pair_py (k:Int) (o:Option Int):Py 1 (.tup [.int k,oD o]):=Py.tup (n:=0) fun e he=>by
 simp only [Qc,Qn,or_false] at he
 rcases he with rfl | rfl
 ·exact .int _ _
 ·exact oD_py o
theorem bent_py (ms ms':List Mv) (m:Bm):Py 2 (.lst (ms.map mvD++bmD m::ms'.map mvD)):=.lst fun d hd=>by
 rcases QA.mp hd with h | h
 ·obtain ⟨m,_,rfl⟩:=QT.mp h
  exact pair_py _ _
 ·rcases Qc.mp h with rfl | h
  ·exact pair_py _ _
  ·obtain ⟨m,_,rfl⟩:=QT.mp h
   exact pair_py _ _
section
variable {mm:Nat} {sps:List Sp} {ms:List Mv}
theorem rows_eq (sps:List Sp) (mm:Nat) (ms:List Mv) (n:Nat):(List.range n).map (rwD sps mm ms)=((List.range n).map (stA sps (s0 mm) ms)).map rowD:=by
 rw [Pi]
 rfl
theorem rows_take {a:Nat} (ha:a<=ms.length):(List.range ((ms.take a).length+1)).map (rwD sps mm (ms.take a))=((List.range (ms.length+1)).map (rwD sps mm ms)).take (a+1):=by
 rw [<- P8,List.take_range,Pl (by omega),QW,Pl ha]
 refine List.map_congr_left fun k hk=>?_
 unfold rwD
 rw [WG (by have:=List.mem_range.mp hk;omega)]
end
theorem law_holds (ns:List Int) (hl:ns.length<=63):mq29 [.scr ns]=some (.bl true):=by
 refine Wo.eq ?_
 unfold mq29 bq29
 rw [Z6]
 refine ⟨rfl,?_⟩
 simp only [zM,zMap,zLen,List.replicate,zApp,QD,Nat.reduceAdd,Nat.reduceSub]
 obtain ⟨v0,e0⟩:=Jd ns 0 (by omega) (by omega)
 have q0:=Qx v0 (show (7:Int)≠0 by decide)
 have q1:=Qy v0 (show (0:Int)<7 by decide)
 obtain ⟨KN,hmany⟩:∃ n:Nat,v0 % 7=n:=⟨(v0 % 7).toNat,by omega⟩
 have hm:KN<=6:=by omega
 rw [zt]
 refine ZO (d:=.int (KN:Nat)) (f2v (fA2 rfl rfl e0) rfl ((Zw (by decide)).trans (by rw [hmany]))) ?_
 simp only [zSet,zj]
 obtain ⟨L,eL,l1,l4,hG⟩:=prog_ok ns (at_:=1) (KN:=KN) (by omega) hm 36
 rw [zt]
 refine ZO (fA4 rfl rfl rfl rfl eL) ?_
 simp only [zSet,zj]
 obtain ⟨r,ea,ed,hst,hlen,_⟩:=all_laid l1 l4 hG (KN:Nat)
 obtain ⟨sps,eS,hok⟩:=steps_of r.2.2 hst
 have hp:mq4 [.tup [.int (KN:Nat),.lst (L.map .lst)]]=some (.tup [.int r.2.1,ZF sps,.int r.1]):=by
  rw [ea]
  unfold ansD ZF
  rw [eS]
 have hL0:atI (L.map D.lst) ((0:Nat):Int)=some (.lst (L.getD 0 [])):=zw (by
  cases L with
  | nil=>simp at l1
  | cons a t=>rfl)
 rw [zt]
 refine new_ (jA (d:=.int 1) rfl) (by simp) ?_
 simp only [zSet,zj]
 have elend:mLend 3 (jG (yC 3 mq23 (zK (wL (fIx (zh true (fIx (zh false (zb 2)) (fC (.int 1)))) (fC (.int 0)))) (zK (wL (fC (.int 0))) (zK (wL (fIx (zh false (zb 2)) (fC (.int 1)))) (zK (wL (zb 3)) (wL zr))))))) [some (.scr ns),some (.int (KN:Nat)),some (.tup [.int (KN:Nat),.lst (L.map .lst)]),some (.lst [.int 1]),none,none,none,none,none,none,none,none]=some (.nx [some (.scr ns),some (.int (KN:Nat)),some (.tup [.int (KN:Nat),.lst (L.map .lst)]),some (.lst (.int r.2.1::r.2.2)),none,none,none,none,none,none,none,none]) :=
  mLend_eq (ρ':=[some (.scr ns),some (.int (KN:Nat)),some (.tup [.int (KN:Nat),.lst (L.map .lst)]),some (.lst [.int 1]),none,none,none,none,none,none,none,none]) (S:=[.int 1]) (S':=.int r.2.1::r.2.2) rfl fun a=>J3 (yJ (zD (wl_ (zV (ZP (zV (Zr (zJ rfl)) rfl (zw (j:=1) rfl))) rfl hL0)) (zD (wl_ rfl) (zD (wl_ (zV (Zr (zJ rfl)) rfl (zw (j:=1) rfl))) (zD (wl_ (zJ rfl)) yg)))) (ed a))
 rw [zt,elend,zG,zj]
 rw [zt]
 refine ZO (d:=ZF sps) ((gk (k:=1) (ZP (zJ rfl)) rfl).trans (by rw [List.drop_succ_cons,List.drop_zero,eS];rfl)) ?_
 simp only [zSet,zj]
 generalize hM:(D.lst (D.int r.2.1::r.2.2))=made
 obtain ⟨v,ev⟩:=Jd ns 25 (by omega) (by omega)
 have a0:=Qx v (show (31:Int)≠0 by decide)
 have a1:=Qy v (show (0:Int)<31 by decide)
 obtain ⟨KO,hmo⟩:∃ n:Nat,v % 31=(n:Nat):=⟨(v % 31).toNat,by omega⟩
 have hsl:sps.length<=800000:=by rw [<- Qg (f:=Sp.toD),<- eS];exact hlen
 obtain ⟨ms,er,hg,hml⟩:=run_ok ns hok hsl (KO:=KO) (by omega)
 have hgt:=fun a=>hg.take (a:=a)
 have hran:=ran_ok hg hm (by omega) hp
 have hrun:=is_run_ok hg (by omega) hp
 rw [zt]
 refine ZO (d:=yL ms) (fA4 rfl rfl rfl (f2v (fA2 rfl rfl ev) rfl ((Zw (by decide)).trans (by rw [hmo]))) er) ?_
 simp only [zSet,zj]
 rw [zt]
 refine ZO (fA3 rfl rfl rfl (walked_ok hg hm (by omega))) ?_
 simp only [zSet,zj]
 generalize hdue:(List.range (ms.length+1)).map (rwD sps KN ms)=due at hran
 have hrt:∀ a,a<=ms.length->(List.range ((ms.take a).length+1)).map (rwD sps KN (ms.take a))=due.take (a+1):=fun a ha=>by rw [rows_take ha,hdue]
 have hdp:∀ n,Py 3 (.lst (due.take n)):=fun n=>by
  rw [<- hdue,rows_eq,<- P8]
  exact rows_py
 have hda:∀ a:Nat,a<=ms.length->atI due (a:Nat)=some (rwD sps KN ms a):=fun a ha=>zw (by
  rw [<- hdue]
  simp [ha,Nat.lt_succ_of_le])
 rw [zt,jS,rng1v (n:=4) rfl (by omega),oB]
 refine Yo (fun _ ρ=>∃ a b c d e:Option D,ρ=[some (.scr ns),some (.int (KN:Nat)),some (.tup [.int (KN:Nat),.lst (L.map .lst)]),some made,some (ZF sps),some (yL ms),some (.lst due),a,b,c,d,e]) ⟨none,none,none,none,none,rfl⟩ ?_ ?_
 ·rintro i d ρ hd ⟨y7,y8,y9,y10,y11,rfl⟩
  obtain ⟨hi,rfl⟩:=yA hd
  rw [Pj,yT,zG]
  simp only [zSet]
  obtain ⟨w,ew⟩:=Jd ns (50+(i:Nat)) (by omega) (by omega)
  rw [zt]
  refine ZO (d:=.int w) (fA2 rfl (f2v rfl rfl yY) ew) ?_
  simp only [zSet,zj]
  have c0:=Qx w (show ((ms.length:Nat):Int)+1≠0 by omega)
  have c1:=Qy w (show (0:Int)<(ms.length:Nat)+1 by omega)
  obtain ⟨at_,hat⟩:∃ n:Nat,w % ((ms.length:Nat)+1)=(n:Nat):=⟨(w % ((ms.length:Nat)+1)).toNat,by omega⟩
  have hal:at_<=ms.length:=by omega
  rw [zt]
  refine ZO (d:=.int (at_:Nat)) (f2v rfl (f2v ((lenv (ds:=ms.map mvD) rfl).trans (by rw [Qg])) rfl yY) ((Zw (by omega)).trans (by rw [hat]))) ?_
  simp only [zSet,zj]
  have tll:(ms.take at_).length=at_:=by rw [QW];omega
  have tl:(ms.take at_).length<=10000:=by omega
  have hran2:=ran_ok (hgt at_) hm tl hp
  have hrun2:=is_run_ok (hgt at_) tl hp
  rw [hrt at_ hal] at hran2
  have ecut:∀ {ρ:Ev},ρ[5]?=some (some (yL ms))->ρ[9]?=some (some (.int (at_:Nat)))->wu .lst (zh true (zb 5)) fNo (yE (zb 9)) ρ=some (yL (ms.take at_)):=fun h7 h11=>(cutLTo (k:=at_) (ZP (ds:=ms.map mvD) (zJ h7)) (zJ h11)).trans (by unfold yL;rw [P8])
  obtain ⟨m,em,hb⟩:=bent_ok (q:=(stA sps (s0 KN) ms at_).1) hsl (w / 31)
  have hb':Bad sps (stA sps (s0 KN) (ms.take at_) (ms.take at_).length).1 m:=by
   rw [tll,WG (Ql _)]
   exact hb
  have b0:=Qx (w / 7) (show (2:Int)≠0 by decide)
  obtain ⟨b,hbb⟩:∃ n:Nat,w / 7 % 2=(n:Nat):=⟨(w / 7 % 2).toNat,by omega⟩
  rw [zt]
  refine ZO (d:=.lst ((ms.take at_).map mvD++bmD m::(ms.drop (at_+b)).map mvD)) ?_ ?_
  ·rw [fCat_,fL_,fCat_,fL_,ecut rfl rfl,oB]
   show Option.bind (Option.bind (Option.bind (some ((ms.take at_).map mvD)) _) asL) _=_
   rw [oB,fL_,jA (fA3 (x:=ZF sps) (y:=.int (stA sps (s0 KN) ms at_).1) (z:=.int (w / 31)) rfl (zV (Zr (zV (ZP (ds:=due) rfl) rfl (hda at_ hal))) rfl (zw (j:=0) rfl)) (f2v rfl rfl (yj (by decide) (by decide))) em),oB]
   show Option.bind (Option.bind (Option.bind (some [bmD m]) _) asL) _=_
   rw [oB,YS (ZK (by simp;omega)),oB]
   show Option.bind (some _) _=_
   rw [oB,fL_,gk (k:=at_+b) (ZP (ds:=ms.map mvD) rfl) ((f2v rfl (f2v (f2v rfl rfl (yj (by decide) (by decide))) rfl (Zw (by decide))) yY).trans (by rw [hbb,Int.natCast_add])),oB]
   show Option.bind (some _) _=_
   rw [oB,YS (ZK (by simp;omega)),<- List.map_drop,List.append_assoc]
   rfl
  simp only [zSet,zj]
  have hno:=is_run_no (hgt at_) tl hb' ((ms.drop (at_+b)).map mvD) hp
  have href:=refused_ok (hgt at_) tl hb' ((ms.drop (at_+b)).map mvD) hp
  have hpy:=bent_py (ms.take at_) (ms.drop (at_+b)) m
  generalize (ms.take at_).map mvD++bmD m::(ms.drop (at_+b)).map mvD=bent at hno href hpy
  rw [zt]
  refine ZO (d:=.lst bent) (by rw [fA_,ZP (ds:=bent) rfl];rfl) ?_
  simp only [zSet,zj]
  rw [zt]
  refine jr (or_ff (z6 (f2v (fA2 rfl rfl hno) rfl rfl)) (or_ff (not_t (z6 (fA2 rfl rfl href))) (z6 (f2v rfl rfl (py_ne hpy (by omega)))))) ?_
  rw [ZB,zG,zj]
  refine jr (or_ff (z6 (f2v (fA2 rfl (ecut rfl rfl) hrun2) rfl rfl)) (z6 (f2v (fA2 rfl (ecut rfl rfl) hran2) (cutLTo (k:=at_+1) (ZP (ds:=due) rfl) (f2v rfl rfl yY)) (py_ne (hdp _) (by omega))))) ?_
  exact ⟨_,rfl,_,_,_,_,_,rfl⟩
 ·rintro ρ ⟨a,b,c,d,e,rfl⟩
  rw [zj]
  have hdl:due.take due.length=due:=List.take_length
  have hpd:=hdp due.length
  rw [hdl] at hpd
  have elist:∀ {ρ:Ev},ρ[5]?=some (some (yL ms))->fA (fun ds=>some (.lst ds)) (zh true (zb 5)) ρ=some (yL ms):=fun h=>by rw [fA_,ZP (ds:=ms.map mvD) (zJ h)];rfl
  exact jf (andV_t (f2v (fA2 rfl (elist rfl) hrun) rfl rfl) (f2v (fA2 rfl (elist rfl) hran) rfl (hpd.eq (by omega)))) rfl
open PySem L2 M
open PySem.W (Frag)
theorem walk {l:PySem.W.OpenLaw} {q:Ki} {loose:List Kw} {XP:(Kw->Option Ka)->Kl->Prop} {YP:Kk->Kl->Prop} {d:DefRec} {K:Params->KC} (hn:l.most=some 63) (hdf:d.params.defaults=[]) (himp:PyProof.Rows.importsNone q=true) (htree:l.prog.given.tree=none)
  (hY:∀ (w:Kk) (h:Kl),YP w h->(K w.params).In h) (hd:d.name="law")
  (F:∀ (w:Kk) (mg:Kw->Option Ka) (h:Kl),(K w.params).In h->h.Ns Kf mg->∃ C Z,Txt (K w.params) mg C Z) :
  PySem.W.WalkO q loose XP YP l.row.toRowW d [] (fun f vs=>PySem.call f vs) :=
 walk_kn (k:=170) (x:="_law_script") (m:=mq29) (st:=top 47) hn hdf himp htree hY hd ⟨rfl,by decide,by decide,rfl⟩ (fun _ _ _ _ _ _ _=>rfl) (fun w mg h X G=>(F w mg h X G).elim fun _ T=>T.elim fun _ T=>⟨T.F29,fun base f fd q=>all_ok T q⟩) law_holds
end EV
theorem PySem.W.Fast.tw17156130775166974542:True:=trivial
theorem PySem.W.Fast.tw4624930118750391589:True:=trivial
theorem PySem.W.Fast.tw17966538181838529322:True:=trivial
theorem PySem.W.Fast.tw17723020577846199776:True:=trivial
theorem PySem.W.Fast.tw1947893706690203910:True:=trivial
theorem PySem.W.Fast.tw7945923566832821174:True:=trivial
theorem PySem.W.Fast.tw2369240488039275510:True:=trivial
theorem PySem.W.Fast.tw1817914691563994647:True:=trivial
theorem PySem.W.Fast.tw5585748809552095522:True:=trivial
theorem PySem.W.Fast.tw4295353624251062386:True:=trivial
theorem PySem.W.Fast.tw2402026388442813004:True:=trivial
theorem PySem.W.Fast.tw2307726025600461579:True:=trivial
theorem PySem.W.Fast.tw4086318317383287803:True:=trivial
theorem PySem.W.Fast.tw10026735448427723045:True:=trivial
theorem PySem.W.Fast.tw11443230524301511601:True:=trivial
theorem PySem.W.Fast.tw1362486240893974462:True:=trivial
theorem PySem.W.Fast.tw7556813717497722908:True:=trivial
theorem PySem.W.Fast.tw17049358824682469047:True:=trivial
theorem PySem.W.Fast.tw785099587684256601:True:=trivial
theorem PySem.W.Fast.tw6801848004205336611:True:=trivial
theorem PySem.W.Fast.tw4245487509805504940:True:=trivial
theorem PySem.W.Fast.tw10316939076673740636:True:=trivial
theorem PySem.W.Fast.tw16016419050144099102:True:=trivial
theorem PySem.W.Fast.tw16481868306391959211:True:=trivial
open PySem PySem.W PyProof.Rows EV L2 M
set_option maxRecDepth 100000 in
set_option maxHeartbeats 0 in
theorem PySem.Challenge.cw_evennotes_k18_no_runs_holds : PySem.Challenge.rw_evennotes_k18_no_runs.Holds := by
 w_on;o_law;k_head;(case hw=>w_witness2)
 k_fill
 refine EV.walk (l:=PySem.Challenge.rw_evennotes_k18_no_runs) rfl rfl (by rfl) rfl (fun w h Y=>PySem.W.kIn_of Y) rfl ?F
 case F =>
  intro w mg h KX G
  refine' tx_mk ⟨ZW KX G ?a0 ?l0 ?c0 ?k0,ZW KX G ?a1 ?l1 ?c1 ?k1,ZW KX G ?a2 ?l2 ?c2 ?k2,ZW KX G ?a3 ?l3 ?c3 ?k3,ZW KX G ?a4 ?l4 ?c4 ?k4,ZW KX G ?a5 ?l5 ?c5 ?k5,ZW KX G ?a6 ?l6 ?c6 ?k6,ZW KX G ?a7 ?l7 ?c7 ?k7,ZW KX G ?a8 ?l8 ?c8 ?k8,ZW KX G ?a9 ?l9 ?c9 ?k9,ZW KX G ?a10 ?l10 ?c10 ?k10,ZW KX G ?a11 ?l11 ?c11 ?k11,ZW KX G ?a12 ?l12 ?c12 ?k12,ZW KX G ?a13 ?l13 ?c13 ?k13,ZW KX G ?a14 ?l14 ?c14 ?k14,ZW KX G ?a15 ?l15 ?c15 ?k15,ZW KX G ?a16 ?l16 ?c16 ?k16,ZW KX G ?a17 ?l17 ?c17 ?k17,ZW KX G ?a18 ?l18 ?c18 ?k18,ZW KX G ?a19 ?l19 ?c19 ?k19,ZW KX G ?a20 ?l20 ?c20 ?k20,ZW KX G ?a21 ?l21 ?c21 ?k21,ZW KX G ?a22 ?l22 ?c22 ?k22,ZW KX G ?a23 ?l23 ?c23 ?k23,ZW KX G ?a24 ?l24 ?c24 ?k24,ZW KX G ?a25 ?l25 ?c25 ?k25,ZW KX G ?a26 ?l26 ?c26 ?k26,ZW KX G ?a27 ?l27 ?c27 ?k27,ZW KX G ?a28 ?l28 ?c28 ?k28,ZW KX G ?a29 ?l29 ?c29 ?k29,df_mkI ?a30 ?l30 ?c30 ?k30 ?mk ?i30 ?kc,df_mkM ?a31 ?l31 ?c31 ?k31 ?i31,df_mkM ?a32 ?l32 ?c32 ?k32 ?i32,mg_none_of KX G ?z_int,mg_none_of KX G ?z_isinstance,mg_none_of KX G ?z_len,mg_none_of KX G ?z_list,mg_none_of KX G ?z_range,mg_none_of KX G ?z_sum,mg_none_of KX G ?z_tuple,mg_none_of KX G ?z_zip,mg_of KX G ?c_SKIP,ts_mk ?d_SKIP,⟨⟨?pg,?hd,?po,?sa⟩,?nb,?nl,?nc,?ns⟩,mg_of KX G ?aC,rf_mk ⟨mg_of KX G ?x_nr,mg_of KX G ?x_ne,⟨?x_ga,?x_cl,?x_gt,?x_mo,?x_sb,?x_hd⟩,?x_ex,?x_em,?x_ka,?x_kb,mg_of KX G ?x_a1,mg_of KX G ?x_a2,mg_of KX G ?x_a3,mg_of KX G ?x_a4,mg_of KX G ?x_a5,mg_of KX G ?x_a6,mg_of KX G ?x_a7,mg_of KX G ?x_a8,?x_kc,mg_none_of KX G ?x_vz⟩⟩
  (case aC|a0|l0|c0|k0|a1|l1|c1|k1|a2|l2|c2|k2|a3|l3|c3|k3|a4|l4|c4|k4|a5|l5|c5|k5|a6|l6|c6|k6|a7|l7|c7|k7|a8|l8|c8|k8|a9|l9|c9|k9|a10|l10|c10|k10|a11|l11|c11|k11|a12|l12|c12|k12|a13|l13|c13|k13|a14|l14|c14|k14|a15|l15|c15|k15|a16|l16|c16|k16|a17|l17|c17|k17|a18|l18|c18|k18|a19|l19|c19|k19|a20|l20|c20|k20|a21|l21|c21|k21|a22|l22|c22|k22|a23|l23|c23|k23|a24|l24|c24|k24|a25|l25|c25|k25|a26|l26|c26|k26|a27|l27|c27|k27|a28|l28|c28|k28|a29|l29|c29|k29|a30|l30|c30|k30|a31|l31|c31|k31|a32|l32|c32|k32|z_int|z_isinstance|z_len|z_list|z_range|z_sum|z_tuple|z_zip|c_SKIP|d_SKIP|pg|hd|po|sa|mk|kc|nb|nl|nc|ns|x_nr|x_ne|x_ga|x_cl|x_gt|x_mo|x_sb|x_hd|x_ex|x_em|x_ka|x_kb|x_a1|x_a2|x_a3|x_a4|x_a5|x_a6|x_a7|x_a8|x_kc|x_vz|i30|i31|i32=>(try dsimp only [Yj]);first | k_is | kernel_rfl)

