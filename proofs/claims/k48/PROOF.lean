import PyProof.Rows.All
import Wide.All
import OpenK.AllK
import Wide.FinOn
import Lean
import PyProof.EqAt
import PyProof.EqKinds
import PyProof.TupleCall
import PyProof.ZipIter
import PyProof.Draws
import PyProof.EnumMake
import KE.KStateDown
import PyProof.Rows.EqDataRows
import PyProof.Rows.SeqMore2
import PyProof.StrCalls2
import PyProof.StrBlockH
import PyProof.StrWalks
import KE.KIntText
import KE.KIsAll
import PyProof.Rows.StrIntSpec
import PyProof.StrLawsTight
import PySem.Challenge.RW_evennotes_k48_programs_shown
open List renaming mem_cons → Qa, mem_cons_of_mem → Qc, length_map → Qe, length_append → Qf, length_cons → Qg, not_mem_nil → Qi, mem_cons_self → Qj, map_cons → Qk, mem_singleton → Qm, size_toArray → Qp, mem_append → Qq, getElem?_eq_some_iff → Qs, map_map → Qt, length_set → Qu, length_singleton → Qv, mem_map → Qw, nodup_cons → Qy, map_append → Qz, length_nil → QB, cons_append → QF, mem_append_right → QI, map_nil → QJ, nil_append → QK, append_assoc → QL, getElem?_append_left → QM, getElem?_eq_getElem → QN, getElem?_map → QO, lookup_cons → QQ, getElem?_set_self → QR, append_nil → QT, nodup_append → QX, getElem?_append_right → QY, flatMap_cons → QZ, map_singleton → Q1, dropLast_concat → Q2, length_take → Q3, all_eq_true → Q8, take_of_length_le → Pa, any_cons → Pc, singleton_append → Pd, length_drop → Pe, drop_length → Pf, drop_eq_getElem_cons → Ph, find?_cons → Pi, getElem?_replicate → Pl, getLast_cons → Pn, mem_flatMap → Pu, eq_nil_of_length_eq_zero → Px, foldr_cons → PB, length_zipWith → PD, filterMap_cons → PH, all_cons → PL, take_length → PM, mem_range → PX, getLast?_append → PY, drop_zero → PZ, sum_cons → P5, getElem?_drop → P7
open PySem renaming wpAny_bind → Qb, wpAny_pure → Qn, wpAny_truthy_bool → QS, wpAny_field → QU, wpAny_seqItems → QW, wpAny_newObj_type → Q4, wpAny_mono → Q6, wpAny_callSpecial?_slot → Q7, wpAny_setField_rec → Q9, wpAny_Call_Name_kw → Pj, wpAny_getItem_str_slice → Pk, wpAny_call_entry → Pr, wpAny_holding → Pv, wpAny_letGo → Pw, wpAny_passesOwn → Pz, wpAny_updateSeq_pair → PU, wpAny_tryCatch → PV, wpAny_standAt → P3, wpAny_onRaise → P4, wpAny_pyIter_tuple → P6
open PySem.Heap renaming get?_push_of_some → Qd, get?_push_size → Qo, lt_size → Qr, size_push → QG, get?_update_self → Pq, get?_update_ne → P1
open Bool renaming false_ne_true → Qh, and_eq_true → QC, not_eq_true' → Pp, false_eq_true → PJ, eq_iff_iff → PR, or_eq_false_iff → P0
open Nat renaming le_refl → Ql, lt_of_lt_of_le → Qx, le_trans → QA, zero_add → QD, ne_of_lt → QE, lt_irrefl → QV, lt_of_le_of_lt → Q0, zero_le → Q5, le_of_lt → Pm, lt_succ_self → Ps, le_add_right → Pt, ne_of_gt → PP
open Int renaming emod_lt_of_pos → QH, emod_nonneg → QP, toNat_natCast → Po, natCast_nonneg → P8
open Option renaming isSome_iff_exists → PK, map_eq_some_iff → PN, map_some → PQ
open PySem renaming Value → Ka, Shared → Kb, Addr → Kc, starEach → Ke, mainGlobals → Kf, sizeLine → Kg, FuncData → Kh, Program → Ki, Around → Kj, World → Kk, Heap → Kl, compareOp → Km, wpAny → Ko, attributeBase → Kp, backTo → Kq, backToKw → Kr, keywordEach → Ks, swapsWith → Kt, NameKind → Ku, Expr → Kv, Str → Kw, Stmt → Kx, model → Ky, eval → Kz, Obj → KA, Pos → KB
open PySem.W renaming Frag → KC, findIn → KD, emptyDict → KF, instObj → KG
open PyProof.Rows renaming callWith_type1 → KH
open PySem.F renaming plainAttrs_list → KI
noncomputable section
theorem KQ {c:Prop} {h:Decidable c} (q:c) {α:Sort _} {t e:α}:ite c t e=t:=if_pos q
theorem KR {c:Prop} {h:Decidable c} (q:¬c) {α:Sort _} {t e:α}:ite c t e=e:=if_neg q
theorem KS {p:Prop} [Decidable p] (h:p):decide p=true:=decide_eq_true h
theorem KU {p:Prop} [Decidable p] (h:¬p):decide p=false:=decide_eq_false h
theorem zSet {α:Type}:(∀ (a:α) (l:List α) (n:Nat) (b:α),(a::l).set (n+1) b=a::l.set n b)/\∀ (a:α) (l:List α) (b:α),(a::l).set 0 b=b::l:=⟨fun _ _ _ _=>rfl,fun _ _ _=>rfl⟩
theorem zMap {α β:Type}:(∀ (f:α->β) (a:α) (l:List α),(a::l).map f=f a::l.map f)/\∀ f:α->β,[].map f=[]:=⟨fun _ _ _=>rfl,fun _=>rfl⟩
theorem zLen {α:Type}:(∀ (a:α) (l:List α),(a::l).length=l.length+1)/\([]:List α).length=0:=⟨fun _ _=>rfl,rfl⟩
theorem zApp {α:Type}:(∀ (a:α) (l m:List α),(a::l)++m=a::(l++m))/\∀ l:List α,[]++l=l:=⟨fun _ _ _=>rfl,fun _=>rfl⟩
theorem oB {α β:Type} {f:α->Option β} {a:α}:(some a).bind f=f a:=rfl
open PySem.W (nsIn fnOf keepIn codeIn)
set_option Elab.async false
set_option linter.all false
set_option maxRecDepth 100000
namespace L2
open PySem PySem.Spec PyProof.Rows
abbrev Key:=Sum Int Kw
def keyIs:Key->Ka->Bool
 | .inl k,v=>Value.isInt k v
 | .inr x,v=>Value.isStrOf x v
def keyH (w:Kk):Key->Int
 | .inl k=>hashInt k
 | .inr x=>hashStr w x
theorem ZX:∀ {k:Key} {v:Ka},keyIs k v=true->(∃ i t,k=Sum.inl i/\v=Value.int i t)\/(∃ x t,k=Sum.inr x/\v=Value.str x t)
 | .inl i,v,h=>by
  obtain ⟨t,e⟩:=Value.isInt_shape (k:=i) (v:=v) h
  exact .inl ⟨i,t,rfl,e⟩
 | .inr x,v,h=>by
  obtain ⟨t,e⟩:=Value.isStrOf_shape (x:=x) (v:=v) h
  exact .inr ⟨x,t,rfl,e⟩
theorem keyIs_int (i:Int) (t:Tok):keyIs (.inl i) (.int i t)=true:=by simp [keyIs,Value.isInt]
theorem keyIs_str (x:Kw) (t:Tok):keyIs (.inr x) (.str x t)=true:=by simp [keyIs,Value.isStrOf]
theorem key_ll (a b:Int):decide ((Sum.inl a:Key)=Sum.inl b)=(a == b):=by
 by_cases e:a=b
 ·subst e;simp
 ·have h:¬ (Sum.inl a:Key)=Sum.inl b:=fun q=>e (Sum.inl.inj q)
  rw [KU h]
  exact (beq_eq_false_iff_ne.mpr e).symm
theorem key_rr (a b:Kw):decide ((Sum.inr a:Key)=Sum.inr b)=decide (a=b):=by
 by_cases e:a=b
 ·subst e;simp
 ·have h:¬ (Sum.inr a:Key)=Sum.inr b:=fun q=>e (Sum.inr.inj q)
  rw [KU h,KU e]
theorem key_lr (a:Int) (b:Kw):decide ((Sum.inl a:Key)=Sum.inr b)=false:=KU (fun q=>nomatch q)
theorem key_rl (a:Kw) (b:Int):decide ((Sum.inr a:Key)=Sum.inl b)=false:=KU (fun q=>nomatch q)
def yq (prog:Ki) (w:Kk):PySem.KeyKind prog w Key where
 is:=keyIs
 hash:=keyH w
 inj:=fun v a b ha hb=>by
  rcases ZX ha with ⟨i,t,rfl,rfl⟩ | ⟨x,t,rfl,rfl⟩
  ·rcases ZX hb with ⟨j,u,rfl,e⟩ | ⟨y,u,rfl,e⟩
   ·injection e with e1 _;rw [e1]
   ·exact nomatch e
  ·rcases ZX hb with ⟨j,u,rfl,e⟩ | ⟨y,u,rfl,e⟩
   ·exact nomatch e
   ·injection e with e1 _;rw [e1]
 byValue:=fun k v h=>by
  rcases ZX h with ⟨i,t,rfl,rfl⟩ | ⟨x,t,rfl,rfl⟩ <;> rfl
 pyHash:=fun hv h=>by
  rcases ZX hv with ⟨i,t,rfl,rfl⟩ | ⟨x,t,rfl,rfl⟩
  ·exact wpAny_pyHash_int h
  ·exact wpAny_pyHash_str h
 eqBool:=fun hu hv h=>by
  rcases ZX hu with ⟨i,t,rfl,rfl⟩ | ⟨x,t,rfl,rfl⟩
  ·rcases ZX hv with ⟨j,u,rfl,rfl⟩ | ⟨y,u,rfl,rfl⟩
   ·rw [key_ll] at h;exact wpAny_eqBool_int h
   ·rw [key_lr] at h;exact SeqAt.EqAt.int_str i t y u _ _ _ _ h
  ·rcases ZX hv with ⟨j,u,rfl,rfl⟩ | ⟨y,u,rfl,rfl⟩
   ·rw [key_rl] at h;exact SeqAt.EqAt.str_int x t j u _ _ _ _ h
   ·rw [key_rr] at h;exact wpAny_eqBool_str h
 «strs»:=fun k x t v h=>by
  rcases ZX h with ⟨i,u,rfl,e⟩ | ⟨y,u,rfl,e⟩
  ·exact nomatch e
  ·injection e with e1 _
   subst e1
   cases v <;> rfl
theorem mixKind_int (prog:Ki) (w:Kk) (i:Int) (t:Tok):(yq prog w).is (.inl i) (.int i t)=true:=keyIs_int i t
theorem mixKind_str (prog:Ki) (w:Kk) (x:Kw) (t:Tok):(yq prog w).is (.inr x) (.str x t)=true:=keyIs_str x t
end L2
namespace L2
open PySem PySem.Spec PyProof.Rows
inductive V where
 | non | bl (b:Bool) | int (i:Int) | str (x:Kw) | byt (b:Array UInt8) | flt (b:UInt64) | ref (a:Kc) | ty (n:String)
 deriving DecidableEq
def Zr:V->Ka->Prop
 | .non,u=>u=Value.none
 | .bl b,u=>u=Value.bool b
 | .int i,u=>∃ t,u=Value.int i t
 | .str x,u=>∃ t,u=Value.str x t
 | .byt b,u=>∃ t,u=Value.bytes b t
 | .flt b,u=>∃ t,u=Value.float b t
 | .ref a,u=>u=Value.ref a
 | .ty n,u=>u=Value.type n
abbrev zU:List V->List Ka->Prop:=Paired Zr
theorem zU.length {xs:List V} {us:List Ka} (r:zU xs us):xs.length=us.length:=Paired.length r
theorem zU.get:∀ {xs:List V} {us:List Ka} {i:Nat} {x:V},zU xs us->xs[i]?=some x->∃ u,us[i]?=some u/\Zr x u
 | _,_,_,_,.nil,e=>by simp at e
 | _,_,0,_,.cons r _,e=>by simp at e;subst e;exact ⟨_,rfl,r⟩
 | _,_,i+1,x,.cons _ t,e=>by
  obtain ⟨u,h1,h2⟩:=zU.get (i:=i) (x:=x) t (by simpa using e)
  exact ⟨u,by simpa using h1,h2⟩
theorem zU.set {x:V} {u:Ka} (r:Zr x u):∀ {xs:List V} {us:List Ka} (i:Nat),zU xs us->zU (xs.set i x) (us.set i u)
 | _,_,_,.nil=>.nil
 | _,_,0,.cons _ t=>.cons r t
 | _,_,i+1,.cons q t=>.cons q (zU.set r i t)
theorem zU.append:∀ {xs ys:List V} {us ws:List Ka},zU xs us->zU ys ws->zU (xs++ys) (us++ws)
 | _,_,_,_,.nil,s=>s
 | _,_,_,_,.cons r t,s=>.cons r (zU.append t s)
theorem zU.take:∀ {xs:List V} {us:List Ka} (n:Nat),zU xs us->zU (xs.take n) (us.take n)
 | _,_,0,_=>.nil
 | _,_,_+1,.nil=>.nil
 | _,_,n+1,.cons r t=>.cons r (zU.take n t)
theorem zU.drop:∀ {xs:List V} {us:List Ka} (n:Nat),zU xs us->zU (xs.drop n) (us.drop n)
 | _,_,0,r=>r
 | _,_,_+1,.nil=>.nil
 | _,_,n+1,.cons _ t=>zU.drop n t
def Jj:Option V->Option Ka->Prop
 | some v,some u=>Zr v u
 | none,none=>True
 | _,_=>False
def KV {κ:Type}:List (κ×V)->List (κ×Ka)->Prop:=Paired fun (p:κ×V) (q:κ×Ka)=>p.1=q.1/\Zr p.2 q.2
def kV:Key->V
 | .inl i=>.int i
 | .inr x=>.str x
inductive HO where
  | lst (xs:List V)
  | tup (xs:List V)
  | dK (KO:List (Key×V)) | dT (KO:List (List Key×V))
  | set (S:Int->Bool) (n:Nat)
  | ins (C dx:Kc) (fs:List (Kw×V))
  | own (x:Kc)
  | xd (fs:List (Kw×V))
  | met (f x:Kc)
  | rng (lo hi:Int)
  | frz (o:KA) (u:HO)
  | tbl (ps:Array Ka)
  | ext (φ:Kl->Prop)
abbrev Hp:=Kc->Option HO
def upd (H:Hp) (a:Kc) (o:HO):Hp:=fun b=>if b=a then some o else H b
theorem zm {H:Hp} {a:Kc} {o:HO}:upd H a o a=some o:=by unfold upd;rw [KQ rfl]
theorem zh {H:Hp} {a b:Kc} {o:HO} (h:b≠a):upd H a o b=H b:=by unfold upd;rw [KR h]
theorem ne_of {H:Hp} {a b:Kc} {o u:HO} (h:H a=some o) (h':H b=some u) (d:o≠u):a≠b:=by
 intro e;subst e;rw [h] at h';exact d (Option.some.inj h')
theorem Zo {H:Hp} {a b:Kc} {o:HO} (h:H a=some o) (h':H b=none):a≠b:=by
 intro e;subst e;rw [h] at h';cases h'
section
variable (P:Ki) (w:Kk)
def yx (H:Hp) (h:Kl) (a:Kc):HO->Prop
 | .lst xs=>xs.length<=Kg/\∃ (KP:List Ka) (n:Nat),zU xs KP/\h.get? a=some { cls:=.type "list",data:=.seq KP.toArray n }
 | .tup xs=>xs.length<=Kg/\∃ KP:List Ka,zU xs KP/\IsTup h a KP.toArray
 | .dK KO=>KO.length<=Kg/\(a == sysModules)=false/\∃ vs,KV KO vs/\h.DictOf (yq P w) a vs
 | .dT KO=>KO.length<=Kg/\(a == sysModules)=false/\∃ xs:List (List Key×Kc×Ka),
   Paired (fun (p:List Key×V) (q:List Key×Kc×Ka)=>p.1=q.1/\H q.2.1=some (.tup (p.1.map kV))/\Zr p.2 q.2.2) KO xs /\
   ∃ o es ep,h.get? a=some o/\o.ExactDict/\o.data=.dict es ep/\es.toList=xs.map (entryOfKey (tupleKind (yq P w)))/\(xs.map (·.1)).Nodup
 | .set S n=>h.SetOf (intKind P w) a S n
 | .ins C dx fs=>H dx=some (.own a)/\fs.length<=1000/\dx≠a/\h.get? a=some (KG C dx) /\
   ∃ mA,h.Ns1 dx mA/\(∀ f,Jj (fs.lookup f) (mA f))/\PySem.Within mA (fs.map (·.1))
 | .own _=>∃ o,h.get? a=some o
 | .xd fs=>∃ mA,h.Ns1 a mA/\∀ f,Jj (fs.lookup f) (mA f)
 | .rng lo hi=>∃ t u v,h.get? a=some { cls:=.type "range",data:=.fields #[.int lo t,.int hi u,.int 1 v] }
 | .frz o u=>h.get? a=some o/\yx H h a u
 | .tbl ps=>h.get? a=some { cls:=.none,data:=.fields ps }
 | .met f x=>h.get? a=some (PySem.W.methodObj (.ref f) (.ref x))
 | .ext φ=>φ h/\(∃ o,h.get? a=some o)/\∀ h1 h2:Kl,φ h1->(∀ o,h1.get? a=some o->h2.get? a=some o)->φ h2
def HOk (H:Hp) (h:Kl):Prop:=∀ a o,H a=some o->yx P w H h a o
end
section
variable {P:Ki} {w:Kk} {H H':Hp} {h h':Kl} {a:Kc} {o:HO}
theorem yx.lt (x:yx P w H h a o):a<h.objs.size:=by
 cases o with
 | lst xs=>obtain ⟨_,_,_,_,e⟩:=x;exact Qr e
 | tup xs=>obtain ⟨_,_,_,p⟩:=x;exact p.lt
 | dK KO=>obtain ⟨_,_,_,_,o,_,_,e,_⟩:=x;exact Qr e
 | dT KO=>obtain ⟨_,_,_,_,o,_,_,e,_⟩:=x;exact Qr e
 | set S n=>obtain ⟨o,_,_,_,e,_⟩:=x;exact Qr e
 | ins C dx fs=>obtain ⟨_,_,_,e,_⟩:=x;exact Qr e
 | own y=>obtain ⟨_,e⟩:=x;exact Qr e
 | xd fs=>obtain ⟨_,⟨_,_,_,e,_⟩,_⟩:=x;exact Qr e
 | rng lo hi=>obtain ⟨_,_,_,e⟩:=x;exact Qr e
 | frz ob u=>obtain ⟨e,_⟩:=x;exact Qr e
 | tbl ps=>exact Qr (show h.get? a=some _ from x)
 | met f y=>exact Qr (show h.get? a=some _ from x)
 | ext φ=>obtain ⟨_,⟨_,e⟩,_⟩:=x;exact Qr e
theorem Paired.mapP {α β:Type} {F G:α->β->Prop}:∀ {l₁:List α} {l₂:List β},Paired F l₁ l₂->(∀ a b,F a b->G a b)->Paired G l₁ l₂
 | _,_,.nil,_=>.nil
 | _,_,.cons r t,f=>.cons (f _ _ r) (Paired.mapP t f)
theorem yx.stay (x:yx P w H h a o) (k:∀ b u,(b=a\/H b=some (.own a))->h.get? b=some u->h'.get? b=some u)
  (ho:∀ b,H b=some (.own a)->H' b=some (.own a)) (ht:∀ b xs,H b=some (.tup xs)->H' b=some (.tup xs)):yx P w H' h' a o:=by
 induction o with
 | lst xs=>obtain ⟨z,KP,n,r,e⟩:=x;exact ⟨z,KP,n,r,k _ _ (.inl rfl) e⟩
 | tup xs=>obtain ⟨z,KP,r,ob,e,c⟩:=x;exact ⟨z,KP,r,ob,k _ _ (.inl rfl) e,c⟩
 | dK KO=>obtain ⟨z,y,vs,r,ob,es,ep,e,c⟩:=x;exact ⟨z,y,vs,r,ob,es,ep,k _ _ (.inl rfl) e,c⟩
 | dT KO =>
  obtain ⟨z,y,xs,r,ob,es,ep,e,c⟩:=x
  exact ⟨z,y,xs,Paired.mapP r fun p q z=>⟨z.1,ht _ _ z.2.1,z.2.2⟩,ob,es,ep,k _ _ (.inl rfl) e,c⟩
 | set S n=>obtain ⟨ob,es,ep,t,e,c⟩:=x;exact ⟨ob,es,ep,t,k _ _ (.inl rfl) e,c⟩
 | ins C dx fs =>
  obtain ⟨d,z,ne,e,mA,⟨od,es,ep,e2,c⟩,r⟩:=x
  exact ⟨ho _ d,z,ne,k _ _ (.inl rfl) e,mA,⟨od,es,ep,k _ _ (.inr d) e2,c⟩,r⟩
 | own y=>obtain ⟨ob,e⟩:=x;exact ⟨ob,k _ _ (.inl rfl) e⟩
 | xd fs=>obtain ⟨mA,⟨od,es,ep,e,c⟩,r⟩:=x;exact ⟨mA,⟨od,es,ep,k _ _ (.inl rfl) e,c⟩,r⟩
 | rng lo hi=>obtain ⟨t,u,v,e⟩:=x;exact ⟨t,u,v,k _ _ (.inl rfl) e⟩
 | frz ob u ih=>obtain ⟨e,q⟩:=x;exact ⟨k _ _ (.inl rfl) e,ih q⟩
 | tbl ps =>
  have e:h.get? a=some { cls:=.none,data:=.fields ps }:=x
  show h'.get? a=some { cls:=.none,data:=.fields ps }
  exact k a _ (.inl rfl) e
 | met f y =>
  have e:h.get? a=some (PySem.W.methodObj (.ref f) (.ref y)):=x
  show h'.get? a=some (PySem.W.methodObj (.ref f) (.ref y))
  exact k a _ (.inl rfl) e
 | ext φ=>obtain ⟨p,⟨o,e⟩,st⟩:=x;exact ⟨st _ _ p fun o q=>k _ _ (.inl rfl) q,⟨o,k _ _ (.inl rfl) e⟩,st⟩
theorem HOk.lt (x:HOk P w H h) (e:H a=some o):a<h.objs.size:=(x a o e).lt
theorem HOk.fresh (x:HOk P w H h) (e:h.objs.size<=a):H a=none:=by
 cases q:H a with
 | none=>rfl
 | some u=>exact absurd (Qx (x.lt q) e) (QV _)
theorem HOk.kept (x:HOk P w H h) (k:∀ b u,h.get? b=some u->h'.get? b=some u):HOk P w H h':=fun a o e =>
 (x a o e).stay (fun b u _ q=>k b u q) (fun _ q=>q) fun _ _ q=>q
theorem HOk.laid (x:HOk P w H h) (k:∀ b u,h.get? b=some u->h'.get? b=some u) (hp:h.objs.size<=a) (new:yx P w (upd H a o) h' a o):HOk P w (upd H a o) h':=fun b u e=>by
 have hn:=x.fresh hp
 by_cases hb:b=a
 ·subst hb;rw [zm] at e;cases e;exact new
 ·rw [zh hb] at e
  exact (x b u e).stay (fun c v _ q=>k c v q) (fun c q=>by rw [zh (Zo q hn)];exact q) fun c xs q=>by rw [zh (Zo q hn)];exact q
end
def Rd (H:Hp) (a:Kc) (u:HO):Prop:=H a=some u\/∃ o,H a=some (.frz o u)
theorem Rd.ok {P:Ki} {w:Kk} {H:Hp} {h:Kl} {a:Kc} {u:HO} (r:Rd H a u) (x:HOk P w H h):yx P w H h a u:=by
 rcases r with r | ⟨o,r⟩
 ·exact x a u r
 ·obtain ⟨_,q⟩:=x a _ r
  exact q
def Mut:Option HO->Prop
 | some (.lst _)=>True
 | some (.dK _)=>True
 | some (.dT _)=>True
 | some (.set _ _)=>True
 | some (.ins _ _ _)=>True
 | some (.ext _)=>True
 | _=>False
section
variable {P:Ki} {w:Kk} {H:Hp} {h h':Kl} {x e:Kc} {o':HO}
theorem HOk.write (ok:HOk P w H h) (mu:Mut (H x)) (he:e=x\/H e=some (.own x)) (k:∀ b u,b≠e->h.get? b=some u->h'.get? b=some u) (heo:∃ u,h'.get? e=some u)
  (new:yx P w (upd H x o') h' x o'):HOk P w (upd H x o') h':=fun b u q=>by
 have nown:∀ c y,H c=some (.own y)->c≠x:=fun c y r z=>by subst z;rw [r] at mu;exact mu
 have ntup:∀ c xs,H c=some (.tup xs)->c≠x:=fun c xs r z=>by subst z;rw [r] at mu;exact mu
 by_cases hb:b=x
 ·subst hb;rw [zm] at q;cases q;exact new
 ·rw [zh hb] at q
  by_cases hbe:b=e
  ·have q':H b=some (.own x):=by
    rcases he with z | z
    ·exact absurd (hbe.trans z) hb
    ·rw [hbe];exact z
   rw [q] at q';cases q'
   obtain ⟨v,hv⟩:=heo
   exact ⟨v,by rw [hbe];exact hv⟩
  ·refine (ok b u q).stay (fun c v hc r=>k c v ?_ r) (fun c r=>by rw [zh (nown c b r)];exact r) fun c xs r=>by rw [zh (ntup c xs r)];exact r
   rcases hc with rfl | hc
   ·exact hbe
   ·rintro rfl
    rcases he with z | z
    ·exact nown c b hc z
    ·rw [hc] at z;cases z;exact hb rfl
end
structure Un (fs ex:List Kc) (H H':Hp) (h h':Kl):Prop where
 keep:∀ b o,h.get? b=some o->H b=none->b∉fs->b∉ex->h'.get? b=some o
 slot:∀ b o,h.get? b=some o->H b=none->b∈fs->b∉ex->∃ sl,h'.get? b=some { o with slots:=sl }
 free:∀ b o,h.get? b=some o->H b=none->b∉ex->H' b=none
 there:∀ b o,h.get? b=some o->b∉ex->∃ o',h'.get? b=some o'
 tups:∀ b xs,H b=some (.tup xs)->H' b=some (.tup xs)
 frzs:∀ b o u,H b=some (.frz o u)->H' b=some (.frz o u)
 tbls:∀ b ps,H b=some (.tbl ps)->∃ more,H' b=some (.tbl (ps++more))
section
variable {fs fs' ex ex':List Kc} {H H1 H2:Hp} {h h1 h2 h':Kl} {a x e:Kc} {o:HO}
theorem Un.any (u:Un fs ex H H1 h h1) {b:Kc} {ob:KA} (q:h.get? b=some ob) (n:H b=none) (hx:b∉ex):∃ sl,h1.get? b=some { ob with slots:=sl }:=by
 by_cases hb:b∈fs
 ·exact u.slot b ob q n hb hx
 ·exact ⟨ob.slots,u.keep b ob q n hb hx⟩
theorem Un.trans (a:Un fs ex H H1 h h1) (b:Un fs ex H1 H2 h1 h2):Un fs ex H H2 h h2 where
 keep:=fun c ob q n hc hx=>b.keep c ob (a.keep c ob q n hc hx) (a.free c ob q n hx) hc hx
 slot:=fun c ob q n hc hx=>by
  obtain ⟨sl,e1⟩:=a.slot c ob q n hc hx
  obtain ⟨sl',e2⟩:=b.slot c _ e1 (a.free c ob q n hx) hc hx
  exact ⟨sl',e2⟩
 free:=fun c ob q n hx=>by
  obtain ⟨o',e1⟩:=a.there c ob q hx
  exact b.free c o' e1 (a.free c ob q n hx) hx
 there:=fun c ob q hx=>by
  obtain ⟨o',e1⟩:=a.there c ob q hx
  exact b.there c o' e1 hx
 tups:=fun c xs q=>b.tups c xs (a.tups c xs q)
 frzs:=fun c ob xs q=>b.frzs c ob xs (a.frzs c ob xs q)
 tbls:=fun c ps q=>by
  obtain ⟨m1,e1⟩:=a.tbls c ps q
  obtain ⟨m2,e2⟩:=b.tbls c _ e1
  exact ⟨m1++m2,by rw [e2,Array.append_assoc]⟩
theorem Un.kept (k:∀ b u,h.get? b=some u->h'.get? b=some u):Un fs ex H H h h' :=
 ⟨fun b ob q _ _ _=>k b ob q,fun b ob q _ _ _=>⟨ob.slots,k b ob q⟩,fun _ _ _ n _=>n,fun b ob q _=>⟨ob,k b ob q⟩,fun _ _ q=>q,fun _ _ _ q=>q,fun _ ps q=>⟨#[],by rw [q];simp⟩⟩
theorem Un.refl:Un fs ex H H h h:=Un.kept fun _ _ q=>q
theorem Un.laid (k:∀ b u,h.get? b=some u->h'.get? b=some u) (hp:h.objs.size<=a) (hn:H a=none):Un fs ex H (upd H a o) h h' where
 keep:=fun b u q _ _ _=>k b u q
 slot:=fun b u q _ _ _=>⟨u.slots,k b u q⟩
 free:=fun b u q n _=>by rw [zh (QE (Qx (Qr q) hp))];exact n
 there:=fun b u q _=>⟨u,k b u q⟩
 tups:=fun b xs q=>by rw [zh (Zo q hn)];exact q
 frzs:=fun b u xs q=>by rw [zh (Zo q hn)];exact q
 tbls:=fun b ps q=>⟨#[],by rw [zh (Zo q hn),q];simp⟩
theorem Un.write (mu:Mut (H x)) (he:e=x\/H e=some (.own x)) (k:∀ b u,b≠e->h.get? b=some u->h'.get? b=some u) (heo:∃ u,h'.get? e=some u):Un fs ex H (upd H x o) h h':=by
 have hx:∀ b,H b=none->b≠x:=fun b n z=>by subst z;rw [n] at mu;exact mu
 have hb:∀ b,H b=none->b≠e:=fun b n z=>by
  subst z
  rcases he with r | r
  ·exact hx b n r
  ·rw [n] at r;cases r
 have hm:∀ b u,H b=some u->¬ Mut (some u)->b≠x:=fun b u q nm z=>by subst z;rw [q] at mu;exact nm mu
 refine ⟨fun b u q n _ _=>k b u (hb b n) q,fun b u q n _ _=>⟨u.slots,k b u (hb b n) q⟩,fun b u q n _=>by rw [zh (hx b n)];exact n,fun b u q _=>?_,
  fun b xs q=>by rw [zh (hm b _ q fun z=>z)];exact q,fun b u xs q=>by rw [zh (hm b _ q fun z=>z)];exact q,fun b ps q=>⟨#[],by rw [zh (hm b _ q fun z=>z),q];simp⟩⟩
 by_cases hbe:b=e
 ·subst hbe;exact heo
 ·exact ⟨u,k b u hbe q⟩
end
def trk (h:Kl) (H:Hp):List Kc:=(List.range h.objs.size).filter fun a=>(H a).isSome
def hidT (h:Kl) (H:Hp):Kl:=PySem.W.hideAll h (trk h H)
theorem hidT_size (h:Kl) (H:Hp):(hidT h H).objs.size=h.objs.size:=PySem.W.hideAll_size _ _
theorem hidT_get {h:Kl} {H:Hp} {b:Kc} {o:KA} (e:h.get? b=some o) (n:H b=none):(hidT h H).get? b=some o :=
 PySem.W.hideAll_get _ e fun hm=>by
  have q:(H b).isSome=true:=(List.mem_filter.mp hm).2
  rw [n] at q;simp at q
theorem of_hidT {h:Kl} {H:Hp} {b:Kc} {o:KA} (e:(hidT h H).get? b=some o):h.get? b=some o/\H b=none:=by
 have e':h.get? b=some o:=PySem.W.of_hideAll (trk h H) e
 refine ⟨e',?_⟩
 cases q:H b with
 | none=>rfl
 | some x =>
  have hm:b∈trk h H:=List.mem_filter.mpr ⟨PX.mpr (Qr e'),by simp [q]⟩
  have z:(hidT h H).get? b=none:=PySem.W.hideAll_none (trk h H) hm
  rw [z] at e;cases e
def allNews (g h:Kl) (L:Kc):List (Kc×KA):=(List.range h.objs.size).filterMap fun a=>if a=L\/(g.get? a).isSome=true then none else (h.get? a).map fun o=>(a,o)
def Zg (g h:Kl) (L d:Kc):List (Kc×KA):=(allNews g h L).filter fun p=>decide (p.1≠d)
end L2
namespace L2
open PySem PySem.Spec PyProof.Rows
structure Mod (K:KC) (mg:Kw->Option Ka) (base:Kl):Prop where
 kin:K.In base
 glob:base.Ns Kf mg
 blt:∃ mb,base.Ns builtinsNs mb/\∀ x:Kw,x≠"__name__"->mb x=bootBuiltins x
 nolimit:base.NoLimit
 seer:base.NoSeer
structure Cx where
 prog:Ki
 w:Kk
 K:KC
 mg:Kw->Option Ka
 base:Kl
 A:Kj
 N:List Kw
 s₀:Kb
 P9:Hp
 env:Env
 outer:List Env
 stack:List Env
 ex:List Kc
 fn:Kw->Bool
 calm:Bool
 pn:List (Kc×KA)
 xe:Ka->Kb->Prop
def frs (l:List Env):List Kc:=l.filterMap (·.frame)
abbrev Cx.fs (X:Cx):List Kc:=frs X.outer
def Vis (sc:Scope) (x:Kw):Prop:=sc.names.lookup x=some .local\/sc.names.lookup x=some .cell\/sc.names.lookup x=some .free
def Loc (sc:Scope) (x:Kw):Prop:=sc.names.lookup x=some .local\/sc.names.lookup x=some .cell
def Look (env:Env) (h:Kl) (m:Kw->Option Ka) (x:Kw) (u:Ka):Prop :=
 (env.kindOf x=some .local/\m x=some u)\/((env.kindOf x=some .cell\/env.kindOf x=some .free)/\∃ c,env.cells.lookup x=some c/\h.IsCell c (some u))
structure Cx.Ok (X:Cx):Prop where
 mod:Mod X.K X.mg X.base
 kind:X.env.scope.kind=.function
 glob:X.env.globals=Kf
 blt:X.env.builtins=builtinsNs
 above:X.s₀.heap.objs.size<=X.env.locals
 inj:∀ x y c,X.env.cells.lookup x=some c->X.env.cells.lookup y=some c->x=y
 has:∀ x,(X.env.kindOf x=some .cell\/X.env.kindOf x=some .free)->∃ c,X.env.cells.lookup x=some c
 cab:∀ x c,X.fn x=true->X.env.cells.lookup x=some c->X.s₀.heap.objs.size<=c
 hd:X.calm=true->X.A.handled=none
 frames:X.A.frames=some X.stack
 stk:X.stack=X.outer\/(X.stack=X.env::X.outer/\X.env.frame=some X.env.locals)
 exf:∀ b∈X.ex,b≠X.env.locals/\∀ x c,X.env.cells.lookup x=some c->c≠b
 bs:∀ b o,X.base.get? b=some o->X.s₀.heap.get? b=some o/\X.P9 b=none
 bsz:X.base.objs.size<=X.s₀.heap.objs.size
 noex:∀ b o,X.base.get? b=some o->b∉X.ex
 exfs:∀ b∈X.ex,b∉X.fs
 funs:X.s₀.heap.FunFrames X.base X.outer
 frf:∀ b∈X.fs,X.P9 b=none
 top:∃ e l,X.stack=e::l/\e.scope.isGenerator=false/\e.scope.isCoroutine=false/\e.builtins=builtinsNs/\e.globals=Kf
 tree:X.prog.given.tree=none
structure Inv (X:Cx) (KJ:List (Kc×KA)) (σ:List (Option V)) (H:Hp) (s:Kb):Prop where
 ok:X.Ok
 os:s.os=X.s₀.os
 bare:AllBare s.gens
 base:Un X.fs X.ex X.P9 H X.s₀.heap s.heap
 loc:∃ m,s.heap.Ns X.env.locals m/\∀ (i:Nat) (x:Kw) (v:V),X.N[i]?=some x->σ[i]?=some (some v)->Vis X.env.scope x->∃ u,Zr v u/\Look X.env s.heap m x u
 cell:∀ x c,X.env.cells.lookup x=some c->∃ v,s.heap.IsCell c v
 free:H X.env.locals=none
 freeC:∀ x c,X.env.cells.lookup x=some c->H c=none
 pin:∀ p∈X.pn++KJ,s.heap.get? p.1=some p.2/\H p.1=none/\p.1≠X.env.locals/\p.1∉X.fs/\∀ v,p.2.data≠.cell v
 hok:HOk X.prog X.w H s.heap
 len:σ.length=X.N.length
section
variable {X:Cx} {KJ:List (Kc×KA)} {σ:List (Option V)} {H H':Hp} {s:Kb} {h':Kl}
theorem Cx.Ok.nofr (ok:X.Ok) {b:Kc} {o:KA} (e:X.base.get? b=some o):b∉X.fs:=fun hb=>by
 have:=(ok.funs.mem hb).1
 rw [e] at this;cases this
theorem Inv.bs (I:Inv X KJ σ H s):∀ b o,X.base.get? b=some o->s.heap.get? b=some o/\H b=none:=fun b o e =>
 ⟨I.base.keep b o (I.ok.bs b o e).1 (I.ok.bs b o e).2 (I.ok.nofr e) (I.ok.noex b o e),I.base.free b o (I.ok.bs b o e).1 (I.ok.bs b o e).2 (I.ok.noex b o e)⟩
theorem Inv.bk (I:Inv X KJ σ H s):∀ b o,X.base.get? b=some o->s.heap.get? b=some o:=fun b o e=>(I.bs b o e).1
theorem Inv.mod (I:Inv X KJ σ H s):Mod X.K X.mg X.base:=I.ok.mod
theorem Inv.kIn (I:Inv X KJ σ H s):X.K.In s.heap:=I.ok.mod.kin.keeps I.bk
theorem Inv.nolimit (I:Inv X KJ σ H s):s.heap.NoLimit:=I.ok.mod.nolimit.keeps I.bk
theorem Inv.lt (I:Inv X KJ σ H s):X.env.locals<s.heap.objs.size:=let ⟨_,hn,_⟩:=I.loc;hn.lt
theorem Inv.sz (I:Inv X KJ σ H s):X.s₀.heap.objs.size<=s.heap.objs.size:=QA I.ok.above (Pm I.lt)
theorem Inv.nofs (I:Inv X KJ σ H s) {a:Kc} (h:s.heap.objs.size<=a):a∉X.fs:=fun hb=>by
 obtain ⟨_,o,ho,_⟩:=I.ok.funs.mem hb
 exact absurd (Qx (Qr ho) (QA I.sz h)) (QV _)
theorem Inv.cne (I:Inv X KJ σ H s):∀ x c,X.env.cells.lookup x=some c->c≠X.env.locals:=fun x c e z=>by
 obtain ⟨v,o,ho,hd⟩:=I.cell x c e
 obtain ⟨m,⟨o',es,ep,ho',hd',_⟩,_⟩:=I.loc
 rw [z,ho'] at ho;cases ho;rw [hd'] at hd;cases hd
theorem Inv.funs (I:Inv X KJ σ H s):s.heap.FunFrames X.base X.outer:=by
 have all:∀ (l:List Env),(∀ b∈frs l,b∈X.fs)->X.s₀.heap.FunFrames X.base l->s.heap.FunFrames X.base l:=by
  intro l
  induction l with
  | nil=>intro _ _;trivial
  | cons env r ih =>
   intro hs hl
   obtain ⟨hk,⟨L,o,hf,hn,ho,hd⟩,hr⟩:=hl
   have hL:L∈X.fs:=hs L (by unfold frs;rw [PH,hf];exact Qj)
   obtain ⟨sl,e⟩:=I.base.slot L o ho (I.ok.frf L hL) hL fun z=>I.ok.exfs L z hL
   exact ⟨hk,⟨L,_,hf,hn,e,hd⟩,ih (fun b hb=>hs b (by unfold frs;rw [PH,hf];exact Qc _ hb)) hr⟩
 exact all X.outer (fun _ hb=>hb) I.ok.funs
theorem Inv.stack (I:Inv X KJ σ H s):s.heap.FunFrames X.base X.stack:=by
 rcases I.ok.stk with e | ⟨e,hf⟩
 ·rw [e];exact I.funs
 ·rw [e]
  obtain ⟨m,hn,_⟩:=I.loc
  refine .cons (by rw [I.ok.kind];decide) hf hn ?_ I.funs
  exact Heap.get?_none_of_le (QA I.ok.bsz I.ok.above)
theorem Inv.stkSub (I:Inv X KJ σ H s):∀ b∈frs X.stack,b∈X.env.locals::X.fs:=fun b hb=>by
 rcases I.ok.stk with e | ⟨e,hf⟩
 ·rw [e] at hb;exact Qc _ hb
 ·rw [e] at hb
  unfold frs at hb
  rw [PH,hf] at hb
  exact hb
theorem Inv.stkFree (I:Inv X KJ σ H s):∀ b∈frs X.stack,H b=none:=fun b hb=>by
 rcases Qa.mp (I.stkSub b hb) with e | hb
 ·rw [e];exact I.free
 ·obtain ⟨_,o,ho,_⟩:=I.ok.funs.mem hb
  exact I.base.free b o ho (I.ok.frf b hb) fun z=>I.ok.exfs b z hb
theorem Inv.step {g':Array GenState} {t':Nat} {d':Drawn} {ch:List Kc} (I:Inv X KJ σ H s)
  (hch:∀ b∈ch,(b∈X.ex\/X.s₀.heap.objs.size<=b)/\b≠X.env.locals/\(∀ x c,X.env.cells.lookup x=some c->c≠b)/\∀ p∈X.pn++KJ,p.1≠b)
  (keep:∀ b o,b≠X.env.locals->b∉X.fs->b∉ch->s.heap.get? b=some o->H b=none->h'.get? b=some o)
  (slot:∀ b o,b≠X.env.locals->b∈X.fs->b∉ch->s.heap.get? b=some o->H b=none->∃ sl,h'.get? b=some { o with slots:=sl }) (free:∀ b o,b∉ch->s.heap.get? b=some o->H b=none->H' b=none)
  (there:∀ b o,b∉ch->s.heap.get? b=some o->∃ o',h'.get? b=some o')
  (tups:∀ b xs,H b=some (.tup xs)->H' b=some (.tup xs)) (frzs:∀ b o u,H b=some (.frz o u)->H' b=some (.frz o u)) (tbls:∀ b ps,H b=some (.tbl ps)->∃ more,H' b=some (.tbl (ps++more)))
  (ns:∀ m,s.heap.Ns X.env.locals m->h'.Ns X.env.locals m) (hok:HOk X.prog X.w H' h') (hg:AllBare g') :
  Inv X KJ σ H' { s with heap:=h',gens:=g',drawn:=d',toks:=t' }:=by
 have neL:∀ b o,X.s₀.heap.get? b=some o->b≠X.env.locals:=fun b o e=>QE (Qx (Qr e) I.ok.above)
 have neC:∀ b o,X.s₀.heap.get? b=some o->b∉X.ex->b∉ch:=fun b o e hx hb=>by
  rcases (hch b hb).1 with z | z
  ·exact hx z
  ·exact absurd (Qx (Qr e) z) (QV _)
 have cellK:∀ x c,X.env.cells.lookup x=some c->∀ v,s.heap.IsCell c v->h'.IsCell c v:=fun x c e v ⟨o,ho,hd⟩=>by
  have nch:c∉ch:=fun z=>(hch c z).2.2.1 x c e rfl
  by_cases hc:c∈X.fs
  ·obtain ⟨sl,q⟩:=slot c o (I.cne x c e) hc nch ho (I.freeC x c e)
   exact ⟨_,q,hd⟩
  ·exact ⟨o,keep c o (I.cne x c e) hc nch ho (I.freeC x c e),hd⟩
 refine ⟨I.ok,I.os,hg,⟨fun b o e n hb hx=>?_,fun b o e n hb hx=>?_,fun b o e n hx=>?_,fun b o e hx=>?_,fun b xs e=>tups b xs (I.base.tups b xs e),fun b o xs e=>frzs b o xs (I.base.frzs b o xs e),fun b ps e=>?_⟩,?_,fun x c e=>?_,?_,fun x c e=>?_,fun p hp=>?_,hok,I.len⟩
 ·exact keep b o (neL b o e) hb (neC b o e hx) (I.base.keep b o e n hb hx) (I.base.free b o e n hx)
 ·obtain ⟨sl,e1⟩:=I.base.slot b o e n hb hx
  obtain ⟨sl',e2⟩:=slot b _ (neL b o e) hb (neC b o e hx) e1 (I.base.free b o e n hx)
  exact ⟨sl',e2⟩
 ·obtain ⟨o',e1⟩:=I.base.there b o e hx
  exact free b o' (neC b o e hx) e1 (I.base.free b o e n hx)
 ·obtain ⟨o',e1⟩:=I.base.there b o e hx
  exact there b o' (neC b o e hx) e1
 ·obtain ⟨m1,e1⟩:=I.base.tbls b ps e
  obtain ⟨m2,e2⟩:=tbls b _ e1
  exact ⟨m1++m2,by rw [e2,Array.append_assoc]⟩
 ·obtain ⟨m,hn,hl⟩:=I.loc
  refine ⟨m,ns m hn,fun i x v e1 e2 e3=>?_⟩
  obtain ⟨u,r,l⟩:=hl i x v e1 e2 e3
  refine ⟨u,r,?_⟩
  rcases l with l | ⟨k,c,e,z⟩
  ·exact .inl l
  ·exact .inr ⟨k,c,e,cellK x c e _ z⟩
 ·obtain ⟨v,z⟩:=I.cell x c e
  exact ⟨v,cellK x c e v z⟩
 ·obtain ⟨m,⟨o,_,_,ho,_⟩,_⟩:=I.loc
  exact free _ o (fun z=>(hch _ z).2.1 rfl) ho I.free
 ·obtain ⟨v,o,ho,hd⟩:=I.cell x c e
  exact free c o (fun z=>(hch c z).2.2.1 x c e rfl) ho (I.freeC x c e)
 ·obtain ⟨e,n,ne,nf,d⟩:=I.pin p hp
  have nch:p.1∉ch:=fun z=>(hch p.1 z).2.2.2 p hp rfl
  exact ⟨keep p.1 p.2 ne nf nch e n,free p.1 p.2 nch e n,ne,nf,d⟩
theorem Inv.un {t':Nat} (I:Inv X KJ σ H s) (u:Un X.fs [] H H' s.heap h') (hok:HOk X.prog X.w H' h'):Inv X KJ σ H' { s with heap:=h',toks:=t' }:=by
 obtain ⟨m,⟨o,es,ep,ho,r⟩,_⟩:=id I.loc
 obtain ⟨sl,hL⟩:=u.any ho I.free (by simp)
 exact I.step (g':=s.gens) (d':=s.drawn) (ch:=[]) (fun _ z=>nomatch z) (fun b o _ hb _ e n=>u.keep b o e n hb (by simp)) (fun b o _ hb _ e n=>u.slot b o e n hb (by simp)) (fun b o _ e n=>u.free b o e n (by simp)) (fun b o _ e=>u.there b o e (by simp)) u.tups u.frzs u.tbls (fun m' hm=>by
  obtain ⟨o',es',ep',ho',r'⟩:=hm
  rw [ho] at ho';cases ho'
  exact ⟨_,es',ep',hL,r'⟩) hok I.bare
theorem Inv.call {g':Array GenState} {t':Nat} {d':Drawn} {ch:List Kc} (I:Inv X KJ σ H s) (u:Un (frs X.stack) ch H H' s.heap h') (hok:HOk X.prog X.w H' h') (hg:AllBare g')
  (hch:∀ b∈ch,(b∈X.ex\/X.s₀.heap.objs.size<=b)/\b≠X.env.locals/\(∀ x c,X.env.cells.lookup x=some c->c≠b)/\∀ p∈X.pn++KJ,p.1≠b) :
  Inv X KJ σ H' { s with heap:=h',gens:=g',drawn:=d',toks:=t' }:=by
 obtain ⟨m,⟨o,es,ep,ho,r⟩,_⟩:=id I.loc
 obtain ⟨sl,hL⟩:=u.any ho I.free fun z=>(hch _ z).2.1 rfl
 exact I.step (ch:=ch) hch (fun b o hL hb hc e n=>u.keep b o e n (fun z=>(Qa.mp (I.stkSub b z)).elim hL hb) hc) (fun b o _ _ hc e n=>u.any e n hc) (fun b o hc e n=>u.free b o e n hc) (fun b o hc e=>u.there b o e hc) u.tups u.frzs u.tbls (fun m' hm=>by
  obtain ⟨o',es',ep',ho',r'⟩:=hm
  rw [ho] at ho';cases ho'
  exact ⟨_,es',ep',hL,r'⟩) hok hg
theorem Inv.turned {t':Nat} {it:Kc} (I:Inv X KJ σ H s) (k:∀ b o,b≠it->s.heap.get? b=some o->h'.get? b=some o) (hn:H it=none) (hL:it≠X.env.locals)
  (h1:it∈X.ex\/X.s₀.heap.objs.size<=it) (h2:∀ x c,X.env.cells.lookup x=some c->c≠it) (h3:∀ p∈X.pn++KJ,p.1≠it):Inv X KJ σ H { s with heap:=h',toks:=t' }:=by
 have nit:∀ b u,H b=some u->b≠it:=fun b u e z=>by rw [z,hn] at e;cases e
 refine I.step (g':=s.gens) (d':=s.drawn) (ch:=[it]) (fun b hb=>?_) (fun b o _ _ hc e _=>k b o (fun z=>hc (by simp [z])) e) (fun b o _ _ hc e _=>⟨o.slots,k b o (fun z=>hc (by simp [z])) e⟩) (fun _ _ _ _ n=>n)
  (fun b o hc e=>⟨o,k b o (fun z=>hc (by simp [z])) e⟩) (fun _ _ e=>e) (fun _ _ _ e=>e) (fun b ps e=>⟨#[],by rw [e];simp⟩) (fun m hm=>?_) (fun b u e=>?_) I.bare
 ·have e:b=it:=by simpa using hb
  subst e
  exact ⟨h1,hL,h2,h3⟩
 ·obtain ⟨o,es,ep,ho,r⟩:=hm
  exact ⟨o,es,ep,k _ o (Ne.symm hL) ho,r⟩
 ·refine (I.hok b u e).stay (fun c v hc q=>k c v ?_ q) (fun _ q=>q) fun _ _ q=>q
  rcases hc with z | z
  ·rw [z];exact nit b u e
  ·exact nit c _ z
theorem Inv.tok (I:Inv X KJ σ H s) (t:Nat):Inv X KJ σ H { s with toks:=t }:=I.un (h':=s.heap) (t':=t) Un.refl I.hok
theorem Inv.kept {t':Nat} (I:Inv X KJ σ H s) (k:∀ b u,s.heap.get? b=some u->h'.get? b=some u):Inv X KJ σ H { s with heap:=h',toks:=t' }:=I.un (Un.kept k) (I.hok.kept k)
theorem Inv.laid {a:Kc} {o:HO} {t':Nat} (I:Inv X KJ σ H s) (k:∀ b u,s.heap.get? b=some u->h'.get? b=some u) (hp:s.heap.objs.size<=a) (new:yx X.prog X.w (upd H a o) h' a o) :
  Inv X KJ σ (upd H a o) { s with heap:=h',toks:=t' }:=I.un (Un.laid k hp (I.hok.fresh hp)) (I.hok.laid k hp new)
theorem Inv.write {x e:Kc} {o:HO} {t':Nat} (I:Inv X KJ σ H s) (mu:Mut (H x)) (he:e=x\/H e=some (.own x)) (k:∀ b u,b≠e->s.heap.get? b=some u->h'.get? b=some u) (heo:∃ u,h'.get? e=some u)
  (new:yx X.prog X.w (upd H x o) h' x o):Inv X KJ σ (upd H x o) { s with heap:=h',toks:=t' }:=I.un (Un.write mu he k heo) (I.hok.write mu he k heo new)
theorem Inv.pins_of {pins':List (Kc×KA)} (I:Inv X KJ σ H s) (h:∀ p∈pins',s.heap.get? p.1=some p.2/\H p.1=none/\p.1≠X.env.locals/\p.1∉X.fs/\∀ v,p.2.data≠.cell v):Inv X pins' σ H s :=
 ⟨I.ok,I.os,I.bare,I.base,I.loc,I.cell,I.free,I.freeC,fun p hp=>(Qq.mp hp).elim (fun z=>I.pin p (List.mem_append_left _ z)) (h p),I.hok,I.len⟩
theorem nodup_ix {N:List Kw} (hN:N.Nodup) {i j:Nat} {x:Kw} (a:N[i]?=some x) (b:N[j]?=some x):i=j:=by
 obtain ⟨h1,e1⟩:=Qs.mp a
 obtain ⟨h2,e2⟩:=Qs.mp b
 exact (List.getElem_inj hN).mp (e1.trans e2.symm)
theorem store_ok2 {M:Model} {A:Kj} {E:Ka->Kb->Prop} {i:Nat} {x:Kw} {v:V} {u:Ka} {Q:Unit->Kb->Prop} (I:Inv X KJ σ H s) (hN:X.N.Nodup) (hi:X.N[i]?=some x) (hx:Loc X.env.scope x) (r:Zr v u)
  (h:∀ s',Inv X KJ (σ.set i (some v)) H s'->(∃ a,Heap.SameBut a s.heap s'.heap/\(a=X.env.locals\/X.env.cells.lookup x=some a))->Q () s') (hf:X.fn x=true\/X.env.scope.names.lookup x=some .local:=by first | exact .inl rfl | exact .inr rfl | assumption):Ko M A (storeName X.env x u) Q E s:=by
 obtain ⟨m,hn,hl⟩:=id I.loc
 have hcls:(X.env.scope.kind == .class||(X.env.scope.kind == .module&&X.env.locals != X.env.globals))=false:=by rw [I.ok.kind];rfl
 have hiσ:i<σ.length:=by rw [I.len];exact (Qs.mp hi).1
 have cne:=I.cne
 have tracked:∀ {a:Kc} {h':Kl},(∃ o,s.heap.get? a=some o/\H a=none)->Heap.SameBut a s.heap h'->HOk X.prog X.w H h':=fun {a h'} ha hs b ob e=>by
  obtain ⟨_,_,hfree⟩:=ha
  refine (I.hok b ob e).stay (fun c w' hc q=>(hs.2 c ?_).trans q) (fun _ q=>q) fun _ _ q=>q
  rintro rfl
  rcases hc with rfl | hc
  ·rw [hfree] at e;cases e
  ·rw [hfree] at hc;cases hc
 rcases hx with hk | hk
 ·refine wpAny_storeName_local hk hn (fun h' hn' hs=>?_) hcls
  obtain ⟨oL,_,_,hoL,_⟩:=id hn
  refine h _ ⟨I.ok,I.os,I.bare,⟨fun b o e n hb hx=>?_,fun b o e n hb hx=>?_,I.base.free,fun b o e hx=>?_,I.base.tups,I.base.frzs,I.base.tbls⟩,⟨_,hn',fun j y v' e1 e2 e3=>?_⟩,fun y c e=>?_,I.free,I.freeC,fun p hp=>?_,tracked ⟨oL,hoL,I.free⟩ hs,by simpa using I.len⟩ ⟨_,hs,.inl rfl⟩
  ·exact (hs.2 b (QE (Qx (Qr e) I.ok.above))).trans (I.base.keep b o e n hb hx)
  ·obtain ⟨sl,e1⟩:=I.base.slot b o e n hb hx
   exact ⟨sl,(hs.2 b (QE (Qx (Qr e) I.ok.above))).trans e1⟩
  ·obtain ⟨o',e1⟩:=I.base.there b o e hx
   exact ⟨o',(hs.2 b (QE (Qx (Qr e) I.ok.above))).trans e1⟩
  ·by_cases hj:j=i
   ·subst hj
    rw [hi] at e1;cases e1
    rw [QR hiσ] at e2
    cases e2
    exact ⟨u,r,.inl ⟨hk,by simp⟩⟩
   ·rw [List.getElem?_set_ne (Ne.symm hj)] at e2
    obtain ⟨u',r',q⟩:=hl j y v' e1 e2 e3
    refine ⟨u',r',?_⟩
    rcases q with ⟨k,e⟩ | ⟨k,c,e,z⟩
    ·refine .inl ⟨k,?_⟩
     have:y≠x:=fun e=>hj (nodup_ix hN e1 (e▸hi))
     simp [this,e]
    ·exact .inr ⟨k,c,e,z.sameBut hs (cne y c e)⟩
  ·obtain ⟨w',z⟩:=I.cell y c e
   exact ⟨w',z.sameBut hs (cne y c e)⟩
  ·obtain ⟨e,n,ne,nf,d⟩:=I.pin p hp
   exact ⟨(hs.2 p.1 ne).trans e,n,ne,nf,d⟩
 ·have hfn:X.fn x=true:=by
   rcases hf with z | z
   ·exact z
   ·rw [z] at hk;cases hk
  obtain ⟨c,hc⟩:=I.ok.has x (.inl hk)
  obtain ⟨w',z⟩:=I.cell x c hc
  refine wpAny_storeName_cell I.ok.kind hk hc z (fun h' hc' hs=>?_)
  obtain ⟨oc,hoc,hocd⟩:=id z
  refine h { s with heap:=h' } ⟨I.ok,I.os,I.bare,⟨fun b o e n hb hx=>?_,fun b o e n hb hx=>?_,I.base.free,fun b o e hx=>?_,I.base.tups,I.base.frzs,I.base.tbls⟩,⟨m,hn.sameBut hs (Ne.symm (cne x c hc)),fun j y v' e1 e2 e3=>?_⟩,fun y c' e=>?_,I.free,I.freeC,fun p hp=>?_,tracked ⟨oc,hoc,I.freeC x c hc⟩ hs,by simpa using I.len⟩ ⟨c,hs,.inr hc⟩
  ·exact (hs.2 b (QE (Qx (Qr e) (I.ok.cab x c hfn hc)))).trans (I.base.keep b o e n hb hx)
  ·obtain ⟨sl,e1⟩:=I.base.slot b o e n hb hx
   exact ⟨sl,(hs.2 b (QE (Qx (Qr e) (I.ok.cab x c hfn hc)))).trans e1⟩
  ·obtain ⟨o',e1⟩:=I.base.there b o e hx
   exact ⟨o',(hs.2 b (QE (Qx (Qr e) (I.ok.cab x c hfn hc)))).trans e1⟩
  ·by_cases hj:j=i
   ·subst hj
    rw [hi] at e1;cases e1
    rw [QR hiσ] at e2
    cases e2
    exact ⟨u,r,.inr ⟨.inl hk,c,hc,hc'⟩⟩
   ·rw [List.getElem?_set_ne (Ne.symm hj)] at e2
    obtain ⟨u',r',q⟩:=hl j y v' e1 e2 e3
    refine ⟨u',r',?_⟩
    rcases q with q | ⟨k,c',e,z'⟩
    ·exact .inl q
    ·refine .inr ⟨k,c',e,z'.sameBut hs ?_⟩
     rintro rfl
     exact hj (nodup_ix hN e1 (I.ok.inj _ _ _ e hc▸hi))
  ·by_cases hcc:c'=c
   ·subst hcc;exact ⟨_,hc'⟩
   ·obtain ⟨w2,z2⟩:=I.cell y c' e
    exact ⟨w2,z2.sameBut hs hcc⟩
  ·obtain ⟨e,n,ne,nf,d⟩:=I.pin p hp
   refine ⟨(hs.2 p.1 ?_).trans e,n,ne,nf,d⟩
   intro q
   rw [q,hoc] at e
   have q':oc=p.2:=Option.some.inj e
   exact d w' (by rw [<- q'];exact hocd)
theorem store_ok {M:Model} {A:Kj} {E:Ka->Kb->Prop} {i:Nat} {x:Kw} {v:V} {u:Ka} {Q:Unit->Kb->Prop} (I:Inv X KJ σ H s) (hN:X.N.Nodup) (hi:X.N[i]?=some x) (hx:Loc X.env.scope x) (r:Zr v u)
  (h:∀ s',Inv X KJ (σ.set i (some v)) H s'->Q () s') (hf:X.fn x=true\/X.env.scope.names.lookup x=some .local:=by first | exact .inl rfl | exact .inr rfl | assumption):Ko M A (storeName X.env x u) Q E s :=
 store_ok2 I hN hi hx r (fun s' I' _=>h s' I') hf
theorem Inv.call' {s':Kb} {ch:List Kc} (I:Inv X KJ σ H s) (ho:s'.os=s.os) (u:Un (frs X.stack) ch H H' s.heap s'.heap) (hok:HOk X.prog X.w H' s'.heap) (hg:AllBare s'.gens)
  (hch:∀ b∈ch,(b∈X.ex\/X.s₀.heap.objs.size<=b)/\b≠X.env.locals/\(∀ x c,X.env.cells.lookup x=some c->c≠b)/\∀ p∈X.pn++KJ,p.1≠b):Inv X KJ σ H' s':=by
 obtain ⟨h',g',d',t',o'⟩:=s'
 have e:o'=s.os:=ho
 subst e
 exact I.call (g':=g') (t':=t') (d':=d') u hok hg hch
end
abbrev XK:=Ka->Option Kc->Hp->Prop
abbrev St:=List (Option V)
abbrev VK:=V->Hp->Prop
abbrev TE:=St->Hp->VK->Prop
abbrev TT:=St->Hp->(Bool->Hp->Prop)->Prop
abbrev TA:=St->Hp->(List V->Hp->Prop)->Prop
structure Ends where
 nx:St->Hp->Prop
 rt:VK
 bk:St->Hp->Prop:=fun _ _=>False
 ct:St->Hp->Prop:=fun _ _=>False
abbrev TS:=Ends->St->Hp->Prop
def EP (X:Cx) (KJ:List (Kc×KA)) (σ:St) (Q:VK) (u:Ka) (s':Kb):Prop:=∃ v H',Inv X KJ σ H' s'/\Zr v u/\Q v H'
def TP (X:Cx) (KJ:List (Kc×KA)) (σ:St) (Q:Bool->Hp->Prop) (b:Bool) (s':Kb):Prop:=∃ H',Inv X KJ σ H' s'/\Q b H'
def AP (X:Cx) (KJ:List (Kc×KA)) (σ:St) (Q:List V->Hp->Prop) (us:List Ka) (s':Kb):Prop:=∃ vs H',Inv X KJ σ H' s'/\zU vs us/\Q vs H'
def SP (X:Cx) (KJ:List (Kc×KA)) (D:Ends) (f:Flow) (s':Kb):Prop :=
 match f with
 | .next=>∃ σ' H',Inv X KJ σ' H' s'/\D.nx σ' H'
 | .brk=>∃ σ' H',Inv X KJ σ' H' s'/\D.bk σ' H'
 | .cont=>∃ σ' H',Inv X KJ σ' H' s'/\D.ct σ' H'
 | .ret u=>∃ v σ' H',Inv X KJ σ' H' s'/\Zr v u/\D.rt v H'
def PE (X:Cx) (e:Kv) (t:TE):Prop :=
 ∀ (KJ:List (Kc×KA)) (s:Kb) (σ:St) (H:Hp) (Q:VK),Inv X KJ σ H s->t σ H Q->Ko (Ky X.prog X.w) X.A (Kz e X.env) (EP X KJ σ Q) X.xe s
def PT (X:Cx) (e:Kv) (t:TT):Prop :=
 ∀ (KJ:List (Kc×KA)) (s:Kb) (σ:St) (H:Hp) (Q:Bool->Hp->Prop),Inv X KJ σ H s->t σ H Q->Ko (Ky X.prog X.w) X.A (isTrue e X.env (Kz e X.env)) (TP X KJ σ Q) X.xe s
def PW (X:Cx) (e:Kv) (t:TT):Prop :=
 ∀ (whole:Sem Ka) (KJ:List (Kc×KA)) (s:Kb) (σ:St) (H:Hp) (Q:Bool->Hp->Prop),Inv X KJ σ H s->t σ H Q->Ko (Ky X.prog X.w) X.A (isTrue e X.env whole) (TP X KJ σ Q) X.xe s
theorem PW.pt {X:Cx} {e:Kv} {t:TT} (h:PW X e t):PT X e t:=h _
def PA (X:Cx) (es:List Kv) (t:TA):Prop :=
 ∀ (pos:KB) (KJ:List (Kc×KA)) (s:Kb) (σ:St) (H:Hp) (Q:List V->Hp->Prop),Inv X KJ σ H s->t σ H Q->Ko (Ky X.prog X.w) X.A (spliced (Kq pos (Ke es X.env))) (AP X KJ σ Q) X.xe s
def PS (X:Cx) (st:Kx) (t:TS):Prop :=
 ∀ (KJ:List (Kc×KA)) (s:Kb) (σ:St) (H:Hp) (D:Ends),Inv X KJ σ H s->t D σ H->Ko (Ky X.prog X.w) X.A (exec st X.env) (SP X KJ D) X.xe s
def PSs (X:Cx) (st:List Kx) (t:TS):Prop :=
 ∀ (KJ:List (Kc×KA)) (s:Kb) (σ:St) (H:Hp) (D:Ends),Inv X KJ σ H s->t D σ H->Ko (Ky X.prog X.w) X.A (execs st X.env) (SP X KJ D) X.xe s
theorem thn {α:Type} {t:Sem α} {Q Q':α->Kb->Prop} {M:Model} {A:Kj} {E:Ka->Kb->Prop} {s:Kb} (h:Ko M A t Q E s) (hQ:∀ a s,Q a s->Q' a s):Ko M A t Q' E s:=Q6 h hQ fun _ _ x=>x
end L2
namespace L2
open PySem PySem.Spec PyProof.Rows
section
variable {X:Cx}
theorem bin {a b:Kv} {ta tb:TE} (ha:PE X a ta) (hb:PE X b tb) {KJ:List (Kc×KA)} {s:Kb} {σ:St} {H:Hp} {R:V->V->Hp->Prop} (I:Inv X KJ σ H s) (h:ta σ H fun x H1=>tb σ H1 fun y H2=>R x y H2)
  {α:Type} {Q:α->Kb->Prop} {f:Ka->Ka->Sem α}
  (hf:∀ v u s2 x y H2,Inv X KJ σ H2 s2->Zr x v->Zr y u->R x y H2->Ko (Ky X.prog X.w) X.A (f v u) Q X.xe s2) :
  Ko (Ky X.prog X.w) X.A (Kz a X.env) (fun v s₁=>Ko (Ky X.prog X.w) X.A (Kz b X.env) (fun u s₂=>Ko (Ky X.prog X.w) X.A (f v u) Q X.xe s₂) X.xe s₁) X.xe s:=by
 refine thn (ha KJ s σ H _ I h) fun v s1 ⟨x,H1,I1,r1,q1⟩=>?_
 refine thn (hb KJ s1 σ H1 _ I1 q1) fun u s2 ⟨y,H2,I2,r2,q2⟩=>?_
 exact hf v u s2 x y H2 I2 r1 r2 q2
def Zn (i:Nat):TE:=fun σ H Q=>∃ v,σ[i]?=some (some v)/\Q v H
def tC (v:V):TE:=fun _ H Q=>Q v H
theorem pe_var {i:Nat} {x:Kw} {pos:KB} (hN:X.N[i]?=some x) (hv:Vis X.env.scope x) (hd:(x == ("__debug__":Kw))=false:=by decide) (hcd:(x == ("__classdict__":Kw))=false:=by decide):PE X (.Name x pos) (Zn i):=by
 intro KJ s σ H Q I h
 obtain ⟨v,e,h⟩:=h
 obtain ⟨m,hn,hl⟩:=I.loc
 obtain ⟨u,r,l⟩:=hl i x v hN e hv
 have fin:EP X KJ σ Q u s:=⟨v,H,I,r,h⟩
 rcases l with ⟨hk,hm⟩ | ⟨hk,c,hc,hcell⟩
 ·exact wpAny_Name (wpAny_loadName_local I.ok.kind hk hn hm fin) hd
 ·rcases hk with hk | hk
  ·exact wpAny_Name (wpAny_loadName_cell I.ok.kind hk hc hcell fin) hd
  ·exact wpAny_Name (wpAny_loadName_free I.ok.kind hk hc hcell fin hcd) hd
theorem ZC {i j pos}:PE X (.Constant (.int i) j pos) (tC (.int i)):=fun _ _ _ H _ I h=>wpAny_Constant_int ⟨.int i,H,I.tok _,⟨_,rfl⟩,h⟩
theorem pe_bl {b j pos}:PE X (.Constant (.bool b) j pos) (tC (.bl b)):=fun _ _ _ H _ I h=>Constant_bool ⟨.bl b,H,I,rfl,h⟩
theorem pe_non {j pos}:PE X (.Constant .none j pos) (tC .non):=fun _ _ _ H _ I h=>Constant_none ⟨.non,H,I,rfl,h⟩
theorem Yy {x j pos}:PE X (.Constant (.str x) j pos) (tC (.str x)):=fun _ _ _ H _ I h=>Calls.Constant_str ⟨.str x,H,I.tok _,⟨_,rfl⟩,h⟩
def Gl (X:Cx) (x:Kw):Prop:=X.env.kindOf x=some .globalImplicit
theorem ld_glob {E:Ka->Kb->Prop} {KJ:List (Kc×KA)} {s:Kb} {σ:St} {H:Hp} {x:Kw} {u:Ka} {pos:KB} {Q:Ka->Kb->Prop} (I:Inv X KJ σ H s) (hg:Gl X x) (hm:X.mg x=some u) (h:Q u s)
  (hd:(x == ("__debug__":Kw))=false:=by decide):Ko (Ky X.prog X.w) X.A (Kz (.Name x pos) X.env) Q E s :=
 Calls.Name_function_global I.ok.kind hg (Calls.loadGlobal_global (by rw [I.ok.glob];exact I.mod.glob.keeps I.bk) hm h) hd
theorem jX {E:Ka->Kb->Prop} {KJ:List (Kc×KA)} {s:Kb} {σ:St} {H:Hp} {x:Kw} {u:Ka} {pos:KB} {Q:Ka->Kb->Prop} (I:Inv X KJ σ H s) (hg:Gl X x) (hm:X.mg x=none) (hv:bootBuiltins x=some u) (h:Q u s)
  (hn:x≠"__name__":=by decide) (hd:(x == ("__debug__":Kw))=false:=by decide):Ko (Ky X.prog X.w) X.A (Kz (.Name x pos) X.env) Q E s:=by
 obtain ⟨mb,h1,h2⟩:=I.mod.blt
 exact Calls.Name_function_global I.ok.kind hg (Calls.loadGlobal_builtin (by rw [I.ok.glob];exact I.mod.glob.keeps I.bk) hm (by rw [I.ok.blt];exact h1.keeps I.bk) ((h2 x hn).trans hv) h) hd
theorem pe_glob {x:Kw} {v:V} {u:Ka} {pos:KB} (hg:Gl X x) (hm:X.mg x=some u) (r:Zr v u) (hd:(x == ("__debug__":Kw))=false:=by decide):PE X (.Name x pos) (tC v) :=
 fun _ _ _ H _ I h=>ld_glob I hg hm ⟨v,H,I,r,h⟩ hd
theorem pe_bltn {x:Kw} {v:V} {u:Ka} {pos:KB} (hg:Gl X x) (hm:X.mg x=none) (hv:bootBuiltins x=some u) (r:Zr v u) (hn:x≠"__name__":=by decide) (hd:(x == ("__debug__":Kw))=false:=by decide):PE X (.Name x pos) (tC v) :=
 fun _ _ _ H _ I h=>jX I hg hm hv ⟨v,H,I,r,h⟩ hn hd
variable {a b:Kv} {ta tb:TE} {pos:KB}
def PC (X:Cx) (op:CmpOp) (a b:Kv) (t:TE):Prop :=
 ∀ (KJ:List (Kc×KA)) (s:Kb) (σ:St) (H:Hp) (Q:VK),Inv X KJ σ H s->t σ H Q ->
  Ko (Ky X.prog X.w) X.A (Kz a X.env) (fun v s₁=>Ko (Ky X.prog X.w) X.A (Kz b X.env) (fun u s₂=>Ko (Ky X.prog X.w) X.A (Km op v u) (EP X KJ σ Q) X.xe s₂) X.xe s₁) X.xe s
theorem nobehind (b:Kv) {op:CmpOp} (h:op≠.In) (h2:op≠.NotIn):behindInMarks op b=false:=by
 have e1:(op == CmpOp.In)=false:=by cases op <;> first | rfl | exact absurd rfl h
 have e2:(op == CmpOp.NotIn)=false:=by cases op <;> first | rfl | exact absurd rfl h2
 cases b <;> simp [behindInMarks,e1,e2]
def tB (t:TE):TT:=fun σ H Q=>t σ H fun x H1=>∃ c,x=.bl c/\Q c H1
theorem pt_cmp {op:CmpOp} {t:TE} (h:PC X op a b t) (h1:behindInMarks op b=false:=by first | exact nobehind _ (by decide) (by decide) | rfl):PT X (.Compare a [op] [b] pos) (tB t):=by
 intro KJ s σ H Q I hw
 refine wpAny_isTrue_Compare1 (thn (h KJ s σ H _ I hw) fun v s1 h1=>thn h1 fun u s2 h2=>thn h2 fun c s3 ⟨x,H1,I1,r1,q1⟩=>?_) h1
 obtain ⟨d,rfl,q⟩:=q1
 cases r1
 exact QS ⟨H1,I1,q⟩
theorem pt_val {e:Kv} {t:TE} (h:PE X e t) (he:∀ whole,isTrue e X.env whole=(do let v <- whole;standAt e.pos;holding [v] (truthy v)):=by intro _;rfl):PT X e (tB t):=by
 intro KJ s σ H Q I hw
 refine isTrue_plain (thn (h KJ s σ H _ I hw) fun v s1 ⟨x,H1,I1,r1,q1⟩=>?_) (he _)
 obtain ⟨d,rfl,q⟩:=q1
 cases r1
 exact QS ⟨H1,I1,q⟩
variable {tA tB':TT} {Zg:List Kv}
def tAnd (t u:TT):TT:=fun σ H Q=>t σ H fun c H1=>if c=true then u σ H1 Q else Q false H1
def tOr (t u:TT):TT:=fun σ H Q=>t σ H fun c H1=>if c=true then Q true H1 else u σ H1 Q
def tNot (t:TT):TT:=fun σ H Q=>t σ H fun c H1=>Q (!c) H1
theorem pw_and1 (ha:PT X a tA):PW X (.BoolOp .And [a] pos) tA:=by
 intro wh KJ s σ H Q I h
 refine isTrue_and (thn (ha KJ s σ H Q I h) fun c s1 e=>?_)
 cases c with
 | true=>exact isTrue_and_nil e
 | false=>exact e
theorem pw_or1 (ha:PT X a tA):PW X (.BoolOp .Or [a] pos) tA:=by
 intro wh KJ s σ H Q I h
 refine isTrue_or (thn (ha KJ s σ H Q I h) fun c s1 e=>?_)
 cases c with
 | false=>exact isTrue_or_nil e
 | true=>exact e
theorem pw_and (ha:PT X a tA) (hb:PW X (.BoolOp .And (b::Zg) pos) tB'):PW X (.BoolOp .And (a::b::Zg) pos) (tAnd tA tB'):=by
 intro wh KJ s σ H Q I h
 refine isTrue_and (thn (ha KJ s σ H _ I h) fun c s1 ⟨H1,I1,q1⟩=>?_)
 cases c with
 | true=>exact hb wh KJ s1 σ H1 Q I1 q1
 | false=>exact ⟨H1,I1,q1⟩
theorem pw_or (ha:PT X a tA) (hb:PW X (.BoolOp .Or (b::Zg) pos) tB'):PW X (.BoolOp .Or (a::b::Zg) pos) (tOr tA tB'):=by
 intro wh KJ s σ H Q I h
 refine isTrue_or (thn (ha KJ s σ H _ I h) fun c s1 ⟨H1,I1,q1⟩=>?_)
 cases c with
 | true=>exact ⟨H1,I1,q1⟩
 | false=>exact hb wh KJ s1 σ H1 Q I1 q1
theorem pt_not (ha:PT X a tA):PT X (.UnaryOp .Not a pos) (tNot tA):=by
 intro KJ s σ H Q I h
 exact isTrue_not (ha KJ s σ H (fun c H1=>Q (!c) H1) I h)
def tAndV (ta tb:TE):TE:=fun σ H Q=>ta σ H fun x H1=>∃ c,x=.bl c/\if c=true then tb σ H1 Q else Q (.bl false) H1
def tNotV (ta:TE):TE:=fun σ H Q=>ta σ H fun x H1=>∃ c,x=.bl c/\Q (.bl (!c)) H1
theorem pe_one {op} {t:TE} (h:PE X a t):PE X (.BoolOp op [a] pos) t:=fun KJ s σ H Q I hw=>BoolOp_one (h KJ s σ H Q I hw)
theorem pe_and (ha:PE X a ta) (hb:PE X (.BoolOp .And (b::Zg) pos) tb):PE X (.BoolOp .And (a::b::Zg) pos) (tAndV ta tb):=by
 intro KJ s σ H Q I h
 refine BoolOp_and (thn (ha KJ s σ H _ I h) fun v s1 ⟨x,H1,I1,r1,q1⟩=>?_)
 obtain ⟨c,rfl,q1⟩:=q1
 cases r1
 refine QS ?_
 cases c with
 | true=>exact hb KJ s1 σ H1 Q I1 q1
 | false=>exact ⟨.bl false,H1,I1,rfl,q1⟩
theorem pe_not (ha:PE X a ta):PE X (.UnaryOp .Not a pos) (tNotV ta):=by
 intro KJ s σ H Q I h
 refine UnaryOp_ (thn (ha KJ s σ H _ I h) fun v s1 ⟨x,H1,I1,r1,q1⟩=>?_)
 obtain ⟨c,rfl,q1⟩:=q1
 cases r1
 exact not_of (QS ⟨.bl (!c),H1,I1,rfl,q1⟩)
def tIf (t:TT) (ta tb:TE):TE:=fun σ H Q=>t σ H fun c H1=>if c=true then ta σ H1 Q else tb σ H1 Q
theorem pe_ifExp {c:Kv} (hc:PT X c tA) (ha:PE X a ta) (hb:PE X b tb):PE X (.IfExp c a b pos) (tIf tA ta tb):=by
 intro KJ s σ H Q I h
 refine wpAny_IfExp (thn (hc KJ s σ H _ I h) fun d s1 ⟨H1,I1,q1⟩=>?_)
 cases d with
 | true=>exact ha KJ s1 σ H1 Q I1 q1
 | false=>exact hb KJ s1 σ H1 Q I1 q1
end
end L2
namespace L2
open PySem PySem.Spec PyProof.Rows
def SqL (K:KC) (H:Hp) (a:Kc) (xs:List V):Prop :=
 Rd H a (.lst xs) \/
  ∃ (o:KA) (KP:Array Ka) (n:Nat),K.lookup a=some o/\o.cls=.type "list"/\o.dict=none/\o.data=.seq KP n/\KP.size<=Kg/\zU xs KP.toList
def SqT (K:KC) (H:Hp) (a:Kc) (xs:List V):Prop :=
 Rd H a (.tup xs) \/
  ∃ (o:KA) (KP:Array Ka) (n:Nat),K.lookup a=some o/\o.cls=.type "tuple"/\o.data=.seq KP n/\KP.size<=Kg/\zU xs KP.toList
def absV:Ka->Option V
 | .none=>some .non
 | .bool b=>some (.bl b)
 | .int i _=>some (.int i)
 | .str x _=>some (.str x)
 | .bytes b _=>some (.byt b)
 | .float b _=>some (.flt b)
 | .ref a=>some (.ref a)
 | .type n=>some (.ty n)
 | _=>none
theorem Zr.abs {x:V} {u:Ka} (r:Zr x u):absV u=some x:=by
 cases x with
 | non=>cases r;rfl
 | bl _=>cases r;rfl
 | int _=>obtain ⟨t,rfl⟩:=r;rfl
 | str _=>obtain ⟨t,rfl⟩:=r;rfl
 | byt _=>obtain ⟨t,rfl⟩:=r;rfl
 | flt _=>obtain ⟨t,rfl⟩:=r;rfl
 | ref _=>cases r;rfl
 | ty _=>cases r;rfl
theorem Zr.inj {x y:V} {u:Ka} (r:Zr x u) (q:Zr y u):x=y:=Option.some.inj (r.abs.symm.trans q.abs)
theorem zU.inj:∀ {xs ys:List V} {us:List Ka},zU xs us->zU ys us->xs=ys
 | _,_,_,.nil,.nil=>rfl
 | _,_,_,.cons r t,.cons r' t'=>by rw [r.inj r',zU.inj t t']
section
variable {X:Cx} {KJ:List (Kc×KA)} {σ:St} {H:Hp} {s:Kb} {a:Kc} {xs ys:List V}
theorem SqL.of {K:KC} (h:H a=some (.lst xs)):SqL K H a xs:=.inl (.inl h)
theorem SqT.of {K:KC} (h:H a=some (.tup xs)):SqT K H a xs:=.inl (.inl h)
theorem Inv.list (I:Inv X KJ σ H s) (h:SqL X.K H a xs):∃ KP:List Ka,zU xs KP/\PlainL s.heap a KP.toArray/\xs.length<=Kg:=by
 rcases h with h | ⟨o,KP,n,hk,hc,hd,hs,hz,r⟩
 ·obtain ⟨z,KP,n,r,e⟩:=h.ok I.hok
  exact ⟨KP,r,⟨_,n,e,rfl,rfl,rfl⟩,z⟩
 ·refine ⟨KP.toList,r,⟨o,n,I.kIn a o hk,hc,hd,by simpa using hs⟩,?_⟩
  have e:=r.length
  simp only [Array.length_toList] at e
  omega
theorem Inv.tuple (I:Inv X KJ σ H s) (h:SqT X.K H a xs):∃ KP:List Ka,zU xs KP/\IsTup s.heap a KP.toArray/\xs.length<=Kg:=by
 rcases h with h | ⟨o,KP,n,hk,hc,hs,hz,r⟩
 ·obtain ⟨z,KP,r,p⟩:=h.ok I.hok
  exact ⟨KP,r,p,z⟩
 ·refine ⟨KP.toList,r,⟨o,I.kIn a o hk,hc,n,by simpa using hs⟩,?_⟩
  have e:=r.length
  simp only [Array.length_toList] at e
  omega
theorem Inv.list_inj (I:Inv X KJ σ H s) (h:SqL X.K H a xs) (h':SqL X.K H a ys):xs=ys:=by
 obtain ⟨KP,r,⟨o,n,e,_,_,d⟩,_⟩:=I.list h
 obtain ⟨its',r',⟨o',n',e',_,_,d'⟩,_⟩:=I.list h'
 rw [e] at e';cases e'
 rw [d] at d'
 injection d' with d1 _
 have:KP=its':=by simpa using congrArg Array.toList d1
 subst this
 exact r.inj r'
theorem Inv.tuple_inj (I:Inv X KJ σ H s) (h:SqT X.K H a xs) (h':SqT X.K H a ys):xs=ys:=by
 obtain ⟨KP,r,⟨o,e,_,n,d⟩,_⟩:=I.tuple h
 obtain ⟨its',r',⟨o',e',_,n',d'⟩,_⟩:=I.tuple h'
 rw [e] at e';cases e'
 rw [d] at d'
 injection d' with d1 _
 have:KP=its':=by simpa using congrArg Array.toList d1
 subst this
 exact r.inj r'
end
abbrev Cx.wish (X:Cx) (E:Ka->Kb->Prop):Cx:={ X with xe:=E }
abbrev Cx.nox (X:Cx):Cx:=X.wish fun _ _=>False
theorem Cx.Ok.wish {X:Cx} (ok:X.Ok) (E:Ka->Kb->Prop):(X.wish E).Ok :=
 ⟨ok.mod,ok.kind,ok.glob,ok.blt,ok.above,ok.inj,ok.has,ok.cab,ok.hd,ok.frames,ok.stk,ok.exf,ok.bs,ok.bsz,ok.noex,ok.exfs,ok.funs,ok.frf,ok.top,ok.tree⟩
theorem Cx.Ok.unwish {X:Cx} {E:Ka->Kb->Prop} (ok:(X.wish E).Ok):X.Ok :=
 ⟨ok.mod,ok.kind,ok.glob,ok.blt,ok.above,ok.inj,ok.has,ok.cab,ok.hd,ok.frames,ok.stk,ok.exf,ok.bs,ok.bsz,ok.noex,ok.exfs,ok.funs,ok.frf,ok.top,ok.tree⟩
section
variable {X:Cx} {KJ:List (Kc×KA)} {σ:St} {H:Hp} {s:Kb} {E:Ka->Kb->Prop}
theorem Inv.wish (I:Inv X KJ σ H s) (E:Ka->Kb->Prop):Inv (X.wish E) KJ σ H s:=⟨I.ok.wish E,I.os,I.bare,I.base,I.loc,I.cell,I.free,I.freeC,I.pin,I.hok,I.len⟩
theorem Inv.unwish (I:Inv (X.wish E) KJ σ H s):Inv X KJ σ H s:=⟨I.ok.unwish,I.os,I.bare,I.base,I.loc,I.cell,I.free,I.freeC,I.pin,I.hok,I.len⟩
theorem SP.unwish {D:Ends} {f:Flow} {s':Kb} (h:SP (X.wish E) KJ D f s'):SP X KJ D f s':=by
 cases f with
 | next=>obtain ⟨σ',H',I,q⟩:=h;exact ⟨σ',H',I.unwish,q⟩
 | brk=>obtain ⟨σ',H',I,q⟩:=h;exact ⟨σ',H',I.unwish,q⟩
 | cont=>obtain ⟨σ',H',I,q⟩:=h;exact ⟨σ',H',I.unwish,q⟩
 | ret u=>obtain ⟨v,σ',H',I,r,q⟩:=h;exact ⟨v,σ',H',I.unwish,r,q⟩
theorem PSs.nox {st:List Kx} {t:TS} (h:PSs X.nox st t):PSs X st t:=fun KJ s σ H D I hw =>
 Q6 (h KJ s σ H D (I.wish _) hw) (fun _ _ q=>q.unwish) fun _ _ z=>False.elim z
end
section
variable {X:Cx} {st:Kx} {Zg:List Kx} {t u:TS} {e:Kv} {te:TE} {pos:KB}
def Ww:TS:=fun D σ H=>D.nx σ H
def Z8 (t u:TS):TS:=fun D σ H=>t { D with nx:=u D } σ H
theorem JM:PSs X [] Ww:=fun _ _ σ H _ I h=>wpAny_execs_nil ⟨σ,H,I,h⟩
theorem zJ (h1:PS X st t) (h2:PSs X Zg u):PSs X (st::Zg) (Z8 t u):=by
 intro KJ s σ H D I h
 refine wpAny_execs_cons (thn (h1 KJ s σ H { D with nx:=u D } I h) fun f s1 q=>?_)
 cases f with
 | next =>
  obtain ⟨σ',H',I',q⟩:=q
  exact h2 KJ s1 σ' H' D I' q
 | ret v=>exact q
 | brk=>exact q
 | cont=>exact q
theorem Zf (h1:PS X st t):PSs X [st] t:=by
 intro KJ s σ H D I h
 refine wpAny_execs_cons (thn (h1 KJ s σ H D I h) fun f s1 q=>?_)
 cases f with
 | next=>exact wpAny_execs_nil q
 | ret v=>exact q
 | brk=>exact q
 | cont=>exact q
theorem Inv.quiet {KJ:List (Kc×KA)} {σ:St} {H:Hp} {s:Kb} (I:Inv X KJ σ H s):interactive X.env=false:=by simp [interactive,I.ok.kind]
def ym (te:TE):TS:=fun D σ H=>te σ H fun _ H1=>D.nx σ H1
theorem zX (he:PE X e te) (hs:Kt e none pos.line X.env=pure false:=by rfl):PS X (.Expr e pos) (ym te):=by
 intro KJ s σ H D I h
 exact wpAny_Expr_any (thn (he KJ s σ H _ I h) fun v s1 ⟨x,H1,I1,r1,q1⟩=>⟨σ,H1,I1,q1⟩) I.quiet hs
def tRet (te:TE):TS:=fun D σ H=>te σ H D.rt
theorem J9 (he:PE X e te):PS X (.Return (some e) pos) (tRet te):=by
 intro KJ s σ H D I h
 exact wpAny_Return_some (thn (he KJ s σ H _ I h) fun v s1 ⟨x,H1,I1,r1,q1⟩=>⟨x,σ,H1,I1,r1,q1⟩)
def JE (c:TT) (t u:TS):TS:=fun D σ H=>c σ H fun b H1=>if b=true then t D σ H1 else u D σ H1
theorem jU {c:Kv} {a b:List Kx} {tc:TT} (hc:PT X c tc) (ha:PSs X a t) (hb:PSs X b u):PS X (.If c a b pos) (JE tc t u):=by
 intro KJ s σ H D I h
 refine wpAny_If (thn (hc KJ s σ H _ I h) fun d s1 ⟨H1,I1,q1⟩=>?_)
 cases d with
 | true=>exact ha KJ s1 σ H1 D I1 q1
 | false=>exact hb KJ s1 σ H1 D I1 q1
end
abbrev TG:=V->St->Hp->(St->Hp->Prop)->Prop
abbrev TGs:=List V->St->Hp->(St->Hp->Prop)->Prop
def PG (X:Cx) (target:Kv) (t:TG):Prop :=
 ∀ (KJ:List (Kc×KA)) (s:Kb) (σ:St) (H:Hp) (v:V) (u:Ka) (Q:St->Hp->Prop),Inv X KJ σ H s->Zr v u->t v σ H Q ->
  Ko (Ky X.prog X.w) X.A (assign target X.env u) (fun _ s'=>∃ σ' H',Inv X KJ σ' H' s'/\Q σ' H') X.xe s
def PGs (X:Cx) (ts:List Kv) (t:TGs):Prop :=
 ∀ (KJ:List (Kc×KA)) (s:Kb) (σ:St) (H:Hp) (vs:List V) (us:List Ka) (Q:St->Hp->Prop),Inv X KJ σ H s->zU vs us->t vs σ H Q ->
  Ko (Ky X.prog X.w) X.A (assignInOrder ((assignEach ts X.env).map (·.2)) us) (fun _ s'=>∃ σ' H',Inv X KJ σ' H' s'/\Q σ' H') X.xe s
abbrev TSet:=V->V->V->Hp->(Hp->Prop)->Prop
def PSet (X:Cx) (t:TSet):Prop :=
 ∀ (KJ:List (Kc×KA)) (s:Kb) (σ:St) (H:Hp) (o i v:V) (ov iv u:Ka) (Q:Hp->Prop),Inv X KJ σ H s->Zr o ov->Zr i iv->Zr v u->t o i v H Q ->
  Ko (Ky X.prog X.w) X.A (setItem ov iv u) (fun _ s'=>∃ H',Inv X KJ σ H' s'/\Q H') X.xe s
section
variable {X:Cx} {pos:KB}
def ZA (i:Nat):TG:=fun v σ H Q=>Q (σ.set i (some v)) H
theorem pg_name {i:Nat} {x:Kw} (hN:X.N.Nodup) (hi:X.N[i]?=some x) (hx:Loc X.env.scope x) (hf:X.fn x=true\/X.env.scope.names.lookup x=some .local:=by first | exact .inl rfl | exact .inr rfl | assumption):PG X (.Name x pos) (ZA i):=by
 intro KJ s σ H v u Q I r h
 exact wpAny_assign_Name (store_ok I hN hi hx r (fun s' I'=>⟨_,H,I',h⟩) hf)
def gNil:TGs:=fun vs σ H Q=>vs=[]/\Q σ H
def gCons (t:TG) (u:TGs):TGs:=fun vs σ H Q=>∃ v r,vs=v::r/\t v σ H fun σ' H'=>u r σ' H' Q
theorem pgs_nil:PGs X [] gNil:=by
 intro KJ s σ H vs us Q I r h
 obtain ⟨e,h⟩:=h
 subst e
 cases r
 exact assignInOrder_nil ⟨σ,H,I,h⟩
theorem pgs_cons {e:Kv} {es:List Kv} {t:TG} {u:TGs} (h1:PG X e t) (h2:PGs X es u)
  (hs:(assignEach (e::es) X.env).map (·.2)=assign e X.env::(assignEach es X.env).map (·.2):=by rfl):PGs X (e::es) (gCons t u):=by
 intro KJ s σ H vs us Q I r h
 obtain ⟨v,vr,e1,h⟩:=h
 subst e1
 cases r with
 | cons r rr =>
  rw [hs]
  refine assignInOrder_cons (thn (h1 KJ s σ H _ _ _ I r h) fun _ s1 ⟨σ1,H1,I1,q1⟩=>?_)
  exact h2 KJ s1 σ1 H1 _ _ Q I1 rr q1
def gTup (K:KC) (n:Nat) (t:TGs):TG:=fun v σ H Q=>∃ a xs,v=.ref a/\SqT K H a xs/\xs.length=n/\t xs σ H Q
theorem pg_tup {es:List Kv} {k:Nat} {t:TGs} {n:Nat} (hc:X.calm=true) (h:PGs X es t)
  (hn:(assignEach es X.env).length=n:=by rfl) (hst:(assignEach es X.env).findIdx? (·.1)=none:=by rfl):PG X (.Tuple es k pos) (gTup X.K n t):=by
 intro KJ s σ H v u Q I r hw
 obtain ⟨a,xs,e1,hq,hl,hw⟩:=hw
 subst e1
 cases r
 obtain ⟨KP,rv,ht,hz⟩:=I.tuple hq
 refine assign_Tuple_tuple (I.ok.hd hc) ht (by simp [hn,<- hl,rv.length]) hst fun h' hx=>?_
 have I1:Inv X KJ σ H { s with heap:=h' }:=I.kept (t':=s.toks) fun b o e=>hx b o (QE (Qr e)) e
 exact h KJ _ σ H xs _ Q I1 (by simpa using rv) hw
def gSub (to ti:TE) (t:TSet):TG:=fun v σ H Q=>to σ H fun o H1=>ti σ H1 fun i H2=>t o i v H2 fun H3=>Q σ H3
theorem pg_sub {o i:Kv} {to ti:TE} {t:TSet} (ho:PE X o to) (hi:PE X i ti) (hs:PSet X t)
  (ha:∀ v,assign (.Subscript o i pos) X.env v=(do
   let ov <- holding [v] (Kz o X.env)
   let iv <- holding [v,ov] (Kz i X.env)
   standAt pos
   holding [v,ov,iv] (setItem ov iv v)
   release [v,ov,iv] []):=by intro _;rfl):PG X (.Subscript o i pos) (gSub to ti t):=by
 intro KJ s σ H v u Q I r h
 rw [ha]
 refine Qb (Pv (thn (ho KJ s σ H _ I h) fun ov s1 ⟨x,H1,I1,r1,q1⟩=>?_))
 refine Qb (Pv (thn (hi KJ s1 σ H1 _ I1 q1) fun iv s2 ⟨y,H2,I2,r2,q2⟩=>?_))
 refine Qb (P3 (Qb (Pv (thn (hs KJ s2 σ H2 x y v ov iv u _ I2 r1 r2 r q2) fun _ s3 ⟨H3,I3,q3⟩=>?_))))
 exact wpAny_release ⟨σ,H3,I3,q3⟩
def yQ (te:TE) (g:TG):TS:=fun D σ H=>te σ H fun x H1=>g x σ H1 D.nx
theorem ps_asg {tg e:Kv} {te:TE} {g:TG} (he:PE X e te) (hg:PG X tg g) (hs:swapsWithSole [tg] e pos.line X.env=pure false:=by rfl) (hw:swappedStores [tg] e X.env=pure none:=by rfl)
  (h1:(assignEach [tg] X.env).map (·.2)=[assign tg X.env]:=by rfl):PS X (.Assign [tg] e pos) (yQ te g):=by
 intro KJ s σ H D I h
 refine wpAny_Assign_stores (thn (he KJ s σ H _ I h) fun v s1 ⟨x,H1,I1,r1,q1⟩=>?_) hs hw
 rw [h1]
 exact thn (hg KJ s1 σ H1 x v _ I1 r1 q1) fun _ s2 q=>q
theorem yY {i:Nat} {x:Kw} {e:Kv} {te:TE} {pos':KB} (hN:X.N.Nodup) (hi:X.N[i]?=some x) (hx:Loc X.env.scope x) (he:PE X e te) (hs:Kt e (some (.Name x pos')) pos.line X.env=pure false:=by rfl) (hf:X.fn x=true\/X.env.scope.names.lookup x=some .local:=by first | exact .inl rfl | exact .inr rfl | assumption) :
  PS X (.Assign [.Name x pos'] e pos) (yQ te (ZA i)):=by
 intro KJ s σ H D I h
 refine wpAny_Assign_Name (thn (he KJ s σ H _ I h) fun v s1 ⟨y,H1,I1,r1,q1⟩=>?_) hs
 exact store_ok I1 hN hi hx r1 (fun s2 I2=>⟨_,H1,I2,q1⟩) hf
end
section
variable {X:Cx} {pos:KB}
end
structure It where
 go:Nat->Hp->Prop
 yld:Nat->Hp->V->Hp->Prop
 stop:Nat->Hp->Prop
def J2 (X:Cx) (KJ:List (Kc×KA)) (H:Hp) (b:Kc):Prop :=
 H b=none/\b≠X.env.locals/\b∉X.fs/\(b∈X.ex\/X.s₀.heap.objs.size<=b)/\(∀ x c,X.env.cells.lookup x=some c->c≠b)/\∀ p∈X.pn++KJ,p.1≠b
theorem Inv.fpOk {X:Cx} {KJ:List (Kc×KA)} {σ:St} {H H':Hp} {s:Kb} {b:Kc} (I:Inv X KJ σ H s) (hb:s.heap.objs.size<=b) (hn:H' b=none):J2 X KJ H' b:=by
 refine ⟨hn,PP (Qx I.lt hb),I.nofs hb,.inr (QA I.sz hb),fun x c e z=>?_,fun p hp z=>?_⟩
 ·obtain ⟨v,q⟩:=I.cell x c e
  exact absurd (Qx q.lt (by rw [z];exact hb)) (QV _)
 ·exact absurd (Qx (Qr (I.pin p hp).1) (by rw [z];exact hb)) (QV _)
structure J1 (P:Ki) (w:Kk) (K:KC) (tg:Kv) (J:It) (fp:List Kc) (it:Kc) (tn:Nat->Kl->Prop):Prop where
 mem:it∈fp
 obj:∀ i h,tn i h->∀ b∈fp,∃ o,h.get? b=some o/\∀ v,o.data≠.cell v
 keep:∀ i h h',tn i h->(∀ b∈fp,∀ o,h.get? b=some o->h'.get? b=some o)->tn i h'
 item:∀ (X:Cx),X.prog=P->X.w=w->X.K=K->X.calm=true->∀ (i:Nat) (KJ:List (Kc×KA)) (s:Kb) (σ:St) (H:Hp) (E:Ka->Kb->Prop),Inv X KJ σ H s->(∀ b∈fp,J2 X KJ H b)->tn i s.heap->J.go i H ->
  Ko (Ky P w) X.A (pyNext (.ref it)) (fun r s1=>∃ u,r=some u /\
   Ko (Ky P w) X.A (letOwnedTupleGo tg (.ref it) u) (fun _ s2=>∃ x H',Inv X KJ σ H' s2/\Zr x u/\J.yld i H x H'/\tn (i+1) s2.heap/\∀ b∈fp,H' b=none) E s1) E s
 done:∀ (X:Cx),X.prog=P->X.w=w->X.K=K->X.calm=true->∀ (i:Nat) (KJ:List (Kc×KA)) (s:Kb) (σ:St) (H:Hp) (E:Ka->Kb->Prop),Inv X KJ σ H s->(∀ b∈fp,J2 X KJ H b)->tn i s.heap->J.stop i H ->
  Ko (Ky P w) X.A (pyNext (.ref it)) (fun r s1=>r=none/\Inv X KJ σ H s1) E s
 self:∀ (A:Kj) (i:Nat) (s:Kb) (Q:Ka->Kb->Prop) (E:Ka->Kb->Prop),tn i s.heap->Q (.ref it) s->Ko (Ky P w) A (pyIter (.ref it)) Q E s
abbrev TI:=St->Hp->(It->Hp->Prop)->Prop
def PIE (X:Cx) (KJ:List (Kc×KA)) (σ:St) (tg:Kv) (R:It->Hp->Prop) (itv:Ka) (s2:Kb):Prop :=
 ∃ (it:Kc) (fp:List Kc) (tn:Nat->Kl->Prop) (J:It) (H':Hp),itv=.ref it/\Inv X KJ σ H' s2/\J1 X.prog X.w X.K tg J fp it tn/\tn 0 s2.heap/\(∀ b∈fp,J2 X KJ H' b)/\R J H'
def PI (X:Cx) (tg iter:Kv) (wi:TI):Prop :=
 ∀ (KJ:List (Kc×KA)) (s:Kb) (σ:St) (H:Hp) (R:It->Hp->Prop),Inv X KJ σ H s->wi σ H R ->
  Ko (Ky X.prog X.w) X.A (Kz iter X.env) (fun v s1=>Ko (Ky X.prog X.w) X.A (pyIter v) (PIE X KJ σ tg R) X.xe s1) X.xe s
theorem go_of {M : Model} {A : Kj} {E : Ka -> Kb -> Prop} {s : Kb} {tg : Kv} {it : Kc} {u : Ka} {o : KA} {n : String} {vs : Array Ka} {Q : Unit -> Kb -> Prop} (ho : s.heap.get? it = some o) (hc : o.cls = .type n) (hd : o.data = .fields vs)
    (hn:["enumerate","zip","dict_itemiterator","dict_reverseitemiterator","odict_iterator","itertools.zip_longest","itertools.pairwise"].contains n=false) (hQ:Q () s):Ko M A (letOwnedTupleGo tg (.ref it) u) Q E s:=by
  unfold letOwnedTupleGo
  cases tg <;> first
    | exact Qn hQ
    | (cases u <;> first
        | exact Qn hQ
        | (refine Qb (wpAny_load ho ?_)
           rw [hc,hd]
           show Ko M A (if (["enumerate","zip","dict_itemiterator","dict_reverseitemiterator","odict_iterator","itertools.zip_longest","itertools.pairwise"].contains n&&vs[0]? == some (rawInt _))=true then _ else _) Q E s
           rw [KR (by intro h;rw [hn,Bool.false_and] at h;cases h)]
           exact Qn hQ))
def Itl (K:KC) (a:Kc):It :=
 ⟨fun i H=>∃ xs x,SqL K H a xs/\xs[i]?=some x,fun i H x H'=>H'=H/\∀ xs,SqL K H a xs->xs[i]?=some x,fun i H=>∃ xs,SqL K H a xs/\xs.length<=i⟩
def Itt (K:KC) (a:Kc):It :=
 ⟨fun i H=>∃ xs x,SqT K H a xs/\xs[i]?=some x,fun i H x H'=>H'=H/\∀ xs,SqT K H a xs->xs[i]?=some x,fun i H=>∃ xs,SqT K H a xs/\xs.length<=i⟩
def Itr (lo:Int) (n:Nat):It:=⟨fun i _=>i<n,fun i H x H'=>H'=H/\x=.int (lo+i),fun i _=>n<=i⟩
theorem turn_list {P:Ki} {w:Kk} {K:KC} {tg:Kv} (a it:Kc):J1 P w K tg (Itl K a) [it] it (fun i h=>h.IsListIter it a i) where
 mem:=by simp
 obj:=fun i h st b hb=>by
  have e:b=it:=by simpa using hb
  subst e
  obtain ⟨o,e,c,d⟩:=st
  exact ⟨o,e,fun v z=>by rw [d] at z;cases z⟩
 keep:=fun i h h' st k=>st.at fun o e=>k it (by simp) o e
 item:=by
  intro X hP hw hK hc i KJ s σ H E I hf st hg
  subst hP hw hK
  obtain ⟨xs,x,hq,hx⟩:=hg
  obtain ⟨KP,rv,p,hz⟩:=I.list hq
  obtain ⟨u,hu,ru⟩:=rv.get hx
  obtain ⟨f0,f1,f2,f3,f4,f5⟩:=hf it (by simp)
  refine wpAny_pyNext_list_item st p.isList (x:=u) (by simpa using hu) fun h' st' sb=>?_
  have I1:Inv X KJ σ H { s with heap:=h' }:=I.turned (t':=s.toks) (fun b o hb e=>(sb.2 b hb).trans e) f0 f1 f3 f4 f5
  obtain ⟨o,e,c,d⟩:=id st'
  exact ⟨u,rfl,go_of (s:={ s with heap:=h' }) e c d (by decide) ⟨x,H,I1,ru,⟨rfl,fun ys hy=>by rw [I.list_inj hy hq];exact hx⟩,st',fun b hb=>(hf b hb).1⟩⟩
 done:=by
  intro X hP hw hK hc i KJ s σ H E I hf st hg
  subst hP hw hK
  obtain ⟨xs,hq,hx⟩:=hg
  obtain ⟨KP,rv,p,hz⟩:=I.list hq
  obtain ⟨f0,f1,f2,f3,f4,f5⟩:=hf it (by simp)
  have hl:=rv.length
  exact wpAny_pyNext_list_end (I.ok.hd hc) st p.isList (by simp;omega) fun h' eb=>⟨rfl,I.turned (t':=s.toks) (fun b o hb e=>eb b o hb e) f0 f1 f3 f4 f5⟩
 self:=fun _ _ _ _ _ st h=>wpAny_pyIter_listiter st h
theorem turn_tuple {P:Ki} {w:Kk} {K:KC} {tg:Kv} (a it:Kc):J1 P w K tg (Itt K a) [it] it (fun i h=>h.IsTupleIter it a i) where
 mem:=by simp
 obj:=fun i h st b hb=>by
  have e:b=it:=by simpa using hb
  subst e
  obtain ⟨o,e,c,d⟩:=st
  exact ⟨o,e,fun v z=>by rw [d] at z;cases z⟩
 keep:=fun i h h' st k=>st.at fun o e=>k it (by simp) o e
 item:=by
  intro X hP hw hK hc i KJ s σ H E I hf st hg
  subst hP hw hK
  obtain ⟨xs,x,hq,hx⟩:=hg
  obtain ⟨KP,rv,p,hz⟩:=I.tuple hq
  obtain ⟨u,hu,ru⟩:=rv.get hx
  obtain ⟨f0,f1,f2,f3,f4,f5⟩:=hf it (by simp)
  refine wpAny_pyNext_tuple_item st (show s.heap.IsTuple a KP.toArray from p) (x:=u) (by simpa using hu) fun h' st' sb=>?_
  have I1:Inv X KJ σ H { s with heap:=h' }:=I.turned (t':=s.toks) (fun b o hb e=>(sb.2 b hb).trans e) f0 f1 f3 f4 f5
  obtain ⟨o,e,c,d⟩:=id st'
  exact ⟨u,rfl,go_of (s:={ s with heap:=h' }) e c d (by decide) ⟨x,H,I1,ru,⟨rfl,fun ys hy=>by rw [I.tuple_inj hy hq];exact hx⟩,st',fun b hb=>(hf b hb).1⟩⟩
 done:=by
  intro X hP hw hK hc i KJ s σ H E I hf st hg
  subst hP hw hK
  obtain ⟨xs,hq,hx⟩:=hg
  obtain ⟨KP,rv,p,hz⟩:=I.tuple hq
  obtain ⟨f0,f1,f2,f3,f4,f5⟩:=hf it (by simp)
  have hl:=rv.length
  exact wpAny_pyNext_tuple_end (I.ok.hd hc) st (show s.heap.IsTuple a KP.toArray from p) (by simp;omega) fun h' eb=>⟨rfl,I.turned (t':=s.toks) (fun b o hb e=>eb b o hb e) f0 f1 f3 f4 f5⟩
 self:=fun _ _ _ _ _ st h=>wpAny_pyIter_tupleiter st h
theorem turn_range {P:Ki} {w:Kk} {K:KC} {tg:Kv} (it:Kc) (lo:Int) (n:Nat):J1 P w K tg (Itr lo n) [it] it (fun i h=>IsRangeIter h it (lo+(i:Nat)*1) ((n:Int) - (i:Nat)) 1) where
 mem:=by simp
 obj:=fun i h st b hb=>by
  have e:b=it:=by simpa using hb
  subst e
  exact ⟨_,st,fun v z=>by
   have z':Data.fields _=Data.cell v:=z
   cases z'⟩
 keep:=fun i h h' st k=>k it (by simp) _ st
 item:=by
  intro X hP hw hK hc i KJ s σ H E I hf st hg
  subst hP hw hK
  obtain ⟨f0,f1,f2,f3,f4,f5⟩:=hf it (by simp)
  have W:=Walks.range (prog:=X.prog) (w:=X.w) (I.ok.hd hc) it lo 1 n
  refine W.item i s _ _ hg st fun v h' tk hv st' kk=>?_
  obtain ⟨t,rfl⟩:=hv
  have I1:Inv X KJ σ H { s with heap:=h',toks:=tk }:=I.turned (fun b o hb e=>kk b o (by simpa using hb) e) f0 f1 f3 f4 f5
  refine ⟨_,rfl,go_of (s:={ s with heap:=h',toks:=tk }) (n:="range_iterator") st' rfl rfl (by decide) ⟨.int (lo+i),H,I1,⟨t,?_⟩,⟨rfl,rfl⟩,st',fun b hb=>(hf b hb).1⟩⟩
  rw [Int.mul_one]
 done:=by
  intro X hP hw hK hc i KJ s σ H E I hf st hg
  subst hP hw hK
  obtain ⟨f0,f1,f2,f3,f4,f5⟩:=hf it (by simp)
  exact wpAny_pyNext_range_end (I.ok.hd hc) st (by have:n<=i:=hg;omega) fun h' eb=>⟨rfl,I.turned (t':=s.toks) (fun b o hb e=>eb b o hb e) f0 f1 f3 f4 f5⟩
 self:=fun _ _ _ _ _ st h=>wpAny_pyIter_rangeiter st h
end L2
namespace L2
open PySem PySem.Spec PyProof.Rows
section
variable {X:Cx} {tg:Kv}
def iList (K:KC) (tl:TE):TI:=fun σ H R=>tl σ H fun x H1=>∃ a,x=.ref a/\(∃ xs,SqL K H1 a xs)/\R (Itl K a) H1
def iTup (K:KC) (tl:TE):TI:=fun σ H R=>tl σ H fun x H1=>∃ a,x=.ref a/\(∃ xs,SqT K H1 a xs)/\R (Itt K a) H1
theorem pi_list {l:Kv} {tl:TE} (hl:PE X l tl):PI X tg l (iList X.K tl):=by
 intro KJ s σ H R I h
 refine thn (hl KJ s σ H _ I h) fun v s1 ⟨x,H1,I1,r1,q1⟩=>?_
 obtain ⟨a,e,⟨xs,hq⟩,q⟩:=q1
 subst e
 cases r1
 obtain ⟨KP,rv,p,hz⟩:=I1.list hq
 refine wpAny_pyIter_list p.isList ?_
 refine ⟨s1.heap.objs.size,[s1.heap.objs.size],_,_,H1,rfl,I1.kept (t':=s1.toks) fun b o e=>Qd _ e,turn_list a _,⟨_,Qo _ rfl,rfl,rfl⟩,fun b hb=>?_,q⟩
 have e:b=s1.heap.objs.size:=by simpa using hb
 subst e
 exact I1.fpOk (Ql _) (I1.hok.fresh (Ql _))
theorem pi_tup {l:Kv} {tl:TE} (hl:PE X l tl):PI X tg l (iTup X.K tl):=by
 intro KJ s σ H R I h
 refine thn (hl KJ s σ H _ I h) fun v s1 ⟨x,H1,I1,r1,q1⟩=>?_
 obtain ⟨a,e,⟨xs,hq⟩,q⟩:=q1
 subst e
 cases r1
 obtain ⟨KP,rv,p,hz⟩:=I1.tuple hq
 refine P6 (show s1.heap.IsTuple a KP.toArray from p) ?_
 refine ⟨s1.heap.objs.size,[s1.heap.objs.size],_,_,H1,rfl,I1.kept (t':=s1.toks) fun b o e=>Qd _ e,turn_tuple a _,⟨_,Qo _ rfl,rfl,rfl⟩,fun b hb=>?_,q⟩
 have e:b=s1.heap.objs.size:=by simpa using hb
 subst e
 exact I1.fpOk (Ql _) (I1.hok.fresh (Ql _))
theorem range_it {KJ:List (Kc×KA)} {σ:St} {H:Hp} {s:Kb} {R:It->Hp->Prop} {E:Ka->Kb->Prop} {lo hi:Int} {t u v:Tok} {tk:Nat} (I:Inv X KJ σ H s) (h1:-(2 ^ 62)<=lo) (h2:lo<2 ^ 62) (h3:-(2 ^ 62)<=hi) (h4:hi<2 ^ 62)
  (q:R (Itr lo (hi - lo).toNat) H):Ko (Ky X.prog X.w) X.A (pyIter (.ref s.heap.objs.size)) (PIE X KJ σ tg R) E { s with heap:=s.heap.push { cls:=.type "range",data:=.fields #[.int lo t,.int hi u,.int 1 v] },toks:=tk }:=by
 refine wpAny_pyIter_range (IsRange.new ..) (small_one h1 h2 h3 h4) ?_
 have I1:Inv X KJ σ H { s with heap:=s.heap.push { cls:=.type "range",data:=.fields #[.int lo t,.int hi u,.int 1 v] },toks:=tk }:=I.kept fun b o e=>Qd _ e
 refine ⟨(s.heap.push { cls:=.type "range",data:=.fields #[.int lo t,.int hi u,.int 1 v] }).objs.size,[(s.heap.push { cls:=.type "range",data:=.fields #[.int lo t,.int hi u,.int 1 v] }).objs.size],_,_,H,rfl,
  I1.kept (t':=tk) fun b o e=>Qd _ e,turn_range _ lo (hi - lo).toNat,?_,fun b hb=>?_,q⟩
 ·have e1:lo+((0:Nat):Int)*1=lo:=by simp
  have e2:(((hi - lo).toNat:Nat):Int) - ((0:Nat):Int)=Builtin.Range.rangeSize lo hi 1:=by rw [rangeSize_one];split <;> omega
  show IsRangeIter _ _ (lo+((0:Nat):Int)*1) ((((hi - lo).toNat:Nat):Int) - ((0:Nat):Int)) 1
  rw [e1,e2]
  exact Qo _ rfl
 ·have e:b=(s.heap.push { cls:=.type "range",data:=.fields #[.int lo t,.int hi u,.int 1 v] }).objs.size:=by simpa using hb
  subst e
  exact I1.fpOk (Ql _) (I1.hok.fresh (Ql _))
def iRng1 (ta:TA):TI:=fun σ H R=>ta σ H fun vs H1=>∃ j:Int,vs=[.int j]/\-(2 ^ 62)<=j/\j<2 ^ 62/\R (Itr 0 j.toNat) H1
theorem pi_range1 {a:Kv} {ta:TA} {p pos:KB} (hg:Gl X "range") (hm:X.mg "range"=none) (ha:PA X [a] ta) (hs:Ke [a] X.env=[(false,Kz a X.env)]:=by rfl):PI X tg (.Call (.Name "range" p) [a] [] pos) (iRng1 ta):=by
 intro KJ s σ H R I h
 refine Call_ (jX I hg hm boot_range (KH (thn (ha pos KJ s σ H _ I h) fun us s1 ⟨vs,H1,I1,r1,q1⟩=>?_) hs rfl))
 obtain ⟨j,e,q1,q2,q⟩:=q1
 subst e
 cases r1 with
 | cons r rr =>
  cases rr
  obtain ⟨t,rfl⟩:=r
  exact call_range_1 (range_it I1 (by omega) (by omega) q1 q2 (by simpa using q))
def tFor (wi:TI) (g:TG) (tb:TS):TS:=fun D σ H=>wi σ H fun J H1=>∃ W:Nat->Nat->St->Hp->Prop,(∃ m,W 0 m σ H1)/\∀ i m σ H,W i m σ H ->
 (J.stop i H/\D.nx σ H)\/(J.go i H/\∃ N:St->Hp->Prop,(∀ σ' H',N σ' H'->∃ m',m'<m/\W (i+1) m' σ' H')/\∀ x H',J.yld i H x H'->g x σ H' fun σ2 H2=>tb { D with nx:=N,ct:=N,bk:=D.nx } σ2 H2)
def WS (fp:List Kc) (h:Kl):List (Kc×KA):=fp.filterMap fun b=>(h.get? b).map fun o=>(b,o)
theorem jx {fp:List Kc} {h:Kl} {b:Kc} {o:KA} (hb:b∈fp) (e:h.get? b=some o):(b,o)∈WS fp h:=List.mem_filterMap.mpr ⟨b,hb,by rw [e];rfl⟩
theorem of_pinsAt {fp:List Kc} {h:Kl} {p:Kc×KA} (hp:p∈WS fp h):p.1∈fp/\h.get? p.1=some p.2:=by
 obtain ⟨b,hb,e⟩:=List.mem_filterMap.mp hp
 cases q:h.get? b with
 | none=>rw [q] at e;cases e
 | some o =>
  rw [q] at e
  have e':(b,o)=p:=Option.some.inj e
  subst e'
  exact ⟨hb,q⟩
theorem Inv.pinned {KJ:List (Kc×KA)} {σ:St} {H:Hp} {s:Kb} {fp:List Kc} (I:Inv X KJ σ H s) (hf:∀ b∈fp,J2 X KJ H b) (ho:∀ b∈fp,∃ o,s.heap.get? b=some o/\∀ v,o.data≠.cell v):Inv X (KJ++WS fp s.heap) σ H s :=
 I.pins_of fun p hp=>(Qq.mp hp).elim (fun z=>I.pin p (QI _ z)) fun z=>by
  obtain ⟨hb,e⟩:=of_pinsAt z
  obtain ⟨f0,f1,f2,_⟩:=hf p.1 hb
  obtain ⟨o,e',d⟩:=ho p.1 hb
  rw [e] at e';cases e'
  exact ⟨e,f0,f1,f2,d⟩
theorem Inv.unpinned {KJ pl:List (Kc×KA)} {σ:St} {H:Hp} {s:Kb} (I:Inv X (KJ++pl) σ H s):Inv X KJ σ H s:=I.pins_of fun p hp=>I.pin p (QI _ (List.mem_append_left _ hp))
theorem ps_for {iter:Kv} {body:List Kx} {wi:TI} {g:TG} {tb:TS} {pos:KB} (hp:PassesOwn (Ky X.prog X.w) X.A X.env X.xe) (hc:X.calm=true) (hi:PI X tg iter wi) (hg:PG X tg g) (hb:PSs X body tb)
  (hs:∀ x,foldedSetIterable iter X.env x=pure x:=by intro _;rfl):PS X (.For tg iter body [] pos) (tFor wi g tb):=by
 intro KJ s σ H D I h
 refine wpAny_For (thn (hi KJ s σ H _ I h) fun v s1 h1=>thn h1 fun itv s2 h2=>?_) hs
 obtain ⟨it,fp,tn,J,H2,e,I2,T,st2,f2,W,⟨m0,w0⟩,turn⟩:=h2
 subst e
 have stat:∀ {H':Hp},(∀ b∈fp,H' b=none)->∀ b∈fp,J2 X KJ H' b:=fun hn b hb=>⟨hn b hb,(f2 b hb).2⟩
 refine codeAny_forLoop_any (fun n s'=>∃ i σ' H',Inv X KJ σ' H' s'/\tn i s'.heap/\(∀ b∈fp,H' b=none)/\W i n σ' H') ?_ m0 ⟨0,σ,H2,I2,st2,fun b hb=>(f2 b hb).1,w0⟩
 rintro n s3 ⟨i,σ3,H3,I3,st3,fr3,w3⟩
 rcases turn i n σ3 H3 w3 with ⟨stop,qn⟩ | ⟨go,N,hN,step⟩
 ·refine Pz hp (thn (T.done X rfl rfl rfl hc i KJ s3 σ3 H3 X.xe I3 (stat fr3) st3 stop) fun r s4 ⟨hr,I4⟩=>?_)
  subst hr
  exact wpAny_execs_nil ⟨σ3,H3,I4,qn⟩
 ·refine Pz hp (thn (T.item X rfl rfl rfl hc i KJ s3 σ3 H3 X.xe I3 (stat fr3) st3 go) fun r s4 ⟨u,hr,h4⟩=>?_)
  subst hr
  refine Pz hp (thn h4 fun _ s5 ⟨x,H5,I5,r5,y5,st5,fr5⟩=>?_)
  have I5':=I5.pinned (stat fr5) (T.obj _ _ st5)
  refine Pz hp (thn (hg _ s5 σ3 H5 x u _ I5' r5 (step x H5 y5)) fun _ s6 ⟨σ6,H6,I6,q6⟩=>?_)
  refine Pz hp (thn (hb _ s6 σ6 H6 _ I6 q6) fun f s7 q7=>?_)
  have again:∀ {σ7:St} {H7:Hp},Inv X (KJ++WS fp s5.heap) σ7 H7 s7->N σ7 H7->∃ m,m<n/\∃ i σ' H',Inv X KJ σ' H' s7/\tn i s7.heap/\(∀ b∈fp,H' b=none)/\W i m σ' H':=fun {σ7 H7} I7 n7=>by
   obtain ⟨m',hm,w7⟩:=hN σ7 H7 n7
   refine ⟨m',hm,i+1,σ7,H7,I7.unpinned,T.keep _ _ _ st5 fun b hb o e=>(I7.pin (b,o) (QI _ (QI _ (jx hb e)))).1,fun b hb=>?_,w7⟩
   obtain ⟨o,e,d⟩:=T.obj _ _ st5 b hb
   exact (I7.pin (b,o) (QI _ (QI _ (jx hb e)))).2.1
  cases f with
  | next=>obtain ⟨σ7,H7,I7,n7⟩:=q7;exact again I7 n7
  | cont=>obtain ⟨σ7,H7,I7,n7⟩:=q7;exact again I7 n7
  | brk=>obtain ⟨σ7,H7,I7,q7⟩:=q7;exact ⟨σ7,H7,I7.unpinned,q7⟩
  | ret v=>obtain ⟨x7,σ7,H7,I7,r7,q7⟩:=q7;exact ⟨x7,σ7,H7,I7.unpinned,r7,q7⟩
end
end L2
namespace L2
open PySem PySem.Spec PyProof.Rows
abbrev R2:=V->V->Hp->VK->Prop
def OpR (X:Cx) (f:Ka->Ka->Sem Ka) (r:R2):Prop :=
 ∀ (KJ:List (Kc×KA)) (s:Kb) (σ:St) (H:Hp) (x y:V) (v u:Ka) (Q:VK),Inv X KJ σ H s->Zr x v->Zr y u->r x y H Q ->
  Ko (Ky X.prog X.w) X.A (f v u) (EP X KJ σ Q) X.xe s
def UnR (X:Cx) (f:Ka->Sem Ka) (r:V->Hp->VK->Prop):Prop :=
 ∀ (KJ:List (Kc×KA)) (s:Kb) (σ:St) (H:Hp) (x:V) (v:Ka) (Q:VK),Inv X KJ σ H s->Zr x v->r x H Q ->
  Ko (Ky X.prog X.w) X.A (f v) (EP X KJ σ Q) X.xe s
def Yp (X:Cx) (f:Ka) (r:List V->Hp->VK->Prop):Prop :=
 ∀ (KJ:List (Kc×KA)) (s:Kb) (σ:St) (H:Hp) (xs:List V) (us:List Ka) (Q:VK),Inv X KJ σ H s->zU xs us->r xs H Q ->
  Ko (Ky X.prog X.w) X.A (call f us) (EP X KJ σ Q) X.xe s
def tOp (r:R2) (ta tb:TE):TE:=fun σ H Q=>ta σ H fun x H1=>tb σ H1 fun y H2=>r x y H2 Q
def tUn (r:V->Hp->VK->Prop) (ta:TE):TE:=fun σ H Q=>ta σ H fun x H1=>r x H1 Q
def rI (C:Int->Int->Prop) (g:Int->Int->V):R2:=fun x y H Q=>∃ i j,x=.int i/\y=.int j/\C i j/\Q (g i j) H
def rI0 (g:Int->Int->V):R2:=fun x y H Q=>∃ i j,x=.int i/\y=.int j/\Q (g i j) H
def rU (g:Int->V):V->Hp->VK->Prop:=fun x H Q=>∃ i,x=.int i/\Q (g i) H
section
variable {X:Cx} {a b c:Kv} {ta tb tc:TE} {pos:KB}
theorem binT (ha:PE X a ta) (hb:PE X b tb) {KJ:List (Kc×KA)} {s:Kb} {σ:St} {H:Hp} {R:V->V->Hp->Prop} (I:Inv X KJ σ H s)
  (h:ta σ H fun x H1=>tb σ H1 fun y H2=>R x y H2) {Q:Ka->Kb->Prop} {f:Ka->Ka->Sem Ka}
  (hf:∀ v u s2 x y H2,Inv X KJ σ H2 s2->Zr x v->Zr y u->R x y H2->Ko (Ky X.prog X.w) X.A (f v u) Q X.xe s2) :
  Ko (Ky X.prog X.w) X.A (Kz a X.env) (fun v s₁=>Ko (Ky X.prog X.w) X.A (Kz b X.env) (fun u s₂=>Ko (Ky X.prog X.w) X.A (f v u) Q X.xe s₂) X.xe s₁) X.xe s:=by
 refine thn (ha KJ s σ H _ I h) fun v s1 ⟨x,H1,I1,r1,q1⟩=>?_
 refine thn (hb KJ s1 σ H1 _ I1 q1) fun u s2 ⟨y,H2,I2,r2,q2⟩=>?_
 exact hf v u s2 x y H2 I2 r1 r2 q2
theorem pe_op {op:Operator} {r:R2} (ho:OpR X (binaryOp op) r) (ha:PE X a ta) (hb:PE X b tb):PE X (.BinOp a op b pos) (tOp r ta tb):=by
 intro KJ s σ H Q I h
 exact wpAny_BinOp (binT ha hb I h fun v u s2 x y H2 I2 rx ry q=>ho KJ s2 σ H2 x y v u Q I2 rx ry q)
theorem JN {op:UnaryOp} {r:V->Hp->VK->Prop} (ho:UnR X (unaryOp op) r) (ha:PE X a ta):PE X (.UnaryOp op a pos) (tUn r ta):=by
 intro KJ s σ H Q I h
 exact UnaryOp_ (thn (ha KJ s σ H _ I h) fun v s1 ⟨x,H1,I1,r1,q1⟩=>ho KJ s1 σ H1 x v Q I1 r1 q1)
theorem opI {f:Ka->Ka->Sem Ka} {C:Int->Int->Prop} {g:Int->Int->Int}
  (rule:∀ (i j:Int) (t u:Tok) (s:Kb) (Q:Ka->Kb->Prop) (E:Ka->Kb->Prop),C i j->Q (.int (g i j) s.toks) { s with toks:=s.toks+1 }->Ko (Ky X.prog X.w) X.A (f (.int i t) (.int j u)) Q E s) :
  OpR X f (rI C fun i j=>.int (g i j)):=by
 intro KJ s σ H x y v u Q I rx ry h
 obtain ⟨i,j,rfl,rfl,hc,q⟩:=h
 obtain ⟨t,rfl⟩:=rx
 obtain ⟨t',rfl⟩:=ry
 exact rule i j t t' s _ _ hc ⟨.int (g i j),H,I.tok _,⟨_,rfl⟩,q⟩
theorem opI0 {f:Ka->Ka->Sem Ka} {g:Int->Int->Int}
  (rule:∀ (i j:Int) (t u:Tok) (s:Kb) (Q:Ka->Kb->Prop) (E:Ka->Kb->Prop),Q (.int (g i j) s.toks) { s with toks:=s.toks+1 }->Ko (Ky X.prog X.w) X.A (f (.int i t) (.int j u)) Q E s) :
  OpR X f (rI0 fun i j=>.int (g i j)):=by
 intro KJ s σ H x y v u Q I rx ry h
 obtain ⟨i,j,rfl,rfl,q⟩:=h
 obtain ⟨t,rfl⟩:=rx
 obtain ⟨t',rfl⟩:=ry
 exact rule i j t t' s _ _ ⟨.int (g i j),H,I.tok _,⟨_,rfl⟩,q⟩
theorem opB0 {f:Ka->Ka->Sem Ka} {g:Int->Int->Bool}
  (rule:∀ (i j:Int) (t u:Tok) (s:Kb) (Q:Ka->Kb->Prop) (E:Ka->Kb->Prop),Q (.bool (g i j)) s->Ko (Ky X.prog X.w) X.A (f (.int i t) (.int j u)) Q E s) :
  OpR X f (rI0 fun i j=>.bl (g i j)):=by
 intro KJ s σ H x y v u Q I rx ry h
 obtain ⟨i,j,rfl,rfl,q⟩:=h
 obtain ⟨t,rfl⟩:=rx
 obtain ⟨t',rfl⟩:=ry
 exact rule i j t t' s _ _ ⟨.bl (g i j),H,I,rfl,q⟩
def CDiv (i j:Int):Prop:=0<j/\j<1073741824
def CMul (i j:Int):Prop:=(-(2 ^ 64)<i/\i<2 ^ 64)\/(-(2 ^ 64)<j/\j<2 ^ 64)
theorem CMul.ok {i j:Int} (h:CMul i j):IntMulOk i j:=by
 rcases h with ⟨h1,h2⟩ | ⟨h1,h2⟩
 ·exact .of_left (intBits_le_64 h1 h2)
 ·exact .of_right (intBits_le_64 h1 h2)
theorem Z1:OpR X (binaryOp .Add) (rI0 fun i j=>.int (i+j)):=opI0 fun _ _ _ _ _ _ _ q=>add_int q
theorem Js:OpR X (binaryOp .Sub) (rI0 fun i j=>.int (i - j)):=opI0 fun _ _ _ _ _ _ _ q=>sub_int q
theorem Yc:OpR X (binaryOp .FloorDiv) (rI CDiv fun i j=>.int (i / j)):=opI fun i j _ _ _ _ _ hc q=>by
 have h1:(0:Int)<j:=hc.1
 have h2:j<1073741824:=hc.2
 exact floordiv_int (by omega) (by rw [Int.fdiv_eq_ediv_of_nonneg i (by omega)];exact q) (.inl (PyProof.noPylong_small (by omega)))
theorem Z4:OpR X (binaryOp .Mod) (rI (fun _ j=>0<j) fun i j=>.int (i % j)):=opI fun i j _ _ _ _ _ hc q=>by
 have h1:(0:Int)<j:=hc
 exact mod_int' (by omega) (by rw [Int.fmod_eq_emod_of_nonneg i (by omega)];exact q)
theorem unI {f:Ka->Sem Ka} {g:Int->Int}
  (rule:∀ (i:Int) (t:Tok) (s:Kb) (Q:Ka->Kb->Prop) (E:Ka->Kb->Prop),Q (.int (g i) s.toks) { s with toks:=s.toks+1 }->Ko (Ky X.prog X.w) X.A (f (.int i t)) Q E s) :
  UnR X f (rU fun i=>.int (g i)):=by
 intro KJ s σ H x v Q I rx h
 obtain ⟨i,rfl,q⟩:=h
 obtain ⟨t,rfl⟩:=rx
 exact rule i t s _ _ ⟨.int (g i),H,I.tok _,⟨_,rfl⟩,q⟩
theorem yU:UnR X (unaryOp .USub) (rU fun i=>.int (-i)):=unI fun _ _ _ _ _ q=>neg_int q
end
def scal:V->V->Bool
 | .non,.non=>true | .non,.int _=>true | .int _,.non=>true | .non,.bl _=>true | .bl _,.non=>true | .non,.str _=>true | .str _,.non=>true
 | .int _,.int _=>true | .bl _,.bl _=>true | .str _,.str _=>true | .byt _,.byt _=>true
 | .int _,.str _=>true | .str _,.int _=>true | .bl _,.str _=>true | .str _,.bl _=>true
 | _,_=>false
def rEq:R2:=fun x y H Q=>scal x y=true/\Q (.bl (decide (x=y))) H
def rNe:R2:=fun x y H Q=>scal x y=true/\Q (.bl (!decide (x=y))) H
theorem dec_int {i j:Int}:decide (V.int i=V.int j)=(i == j):=by
 rw [PR]
 simp
theorem dec_bl {i j:Bool}:decide (V.bl i=V.bl j)=(i == j):=by
 rw [PR]
 simp
theorem dec_str {i j:Kw}:decide (V.str i=V.str j)=(i == j):=by
 rw [PR]
 simp
theorem dec_byt {i j:Array UInt8}:decide (V.byt i=V.byt j)=(i.toList == j.toList):=by
 rw [PR]
 cases i
 cases j
 simp
section
variable {X:Cx} {a b c:Kv} {ta tb tc:TE} {pos:KB}
theorem Zp {KJ:List (Kc×KA)} {σ:St} {H:Hp} {s:Kb} {Q:VK} {k k':Bool} (I:Inv X KJ σ H s) (q:Q (.bl k) H) (e:k=k'):EP X KJ σ Q (.bool k') s:=by
 subst e
 exact ⟨.bl k,H,I,rfl,q⟩
theorem Zv:OpR X (Km .Eq) rEq:=by
 intro KJ s σ H x y v u Q I rx ry h
 obtain ⟨hs,q⟩:=h
 cases x with
 | non =>
  cases rx
  cases y with
  | non=>cases ry;exact PySem.EqNone.eq_none_none (Zp I q (by simp))
  | bl j=>cases ry;exact PySem.EqNone.eq_none_bool (Zp I q (by simp))
  | int j=>obtain ⟨t',rfl⟩:=ry;exact PySem.EqNone.eq_none_int (Zp I q (by simp))
  | str j=>obtain ⟨t',rfl⟩:=ry;exact PySem.EqNone.eq_none_str (Zp I q (by simp))
  | _=>exact absurd (show false=true from hs) Qh
 | bl i =>
  cases rx
  cases y with
  | non=>cases ry;exact PySem.EqNone.eq_bool_none (Zp I q (by simp))
  | bl j=>cases ry;exact eq_bool (Zp I q dec_bl)
  | str j=>obtain ⟨t',rfl⟩:=ry;exact PySem.EqMixed.eq_bool_str (Zp I q (by simp))
  | _=>exact absurd (show false=true from hs) Qh
 | int i =>
  obtain ⟨t,rfl⟩:=rx
  cases y with
  | non=>cases ry;exact PySem.EqNone.eq_int_none (Zp I q (by simp))
  | int j=>obtain ⟨t',rfl⟩:=ry;exact eq_int (Zp I q dec_int)
  | str j=>obtain ⟨t',rfl⟩:=ry;exact PySem.EqMixed.eq_int_str (Zp I q (by simp))
  | _=>exact absurd (show false=true from hs) Qh
 | str i =>
  obtain ⟨t,rfl⟩:=rx
  cases y with
  | non=>cases ry;exact PySem.EqNone.eq_str_none (Zp I q (by simp))
  | bl j=>cases ry;exact PySem.EqMixed.eq_str_bool (Zp I q (by simp))
  | int j=>obtain ⟨t',rfl⟩:=ry;exact PySem.EqMixed.eq_str_int (Zp I q (by simp))
  | str j=>obtain ⟨t',rfl⟩:=ry;exact eq_str (Zp I q dec_str)
  | _=>exact absurd (show false=true from hs) Qh
 | byt i =>
  obtain ⟨t,rfl⟩:=rx
  cases y with
  | byt j=>obtain ⟨t',rfl⟩:=ry;exact PySem.W.eq_bytes (Zp I q dec_byt)
  | _=>exact absurd (show false=true from hs) Qh
 | _=>cases y <;> exact absurd (show false=true from hs) Qh
theorem wB:OpR X (Km .NotEq) rNe:=by
 intro KJ s σ H x y v u Q I rx ry h
 obtain ⟨hs,q⟩:=h
 cases x with
 | non =>
  cases rx
  cases y with
  | non=>cases ry;exact PySem.EqNone.ne_none_none (Zp I q (by simp))
  | bl j=>cases ry;exact PySem.EqNone.ne_none_bool (Zp I q (by simp))
  | int j=>obtain ⟨t',rfl⟩:=ry;exact PySem.EqNone.ne_none_int (Zp I q (by simp))
  | str j=>obtain ⟨t',rfl⟩:=ry;exact PySem.EqNone.ne_none_str (Zp I q (by simp))
  | _=>exact absurd (show false=true from hs) Qh
 | bl i =>
  cases rx
  cases y with
  | non=>cases ry;exact PySem.EqNone.ne_bool_none (Zp I q (by simp))
  | bl j=>cases ry;exact ne_bool (Zp I q (congrArg not dec_bl))
  | str j=>obtain ⟨t',rfl⟩:=ry;exact PySem.EqMixed.ne_bool_str (Zp I q (by simp))
  | _=>exact absurd (show false=true from hs) Qh
 | int i =>
  obtain ⟨t,rfl⟩:=rx
  cases y with
  | non=>cases ry;exact PySem.EqNone.ne_int_none (Zp I q (by simp))
  | int j=>obtain ⟨t',rfl⟩:=ry;exact ne_int (Zp I q (congrArg not dec_int))
  | str j=>obtain ⟨t',rfl⟩:=ry;exact PySem.EqMixed.ne_int_str (Zp I q (by simp))
  | _=>exact absurd (show false=true from hs) Qh
 | str i =>
  obtain ⟨t,rfl⟩:=rx
  cases y with
  | non=>cases ry;exact PySem.EqNone.ne_str_none (Zp I q (by simp))
  | bl j=>cases ry;exact PySem.EqMixed.ne_str_bool (Zp I q (by simp))
  | int j=>obtain ⟨t',rfl⟩:=ry;exact PySem.EqMixed.ne_str_int (Zp I q (by simp))
  | str j=>obtain ⟨t',rfl⟩:=ry;exact ne_str (Zp I q (congrArg not dec_str))
  | _=>exact absurd (show false=true from hs) Qh
 | byt i =>
  obtain ⟨t,rfl⟩:=rx
  cases y with
  | byt j=>obtain ⟨t',rfl⟩:=ry;exact PySem.W.ne_bytes (Zp I q (congrArg not dec_byt))
  | _=>exact absurd (show false=true from hs) Qh
 | _=>cases y <;> exact absurd (show false=true from hs) Qh
theorem op_lt:OpR X (Km .Lt) (rI0 fun i j=>.bl (decide (i<j))):=opB0 fun _ _ _ _ _ _ _ q=>lt_int q
theorem WV:OpR X (Km .LtE) (rI0 fun i j=>.bl (decide (i<=j))):=opB0 fun _ _ _ _ _ _ _ q=>le_int q
theorem jV:OpR X (Km .Gt) (rI0 fun i j=>.bl (decide (j<i))):=opB0 fun _ _ _ _ _ _ _ q=>gt_int q
theorem op_in_str:OpR X (Km .In) (fun x y H Q=>∃ i j,x=.str i/\y=.str j/\Q (.bl (!(Builtin.Str.occurrences j i 0 j.length 1).isEmpty)) H):=by
 intro KJ s σ H x y v u Q I rx ry h
 obtain ⟨i,j,rfl,rfl,q⟩:=h
 obtain ⟨t,rfl⟩:=rx
 obtain ⟨t',rfl⟩:=ry
 exact in_str (Zp I q rfl)
theorem zy (b:Kv) {op:CmpOp} (h:op≠.In:=by decide) (h2:op≠.NotIn:=by decide):behindInMarks op b=false:=by
 have e1:(op == CmpOp.In)=false:=by cases op <;> first | rfl | exact absurd rfl h
 have e2:(op == CmpOp.NotIn)=false:=by cases op <;> first | rfl | exact absurd rfl h2
 cases b <;> simp [behindInMarks,e1,e2]
theorem YM {op:CmpOp} {r:R2} (ho:OpR X (Km op) r) (ha:PE X a ta) (hb:PE X b tb) (hm:behindInMarks op b=false):PE X (.Compare a [op] [b] pos) (tOp r ta tb):=by
 intro KJ s σ H Q I h
 exact wpAny_Compare1 (binT ha hb I h fun v u s2 x y H2 I2 rx ry q=>ho KJ s2 σ H2 x y v u Q I2 rx ry q) hm
def Y2 (t:TE):TT:=fun σ H Q=>t σ H fun x H'=>∃ k,x=.bl k/\Q k H'
theorem YL {op:CmpOp} {r:R2} (ho:OpR X (Km op) r) (ha:PE X a ta) (hb:PE X b tb) (hm:behindInMarks op b=false):PT X (.Compare a [op] [b] pos) (Y2 (tOp r ta tb)):=by
 intro KJ s σ H Q I h
 refine wpAny_isTrue_Compare1 (thn (ha KJ s σ H _ I h) fun v s1 ⟨x,H1,I1,r1,q1⟩=>thn (hb KJ s1 σ H1 _ I1 q1) fun u s2 ⟨y,H2,I2,r2,q2⟩ =>
  thn (ho KJ s2 σ H2 x y v u _ I2 r1 r2 q2) fun c s3 ⟨z,H3,I3,r3,k,e,q3⟩=>?_) hm
 subst e
 cases r3
 exact QS ⟨H3,I3,q3⟩
def Wx (r r':R2) (ta tb tc:TE):TE:=fun σ H Q=>ta σ H fun x H1=>tb σ H1 fun y H2=>r x y H2 fun z H3=>∃ k,z=.bl k /\
 (if k=true then tc σ H3 fun w' H4=>r' y w' H4 Q else Q (.bl false) H3)
theorem pe_chain {op op':CmpOp} {r r':R2} (ho:OpR X (Km op) r) (ho':OpR X (Km op') r') (ha:PE X a ta) (hb:PE X b tb) (hc:PE X c tc)
  (hm:lastMarks [op,op'] [b,c]=false:=by with_unfolding_all rfl):PE X (.Compare a [op,op'] [b,c] pos) (Wx r r' ta tb tc):=by
 intro KJ s σ H Q I h
 refine Compare_chain (thn (ha KJ s σ H _ I h) fun v s1 ⟨x,H1,I1,r1,q1⟩=>chain_link (thn (hb KJ s1 σ H1 _ I1 q1) fun u s2 ⟨y,H2,I2,r2,q2⟩ =>
  thn (ho KJ s2 σ H2 x y v u _ I2 r1 r2 q2) fun d s3 ⟨z,H3,I3,r3,k,e,q3⟩=>?_)) hm
 subst e
 cases r3
 refine QS ?_
 cases k with
 | false=>exact ite_ff ⟨.bl false,H3,I3,rfl,q3⟩
 | true=>exact ite_tt (chain_last (thn (hc KJ s3 σ H3 _ I3 q3) fun w' s4 ⟨z',H4,I4,r4,q4⟩=>ho' KJ s4 σ H4 y z' u w' Q I4 r2 r4 q4))
theorem pt_chain {op op':CmpOp} {r r':R2} (ho:OpR X (Km op) r) (ho':OpR X (Km op') r') (ha:PE X a ta) (hb:PE X b tb) (hc:PE X c tc)
  (hm:lastMarks [op,op'] [b,c]=false:=by with_unfolding_all rfl):PT X (.Compare a [op,op'] [b,c] pos) (Y2 (Wx r r' ta tb tc)):=by
 intro KJ s σ H Q I h
 refine isTrue_chain (thn (ha KJ s σ H _ I h) fun v s1 ⟨x,H1,I1,r1,q1⟩=>test_link (thn (hb KJ s1 σ H1 _ I1 q1) fun u s2 ⟨y,H2,I2,r2,q2⟩ =>
  thn (ho KJ s2 σ H2 x y v u _ I2 r1 r2 q2) fun d s3 ⟨z,H3,I3,r3,k,e,q3⟩=>?_)) hm
 subst e
 cases r3
 refine QS ?_
 cases k with
 | false =>
  obtain ⟨k',e',q'⟩:=q3
  cases e'
  exact ite_ff ⟨H3,I3,q'⟩
 | true =>
  refine ite_tt (test_last (thn (hc KJ s3 σ H3 _ I3 q3) fun w' s4 ⟨z',H4,I4,r4,q4⟩=>thn (ho' KJ s4 σ H4 y z' u w' _ I4 r2 r4 q4) fun d' s5 ⟨z2,H5,I5,r5,k2,e2,q5⟩=>?_))
  subst e2
  cases r5
  exact QS ⟨H5,I5,q5⟩
theorem W5:(Kg:Nat)<2 ^ 63:=by rw [sizeLine_eq];decide
theorem Zi:OpR X (binaryOp .Add) (fun x y H Q=>∃ i j,x=.str i/\y=.str j/\i.length+j.length<=Kg/\Q (.str (i++j)) H):=by
 intro KJ s σ H x y v u Q I rx ry h
 obtain ⟨i,j,rfl,rfl,hz,q⟩:=h
 obtain ⟨t,rfl⟩:=rx
 obtain ⟨t',rfl⟩:=ry
 exact add_str (fun t' tk=>⟨.str (i++j),H,I.tok _,⟨_,rfl⟩,q⟩) hz
theorem JC {x:V} {us:List Ka} (r:zU [x] us):∃ u,us=[u]/\Zr x u:=by
 cases r with
 | cons r1 r2=>cases r2;exact ⟨_,rfl,r1⟩
theorem vals2 {x y:V} {us:List Ka} (r:zU [x,y] us):∃ u w',us=[u,w']/\Zr x u/\Zr y w':=by
 cases r with
 | cons r1 r2 =>
  cases r2 with
  | cons r3 r4=>cases r4;exact ⟨_,_,rfl,r1,r3⟩
theorem call_max2 (hc:X.calm=true):Yp X (.builtin "max") (fun xs H Q=>∃ i j,xs=[.int i,.int j]/\Q (.int (if j > i then j else i)) H):=by
 intro KJ s σ H xs us Q I r h
 obtain ⟨i,j,rfl,q⟩:=h
 obtain ⟨u,w',rfl,⟨t,rfl⟩,⟨t',rfl⟩⟩:=vals2 r
 refine max_two_ints (I.ok.hd hc) fun h' tk k=>⟨_,H,I.kept k,?_,q⟩
 by_cases hj:j > i
 ·rw [KQ hj,KQ hj];exact ⟨_,rfl⟩
 ·rw [KR hj,KR hj];exact ⟨_,rfl⟩
theorem call_int1:Yp X (.type "int") (fun xs H Q=>(∃ i,xs=[.int i]/\Q (.int i) H)\/∃ k,xs=[.bl k]/\Q (.int (if k then 1 else 0)) H):=by
 intro KJ s σ H xs us Q I r h
 rcases h with ⟨i,rfl,q⟩ | ⟨k,rfl,q⟩
 ·obtain ⟨u,rfl,t,rfl⟩:=JC r
  exact call_int_int ⟨.int i,H,I,⟨_,rfl⟩,q⟩
 ·obtain ⟨u,rfl,r1⟩:=JC r
  cases r1
  exact call_int_bool ⟨.int (if k then 1 else 0),H,I.tok _,⟨_,rfl⟩,q⟩
theorem call_str_int:Yp X (.type "str") (fun xs H Q=>∃ i,xs=[.int i]/\i.natAbs.log2<1920/\Q (.str (toString i)) H):=by
 intro KJ s σ H xs us Q I r h
 obtain ⟨i,rfl,hz,q⟩:=h
 obtain ⟨u,rfl,t,rfl⟩:=JC r
 exact PySem.P.str_of_int hz ⟨.str _,H,I.tok _,⟨_,rfl⟩,q⟩
end
end L2
namespace L2
open PySem PySem.Spec PyProof.Rows
structure ObjM (h:Kl) (x dx C:Kc) (mA:Kw->Option Ka):Prop where
 obj:h.get? x=some (KG C dx)
 ns:h.Ns1 dx mA
 ne:dx≠x
theorem lookIn_ns {h:Kl} {dx:Kc} {mA:Kw->Option Ka} (n:h.Ns1 dx mA):∃ od,h.get? dx=some od/\∀ name,PySem.W.lookIn name od=some (mA name):=by
 obtain ⟨o,es,ep,ho,hd,hk,_,hm⟩:=n
 refine ⟨o,ho,fun name=>?_⟩
 have e:=hm name
 unfold nsFind findBy at e
 rw [<- Array.find?_toList] at e
 unfold PySem.W.lookIn
 rw [hd]
 dsimp only
 split
 ·rename_i y q
  rw [q] at e
  exact congrArg some e
 ·rename_i q
  rw [q] at e
  have a:es.toList.any (·.refKey)=false:=by
   rw [List.any_eq_false]
   intro y hy
   obtain ⟨z,t,hkey⟩:=hk y (Array.mem_toList_iff.mp hy)
   simp [DictEntry.refKey,hkey]
  have a':¬ es.toList.any (·.refKey)=true:=by rw [a];exact Qh
  rw [KR a']
  exact congrArg some e
theorem ObjM.look {h:Kl} {x dx C:Kc} {mA:Kw->Option Ka} (I:ObjM h x dx C mA):∃ od,PySem.W.InstAt h x (KG C dx) C (some od)/\∀ name,PySem.W.lookIn name od=some (mA name) :=
 let ⟨od,ho,hl⟩:=lookIn_ns I.ns
 ⟨od,⟨I.obj,rfl,rfl,ho⟩,hl⟩
section
variable {prog:Ki} {w:Kk} {A:Kj} {E:Ka->Kb->Prop} {s:Kb} {K:KC} {x dx C f:Kc} {mA:Kw->Option Ka} {name:Kw} {v:Ka}
theorem get_map {expr:Bool} {Q:Ka->Kb->Prop} (X:K.In s.heap) (I:ObjM s.heap x dx C mA) (hg:PySem.W.plainGet K C name=true) (hh:PySem.W.hasDictIn K C=true)
  (ha:KD K (.ref C) name=some none) (hv:mA name=some v) (hv':PySem.W.handedIn v=true) (h:Q v { s with toks:=s.toks+1 }) :
  Ko (Ky prog w) A (getAttr (.ref x) name expr) Q E s:=by
 obtain ⟨od,J,hl⟩:=I.look
 exact PySem.W.get_value X J (PySem.W.plainGet_of hg).1 (PySem.W.findObj_own hh ha rfl (by rw [hl,hv])) hv' h
theorem get_meth {pl:Sem Bool} {Q:Ka×List Ka->Kb->Prop} (X:K.In s.heap) (I:ObjM s.heap x dx C mA) (hg:PySem.W.plainGet K C name=true)
  (hf:KD K (.ref C) name=some (some (.ref f))) (ht:PySem.W.isFn K (.ref f)=true) (hv:mA name=none) (h:Q (.ref f,[.ref x]) s) :
  Ko (Ky prog w) A (getMethod (.ref x) name pl) Q E s:=by
 obtain ⟨od,J,hl⟩:=I.look
 exact PySem.W.method_fn X J (PySem.W.plainGet_of hg).1 (PySem.W.plainGet_of hg).2 hf (beq_iff_eq.mp ht) (by show (PySem.W.lookIn name od).map (·.isSome)=some false;rw [hl,hv];rfl) h
theorem set_map {ns:List Kw} {Q:Unit->Kb->Prop} (X:K.In s.heap) (I:ObjM s.heap x dx C mA)
  (hs:KD K (.ref C) "__setattr__"=some (some (.builtin "object.__setattr__"))) (hp:PySem.W.plainOver K C=true) (ht:PySem.W.takerIn K C name=some none) (hh:PySem.W.hasDictIn K C=true)
  (hw:PySem.Within mA ns) (hsz:ns.length<=Kg)
  (h:∀ h',ObjM h' x dx C (fun y=>if y=name then some v else mA y)->Heap.SameBut dx s.heap h'->Q () { s with heap:=h',toks:=s.toks+2 }) :
  Ko (Ky prog w) A (setAttr (.ref x) name v) Q E s:=by
 obtain ⟨od,J,hl⟩:=I.look
 refine PySem.W.set_plain X J hs (PySem.W.osa_open (s:={ s with toks:=s.toks+1 }) (r:=none) X J hp ht fun b=>?_)
 obtain ⟨cd,hc,hd'⟩:=PySem.W.any_some hh
 have hx:s.heap.get? x=some ⟨.ref C,some dx,.plain,#[]⟩:=I.obj
 refine Qb (Qn (Qb (Qb (wpAny_loadPart hx (Qb (PySem.W.Looks.here (s:={ s with toks:=s.toks+1 }) (PySem.W.looks_clsIn X hc) ?_))))))
 rw [hd']
 refine Qn (a:=some dx) (Qb (Qn (Qb ?_)))
 refine wpAny_nsSet1 (s:={ s with toks:=s.toks+1 }) I.ns fun h' hn2 hs2=>?_
 obtain ⟨oD,esD,epD,hoD,hdD,hcD⟩:=hn2.count (PySem.Within.cons name v hw)
 refine Qb (wpAny_lookBehind hoD (by rw [hdD];exact pastItsLine_dict (QA hcD (by rw [Qg];omega))) ?_)
 exact Qn (h _ ⟨(hs2.2 _ (Ne.symm I.ne)).trans I.obj,hn2,I.ne⟩ hs2)
theorem make_map {R:Result->Kb->Prop} {vs:List Ka} {kw:List (Kw×Ka)} (X:K.In s.heap) (hm:PySem.W.makesIn K C=true)
  (hi:KD K (.ref C) "__init__"=some (some (.ref f))) (hf:PySem.W.typeIn K (.ref f)=some (.type "function"))
  (h:codeAny (Ky prog w) (A.under (.builtin "type.__call__" ⟨.ref C::vs,kw⟩)) (.call (.ref f) ⟨.ref (s.heap.objs.size+1)::vs,kw⟩) (PySem.W.InitBack (s.heap.objs.size+1) R)
   { s with heap:=(s.heap.push KF).push (KG C s.heap.objs.size) }) :
  codeAny (Ky prog w) A (.call (.ref C) ⟨vs,kw⟩) R s:=by
 obtain ⟨hh,g,d,t,os⟩:=s
 exact PySem.W.make_core (PySem.W.makes_of X hm) (PySem.W.looks_findIn X hi) (fun self=>PySem.W.bind_fn X self hf) (.inl rfl) h
end
def Jf (f:Kw) (v:V):List (Kw×V)->List (Kw×V)
 | []=>[(f,v)]
 | (g,x)::r=>if g=f then (g,v)::r else (g,x)::Jf f v r
theorem wE (f g:Kw) (v:V):∀ fs:List (Kw×V),(Jf f v fs).lookup g=if g=f then some v else fs.lookup g
 | []=>by
  show List.lookup g [(f,v)]=_
  by_cases h:g=f
  ·have hb:(g == f)=true:=beq_iff_eq.mpr h
   simp only [List.lookup,hb,KQ h]
  ·have hb:(g == f)=false:=beq_eq_false_iff_ne.mpr h
   simp only [List.lookup,hb,KR h]
 | (k,x)::r=>by
  have ih:=wE f g v r
  rw [show Jf f v ((k,x)::r)=(if k=f then (k,v)::r else (k,x)::Jf f v r) from rfl]
  by_cases hk:k=f
  ·rw [KQ hk]
   by_cases h:g=k
   ·have hb:(g == k)=true:=beq_iff_eq.mpr h
    simp only [List.lookup,hb,KQ (h.trans hk)]
   ·have hb:(g == k)=false:=beq_eq_false_iff_ne.mpr h
    simp only [List.lookup,hb,KR (fun e:g=f=>h (e.trans hk.symm))]
  ·rw [KR hk]
   by_cases h:g=k
   ·have hb:(g == k)=true:=beq_iff_eq.mpr h
    simp only [List.lookup,hb,KR (fun e:g=f=>hk (h.symm.trans e))]
   ·have hb:(g == k)=false:=beq_eq_false_iff_ne.mpr h
    simp only [List.lookup,hb]
    exact ih
theorem wf (f:Kw) (v:V):∀ fs:List (Kw×V),f∈(Jf f v fs).map (·.1)/\∀ g,g∈fs.map (·.1)->g∈(Jf f v fs).map (·.1)
 | []=>⟨by simp [Jf],fun g h=>by simp at h⟩
 | (k,x)::r=>by
  obtain ⟨i1,i2⟩:=wf f v r
  rw [show Jf f v ((k,x)::r)=(if k=f then (k,v)::r else (k,x)::Jf f v r) from rfl]
  by_cases hk:k=f
  ·rw [KQ hk]
   subst hk
   exact ⟨by simp,fun g h=>by simpa using h⟩
  ·rw [KR hk]
   refine ⟨?_,fun g h=>?_⟩
   ·rw [Qk]
    exact Qc _ i1
   ·rw [Qk] at h ⊢
    rcases Qa.mp h with e | e
    ·exact Qa.mpr (.inl e)
    ·exact Qc _ (i2 g e)
theorem wI (f:Kw) (v:V):∀ fs:List (Kw×V),(Jf f v fs).length<=fs.length+1
 | []=>by simp [Jf]
 | (k,x)::r=>by
  have ih:=wI f v r
  rw [show Jf f v ((k,x)::r)=(if k=f then (k,v)::r else (k,x)::Jf f v r) from rfl]
  by_cases hk:k=f
  ·rw [KQ hk,Qg,Qg];omega
  ·rw [KR hk,Qg,Qg];omega
theorem Jj.some_of {v:V} {o:Option Ka} (r:Jj (some v) o):∃ u,o=some u/\Zr v u:=by
 cases o with
 | none=>exact (show False from r).elim
 | some u=>exact ⟨u,rfl,r⟩
theorem Jj.none_of {o:Option Ka} (r:Jj none o):o=none:=by
 cases o with
 | none=>rfl
 | some u=>exact (show False from r).elim
theorem handed_of {v:V} {u:Ka} (r:Zr v u):PySem.W.handedIn u=true:=by
 cases v with
 | non=>cases (show u=Value.none from r);rfl
 | bl b=>cases (show u=Value.bool b from r);rfl
 | int i=>obtain ⟨t,e⟩:=(show ∃ t,u=Value.int i t from r);cases e;rfl
 | str x=>obtain ⟨t,e⟩:=(show ∃ t,u=Value.str x t from r);cases e;rfl
 | byt b=>obtain ⟨t,e⟩:=(show ∃ t,u=Value.bytes b t from r);cases e;rfl
 | flt b=>obtain ⟨t,e⟩:=(show ∃ t,u=Value.float b t from r);cases e;rfl
 | ref a=>cases (show u=Value.ref a from r);rfl
 | ty n=>cases (show u=Value.type n from r);rfl
section
variable {P:Ki} {w:Kk} {H H':Hp} {h h':Kl} {a C dx:Kc} {fs fs':List (Kw×V)}
theorem ins_get (hok:HOk P w H h) (e:H a=some (.ins C dx fs)):∃ mA,ObjM h a dx C mA/\(∀ f,Jj (fs.lookup f) (mA f))/\PySem.Within mA (fs.map (·.1))/\fs.length<=1000/\H dx=some (.own a):=by
 obtain ⟨d,z,ne,ob,mA,n,r,q⟩:=(show yx P w H h a (.ins C dx fs) from hok a _ e)
 exact ⟨mA,⟨ob,n,ne⟩,r,q,z,d⟩
end
structure Cls (K:KC) (C:Kc):Prop where
 pg:PySem.W.plainGet K C Str.empty=true
 hd:PySem.W.hasDictIn K C=true
 po:PySem.W.plainOver K C=true
 sa:KD K (.ref C) "__setattr__"=some (some (.builtin "object.__setattr__"))
theorem Cls.get {K:KC} {C:Kc} (c:Cls K C) (f:Kw):PySem.W.plainGet K C f=true:=c.pg
def Y0 (K:KC) (C:Kc) (f:Kw):Prop:=KD K (.ref C) f=some none
theorem Y0.taker {K:KC} {C:Kc} {f:Kw} (n:Y0 K C f):PySem.W.takerIn K C f=some none:=by
 unfold PySem.W.takerIn
 rw [show KD K (.ref C) f=some none from n]
 rfl
structure Meth (K:KC) (C:Kc) (m:Kw) (f:Kc):Prop where
 at_:KD K (.ref C) m=some (some (.ref f))
 fn:PySem.W.isFn K (.ref f)=true
 kp:keepIn K (.ref f)=true
section
variable {X:Cx} {KJ:List (Kc×KA)} {σ:St} {H:Hp} {s:Kb} {a C dx:Kc} {fs:List (Kw×V)} {f:Kw} {v:V} {A:Kj} {E:Ka->Kb->Prop}
theorem getattr_ok {b:Bool} {Q:Ka->Kb->Prop} (I:Inv X KJ σ H s) (e:H a=some (.ins C dx fs)) (c:Cls X.K C) (n:Y0 X.K C f) (l:fs.lookup f=some v)
  (h:∀ u s',Inv X KJ σ H s'->Zr v u->Q u s'):Ko (Ky X.prog X.w) A (getAttr (.ref a) f b) Q E s:=by
 obtain ⟨mA,O,r,_,_,_⟩:=ins_get I.hok e
 obtain ⟨u,hu,ru⟩:=Jj.some_of (v:=v) (o:=mA f) (by rw [<- l];exact r f)
 exact get_map I.kIn O (c.get f) c.hd n hu (handed_of ru) (h u _ (I.tok _) ru)
theorem Jt {m:Kw} {g:Kc} {pl:Sem Bool} {Q:Ka×List Ka->Kb->Prop} (I:Inv X KJ σ H s) (e:H a=some (.ins C dx fs)) (c:Cls X.K C) (k:Meth X.K C m g) (l:fs.lookup m=none)
  (h:Q (.ref g,[.ref a]) s):Ko (Ky X.prog X.w) A (getMethod (.ref a) m pl) Q E s:=by
 obtain ⟨mA,O,r,_,_,_⟩:=ins_get I.hok e
 have hn:mA m=none:=Jj.none_of (by rw [<- l];exact r m)
 exact get_meth I.kIn O (c.get m) k.at_ k.fn hn h
theorem setattr_ok {y:V} {u:Ka} {Q:Unit->Kb->Prop} (I:Inv X KJ σ H s) (e:H a=some (.ins C dx fs)) (c:Cls X.K C) (n:Y0 X.K C f) (hl:fs.length<1000) (ry:Zr y u)
  (h:∀ s',Inv X KJ σ (upd H a (.ins C dx (Jf f y fs))) s'->Q () s'):Ko (Ky X.prog X.w) A (setAttr (.ref a) f u) Q E s:=by
 obtain ⟨mA,O,r,wi,_,ho⟩:=ins_get I.hok e
 have hz:(fs.map (·.1)).length<=Kg:=by rw [Qe,sizeLine_eq];omega
 refine set_map I.kIn O c.sa c.po n.taker c.hd wi hz fun h' O' sb=>h _ ?_
 have hd:∃ o,h'.get? dx=some o:=let ⟨o,_,_,e',_⟩:=O'.ns;⟨o,e'⟩
 refine I.write (x:=a) (e:=dx) (by rw [e];exact True.intro) (.inr ho) (fun b q hb z=>(sb.2 b hb).trans z) hd ?_
 refine ⟨by rw [zh O.ne];exact ho,?_,O.ne,O'.obj,_,O'.ns,fun g=>?_,fun g hg=>?_⟩
 ·have:=wI f y fs;omega
 ·show Jj ((Jf f y fs).lookup g) (if g=f then some u else mA g)
  rw [wE]
  by_cases q:g=f
  ·rw [KQ q,KQ q];exact ry
  ·rw [KR q,KR q];exact r g
 ·by_cases q:g=f
  ·rw [q];exact (wf f y fs).1
  ·refine (wf f y fs).2 g (wi g fun z=>hg ?_)
   show (if g=f then some u else mA g)=none
   rw [KR q];exact z
theorem Inv.made (I:Inv X KJ σ H s):Inv X KJ σ (upd (upd H s.heap.objs.size (.own (s.heap.objs.size+1))) (s.heap.objs.size+1) (.ins C s.heap.objs.size []))
  { s with heap:=(s.heap.push KF).push (KG C s.heap.objs.size) }:=by
 have e1:(s.heap.push KF).get? s.heap.objs.size=some KF:=Qo s.heap rfl
 have e2:((s.heap.push KF).push (KG C s.heap.objs.size)).get? (s.heap.objs.size+1)=some (KG C s.heap.objs.size):=by
  have:=Qo (s.heap.push KF) (o:=KG C s.heap.objs.size) rfl
  rwa [QG] at this
 have e3:(s.heap.push KF).Ns s.heap.objs.size (fun _=>none):=⟨KF,#[],_,e1,rfl,(fun e he=>absurd he (by simp)),fun _=>rfl⟩
 have I1:=I.laid (a:=s.heap.objs.size) (o:=.own (s.heap.objs.size+1)) (h':=s.heap.push KF) (t':=s.toks) (fun b u q=>Qd _ q) (Ql _) ⟨_,e1⟩
 refine I1.laid (a:=s.heap.objs.size+1) (o:=.ins C s.heap.objs.size []) (t':=s.toks) (fun b u q=>Qd _ q) (Nat.le_of_eq (QG _ _)) ?_
 have ne:s.heap.objs.size≠s.heap.objs.size+1:=QE (Ps _)
 refine ⟨by rw [zh ne,zm],Q5 _,ne,e2,fun _=>none,(Heap.Ns1.of_empty e3).at fun o q=>Qd _ q,fun _=>True.intro,fun y hy=>absurd rfl hy⟩
theorem attr_of {prog:Ki} {w:Kk} {env:Env} {e:Kv} {f:Kw} {pos:KB} {s:Kb} {Q:Ka->Kb->Prop} (hb:Kp e f env (Kz e env)=Kz e env)
  (h:Ko (Ky prog w) A (Kz e env) (fun o s₁=>Ko (Ky prog w) A (getAttr o f true) Q E s₁) E s):Ko (Ky prog w) A (Kz (.Attribute e f pos) env) Q E s :=
 Attribute_any_ h (by rw [arm_eval_Attribute,hb])
end
def jk (K:KC) (ta:TE) (f:Kw):TE:=fun σ H Q=>ta σ H fun x H1=>∃ a C dx fs v,x=.ref a/\H1 a=some (.ins C dx fs)/\Cls K C/\Y0 K C f/\fs.lookup f=some v/\Q v H1
def sFld (K:KC) (ta tv:TE) (f:Kw):TS:=fun D σ H=>tv σ H fun y H1=>ta σ H1 fun x H2=>∃ a C dx fs,x=.ref a/\H2 a=some (.ins C dx fs)/\Cls K C/\Y0 K C f/\fs.length<1000 /\
 D.nx σ (upd H2 a (.ins C dx (Jf f y fs)))
section
variable {X:Cx} {o e value:Kv} {f:Kw} {pos pos' tpos:KB} {ta tv:TE}
theorem yi (he:PE X e ta) (hb:Kp e f X.env (Kz e X.env)=Kz e X.env):PE X (.Attribute e f pos) (jk X.K ta f):=by
 intro KJ s σ H Q I h
 refine attr_of hb (thn (he KJ s σ H _ I h) fun u s1 ⟨x,H1,I1,rx,a,C,dx,fs,v,ex,ea,c,n,l,q⟩=>?_)
 subst ex
 obtain rfl:u=Value.ref a:=rx
 exact getattr_ok I1 ea c n l fun u' s2 I2 ru=>⟨v,H1,I2,ru,q⟩
theorem ps_fld (ha:PE X o ta) (hv:PE X value tv) (hs:Kt value (some (.Attribute o f pos')) pos.line X.env=pure false):PS X (.Assign [.Attribute o f pos'] value pos) (sFld X.K ta tv f):=by
 intro KJ s σ H D I h
 refine plainObj_wpAny_Assign_Attribute (thn (hv KJ s σ H _ I h) fun u s1 ⟨y,H1,I1,ry,q⟩=>thn (ha KJ s1 σ H1 _ I1 q) fun ov s2 ⟨x,H2,I2,rx,a,C,dx,fs,ex,ea,c,n,l,q2⟩=>?_) hs
 subst ex
 obtain rfl:ov=Value.ref a:=rx
 exact setattr_ok I2 ea c n l ry fun s3 I3=>⟨σ,_,I3,q2⟩
theorem methcall_of {pl:Sem Bool} {m:Kw} {apos:KB} {args:List Kv} {KJ:List (Kc×KA)} {s:Kb} {σ:St} {H:Hp} {Q:Ka->Kb->Prop} {te:TE} (he:PE X e te) (I:Inv X KJ σ H s)
  (h:te σ H fun x H1=>∃ a C dx fs g,x=.ref a/\H1 a=some (.ins C dx fs)/\Cls X.K C/\Meth X.K C m g/\fs.lookup m=none /\
   ∀ s1,Inv X KJ σ H1 s1->Ko (Ky X.prog X.w) X.A (callWith pos (.ref g) [.ref a] (Kq pos (Ke args X.env)) (Kr pos (Ks [] X.env))) Q X.xe s1)
  (ht:Kz (.Call (.Attribute e m apos) args [] pos) X.env=(do
   let ov <- Kz e X.env
   standAt apos.atName
   let (f,first) <- holding [ov] (getMethod ov m pl)
   callWith pos f first (Kq pos (Ke args X.env)) (Kr pos (Ks [] X.env)))) :
  Ko (Ky X.prog X.w) X.A (Kz (.Call (.Attribute e m apos) args [] pos) X.env) Q X.xe s:=by
 refine PySem.W.methodCall_KW (pl:=pl) (thn (he KJ s σ H _ I h) fun u s1 ⟨x,H1,I1,rx,a,C,dx,fs,g,ex,ea,c,k,l,q⟩=>?_) ht
 subst ex
 obtain rfl:u=Value.ref a:=rx
 exact Jt I1 ea c k l (q s1 I1)
end
section
variable {X:Cx} {KJ:List (Kc×KA)} {σ:St} {H:Hp} {s:Kb} {A:Kj} {E:Ka->Kb->Prop} {Q:Ka->Kb->Prop} {c:Ka} {b:Bool}
end
end L2
namespace L2
open PySem PySem.Spec PyProof.Rows
structure Room (k:Nat) (A:Kj):Prop where
 hd:A.handled=none
 dp:A.depth+3*k+5<recursionLimit
 un:A.units+16*k+200<cLine
 gd:A.guards=some []
theorem Room.mono {j k:Nat} {A:Kj} (r:Room k A) (h:j<=k):Room j A:=⟨r.hd,by have:=r.dp;omega,by have:=r.un;omega,r.gd⟩
theorem Room.deeper {k:Nat} {A:Kj} (r:Room (k+1) A) (env:Env):Room k (A.deeper env) :=
 ⟨r.hd,by have:=r.dp;show A.depth+1+3*k+5<_;omega,by have:=r.un;show A.units+3+16*k+200<_;omega,r.gd⟩
theorem make_depth {A:Kj} {C:Kc} {us:List Ka} {kw:List (Kw×Ka)}:(A.under (.builtin "type.__call__" ⟨.ref C::us,kw⟩)).depth=A.depth+1:=by
 first | rfl | simp [Around.under,Code.weight,Code.isCreation,Code.isGuard,Code.isCaller,Code.frames,Code.isFrame,guardIds]
theorem make_units {A:Kj} {C:Kc} {us:List Ka} {kw:List (Kw×Ka)}:(A.under (.builtin "type.__call__" ⟨.ref C::us,kw⟩)).units=A.units+1:=by
 first | rfl | simp [Around.under,Code.cUnits,Code.frames,Code.isFrame]
theorem Room.make {k:Nat} {A:Kj} (r:Room (k+1) A) (C:Kc) (us:List Ka) (kw:List (Kw×Ka)):Room k (A.under (.builtin "type.__call__" ⟨.ref C::us,kw⟩)) :=
 ⟨r.hd,by have:=r.dp;rw [make_depth];omega,by have:=r.un;rw [make_units];omega,(by rw [<- r.gd];first | rfl | kernel_rfl)⟩
theorem Room.depth {k:Nat} {A:Kj} (r:Room k A):A.depth<recursionLimit:=by have:=r.dp;omega
theorem Room.units {k:Nat} {A:Kj} (r:Room k A):A.units+64<cLine:=by have:=r.un;omega
def zW:TA:=fun _ H Q=>Q [] H
def zD (ta:TE) (tr:TA):TA:=fun σ H Q=>ta σ H fun x H1=>tr σ H1 fun xs H2=>Q (x::xs) H2
section
variable {X:Cx} {e:Kv} {es:List Kv} {te:TE} {t:TA} {pos:KB}
theorem zz:PA X [] zW:=fun _ _ _ _ H Q I h=>Calls.spliced_nil ⟨[],H,I,.nil,h⟩
theorem zv (ha:PE X e te) (hr:PA X es t) (hs:Ke (e::es) X.env=(false,Kz e X.env)::Ke es X.env:=by rfl):PA X (e::es) (zD te t):=by
 intro pos KJ s σ H Q I h
 rw [hs]
 show Ko _ _ (spliced ((false,Kz e X.env)::Kq pos (Ke es X.env))) _ _ s
 refine Calls.spliced_cons (thn (ha KJ s σ H _ I h) fun u s1 ⟨x,H1,I1,r1,q1⟩=>?_)
 exact thn (hr pos KJ s1 σ H1 _ I1 q1) fun us s2 ⟨xs,H2,I2,r2,q2⟩=>⟨x::xs,H2,I2,.cons r1 r2,q2⟩
def Wv (t:TA):TE:=fun σ H Q=>t σ H fun xs H1=>xs.length<=Kg/\∀ p,H1 p=none->Q (.ref p) (upd H1 p (.tup xs))
def ji (t:TA):TE:=fun σ H Q=>t σ H fun xs H1=>xs.length<=Kg/\∀ p,H1 p=none->Q (.ref p) (upd H1 p (.lst xs))
theorem jr {x1} (h:PA X es t):PE X (.Tuple es x1 pos) (Wv t):=by
 intro KJ s σ H Q I hq
 refine wpAny_Tuple_spliced (thn (h pos KJ s σ H _ I hq) fun us s1 ⟨xs,H1,I1,r,z,q⟩=>⟨by rw [<- r.length];exact z,?_⟩)
 have hf:H1 s1.heap.objs.size=none:=I1.hok.fresh (Ql _)
 refine ⟨.ref s1.heap.objs.size,upd H1 s1.heap.objs.size (.tup xs),I1.laid (t':=s1.toks) (fun b u e=>Qd _ e) (Ql _) ?_,rfl,q _ hf⟩
 exact ⟨z,us,r,⟨_,Qo _ rfl,rfl,_,rfl⟩⟩
theorem yn (h:PA X es t):PE X (.List es pos) (ji t):=by
 intro KJ s σ H Q I hq
 refine wpAny_List_spliced (thn (h pos KJ s σ H _ I hq) fun us s1 ⟨xs,H1,I1,r,z,q⟩=>⟨by rw [<- r.length];exact z,?_⟩)
 have hf:H1 s1.heap.objs.size=none:=I1.hok.fresh (Ql _)
 refine ⟨.ref s1.heap.objs.size,upd H1 s1.heap.objs.size (.lst xs),I1.laid (t':=s1.toks) (fun b u e=>Qd _ e) (Ql _) ?_,rfl,q _ hf⟩
 exact ⟨z,us,0,r,Qo _ rfl⟩
end
abbrev Sp:=List V->Hp->VK->XK->Prop
abbrev CXT:=List Env->Hp->Kb->XK->Ka->Kb->Prop
structure Env0 (P:Ki) (w:Kk) (K:KC) (mg:Kw->Option Ka) (base:Kl) (A:Kj) (outer:List Env) (s:Kb) (H:Hp):Prop where
 frames:A.frames=some outer
 mod:Mod K mg base
 bs:∀ b o,base.get? b=some o->s.heap.get? b=some o/\H b=none
 bsz:base.objs.size<=s.heap.objs.size
 funs:s.heap.FunFrames base outer
 frf:∀ b∈frs outer,H b=none
 hok:HOk P w H s.heap
 bare:AllBare s.gens
 tree:P.given.tree=none
def CE (outer:List Env) (P:Ki) (w:Kk) (H:Hp) (s:Kb) (Q:VK) (u:Ka) (s':Kb):Prop :=
 ∃ v H',s'.os=s.os/\AllBare s'.gens/\Un (frs outer) [] H H' s.heap s'.heap/\HOk P w H' s'.heap/\Zr v u/\Q v H'
def CR (CX:CXT) (outer:List Env) (P:Ki) (w:Kk) (H:Hp) (s:Kb) (Q:VK) (E:XK) (r:Result) (s':Kb):Prop :=
 match r with
 | .ok (.ret u)=>CE outer P w H s Q u s'
 | .ok _=>False
 | .error e=>CX outer H s E e s'
structure FnOk (P:Ki) (w:Kk) (K:KC) (mg:Kw->Option Ka) (base:Kl) (CX:CXT) (k:Nat) (f:Kc) (fd:Kh) (ps:List Kw) (sp:Sp):Prop where
 len:∀ vs H Q E,sp vs H Q E->vs.length=ps.length
 run:∀ (A:Kj) (outer:List Env) (s:Kb) (H:Hp) (args:Args) (us:List Ka) (vs:List V) (Q:VK) (E:XK),Room k A->Env0 P w K mg base A outer s H->BindsTo s fd args (ps.zip us)->zU vs us->sp vs H Q E ->
  codeAny (Ky P w) A (.call (.ref f) args) (CR CX outer P w H s Q E) s
theorem Env0.make {P:Ki} {w:Kk} {K:KC} {mg:Kw->Option Ka} {base:Kl} {A:Kj} {outer:List Env} {s:Kb} {H:Hp} (e:Env0 P w K mg base A outer s H) (C:Kc) (us:List Ka) (kw:List (Kw×Ka)) :
  Env0 P w K mg base (A.under (.builtin "type.__call__" ⟨.ref C::us,kw⟩)) outer s H:=⟨by first | exact e.frames | (simpa [Around.under,Code.envs,Code.isFrame,pushEnvs] using e.frames),e.mod,e.bs,e.bsz,e.funs,e.frf,e.hok,e.bare,e.tree⟩
section
variable {X:Cx} {KJ:List (Kc×KA)} {σ:St} {H:Hp} {s s':Kb}
theorem Inv.env0 (I:Inv X KJ σ H s):Env0 X.prog X.w X.K X.mg X.base X.A X.stack s H :=
 ⟨I.ok.frames,I.ok.mod,I.bs,QA I.ok.bsz I.sz,I.stack,I.stkFree,I.hok,I.bare,I.ok.tree⟩
theorem Inv.after {Q:VK} {u:Ka} (I:Inv X KJ σ H s) (h:CE X.stack X.prog X.w H s Q u s'):EP X KJ σ Q u s':=by
 obtain ⟨v,H',os,bare,un,hok,r,q⟩:=h
 obtain ⟨hh,g,d,t,os'⟩:=s'
 obtain rfl:os'=s.os:=os
 exact ⟨v,H',I.call (h':=hh) (g':=g) (d':=d) (t':=t) (ch:=[]) un hok bare (fun b z=>absurd z (by simp)),r,q⟩
end
def wz (sp:Sp) (dvs:List V) (E:XK) (t:TA):TE:=fun σ H Q=>t σ H fun vs H1=>sp (vs++dvs) H1 Q E
def wx (C:Kc) (m:Kw) (sp:Sp) (dvs:List V) (E:XK) (ta:TE) (t:TA):TE:=fun σ H Q=>ta σ H fun x H1=>∃ a dx fs,x=.ref a/\H1 a=some (.ins C dx fs)/\fs.lookup m=none /\
 t σ H1 fun vs H2=>sp (x::(vs++dvs)) H2 Q E
def tMake (C:Kc) (sp:Sp) (dvs:List V) (E:XK) (t:TA):TE:=fun σ H Q=>t σ H fun vs H1=>∀ x dx,H1 x=none->H1 dx=none->dx≠x ->
 sp (.ref x::(vs++dvs)) (upd (upd H1 dx (.own x)) x (.ins C dx [])) (fun v H2=>v=.non/\Q (.ref x) H2) E
def YQ (K:KC) (fd:Kh) (ps:List Kw) (ds:List Ka):Prop :=
 ∀ (s:Kb) (us:List Ka),K.In s.heap->(us++ds).length=ps.length->BindsTo s fd ⟨us,[]⟩ (ps.zip (us++ds))
theorem YQ.all {K:KC} {fd:Kh} {ps:List Kw} (h:∀ us:List Ka,us.length=ps.length->bindArgs fd ⟨us,[]⟩=pure (ps.zip us)):YQ K fd ps []:=fun s us _ hl=>by
 rw [QT] at hl ⊢
 exact .of_eq (h us hl)
def Jz (CX:CXT) (X:Cx) (E:XK):Prop:=∀ (KJ:List (Kc×KA)) (σ:St) (H:Hp) (s:Kb) (e:Ka) (s':Kb),Inv X KJ σ H s->CX X.stack H s E e s'->X.xe e s'
section
variable {X:Cx} {CX:CXT} {k:Nat} {f C:Kc} {fd:Kh} {ps:List Kw} {sp:Sp} {dvs:List V} {ds:List Ka} {E:XK} {x m:Kw} {p pos apos:KB} {e o:Kv} {es:List Kv} {ta:TE} {t:TA}
theorem run_fn {KJ:List (Kc×KA)} {σ:St} {H:Hp} {s:Kb} {Q:VK} {us:List Ka} {vs:List V} (F:FnOk X.prog X.w X.K X.mg X.base CX k f fd ps sp) (hr:Room k X.A) (hb:YQ X.K fd ps ds) (hd:zU dvs ds) (hx:Jz CX X E)
  (I:Inv X KJ σ H s) (r:zU vs us) (h:sp (vs++dvs) H Q E):Ko (Ky X.prog X.w) X.A (call (.ref f) us) (EP X KJ σ Q) X.xe s:=by
 have r2:zU (vs++dvs) (us++ds):=r.append hd
 have hl:(us++ds).length=ps.length:=by rw [<- r2.length];exact F.len _ _ _ _ h
 refine wpAny_call (codeAny_mono (F.run X.A X.stack s H ⟨us,[]⟩ (us++ds) (vs++dvs) Q E hr I.env0 (hb s us I.kIn hl) r2 h) fun r s' hq=>?_)
 cases r with
 | error e=>exact hx KJ σ H s e s' I hq
 | ok fl =>
  cases fl with
  | ret u=>exact I.after hq
  | next=>exact False.elim hq
  | brk=>exact False.elim hq
  | cont=>exact False.elim hq
theorem Wk (F:FnOk X.prog X.w X.K X.mg X.base CX k f fd ps sp) (hr:Room k X.A) (hg:Gl X x) (hm:X.mg x=some (.ref f)) (hk:keepIn X.K (.ref f)=true) (hb:YQ X.K fd ps ds) (hd:zU dvs ds) (hx:Jz CX X E)
  (ha:PA X (e::es) t) (hdb:(x == ("__debug__":Kw))=false:=by decide) (he:Ke (e::es) X.env=(false,Kz e X.env)::Ke es X.env:=by rfl) (hpl:(Kq pos (Ke es X.env)).any (·.1)=false:=by rfl) :
  PE X (.Call (.Name x p) (e::es) [] pos) (wz sp dvs E t):=by
 intro KJ s σ H Q I h
 refine Pj (ld_glob I hg hm ?_ hdb)
 refine PySem.W.callWith_K (h₀:=X.base) I.ok.mod.kin hk (thn (ha pos KJ s σ H _ I h) fun us s1 ⟨vs,H1,I1,r,q⟩=>⟨I1.kIn,?_⟩) he hpl
 exact run_fn F hr hb hd hx I1 r q
theorem pe_meth {pl:Sem Bool} (he:PE X o ta) (c:Cls X.K C) (hm:Meth X.K C m f) (F:FnOk X.prog X.w X.K X.mg X.base CX k f fd ps sp) (hr:Room k X.A) (hb:YQ X.K fd ps ds) (hd:zU dvs ds) (hx:Jz CX X E) (ha:PA X (e::es) t)
  (hst:Ke (e::es) X.env=(false,Kz e X.env)::Ke es X.env:=by rfl) (hpl:(Kq pos (Ke es X.env)).any (·.1)=false:=by rfl)
  (ht:Kz (.Call (.Attribute o m apos) (e::es) [] pos) X.env=(do
   let ov <- Kz o X.env
   standAt apos.atName
   let (f,first) <- holding [ov] (getMethod ov m pl)
   callWith pos f first (Kq pos (Ke (e::es) X.env)) (Kr pos (Ks [] X.env))):=by rfl) :
  PE X (.Call (.Attribute o m apos) (e::es) [] pos) (wx C m sp dvs E ta t):=by
 intro KJ s σ H Q I h
 refine PySem.W.methodCall_KW (pl:=pl) (thn (he KJ s σ H _ I h) fun u s1 ⟨x,H1,I1,rx,a,dx,fs,ex,ea,l,q⟩=>?_) ht
 subst ex
 obtain rfl:u=Value.ref a:=rx
 refine Jt I1 ea c hm l ?_
 refine PySem.W.callWith_K (first:=[.ref a]) (h₀:=X.base) I.ok.mod.kin hm.kp (thn (ha pos KJ s1 σ H1 _ I1 q) fun us s2 ⟨vs,H2,I2,r,q2⟩=>⟨I2.kIn,?_⟩) hst hpl
 exact run_fn (us:=.ref a::us) (vs:=.ref a::vs) F hr hb hd hx I2 (.cons rfl r) q2
theorem pe_meth0 {pl:Sem Bool} (he:PE X o ta) (c:Cls X.K C) (hm:Meth X.K C m f) (F:FnOk X.prog X.w X.K X.mg X.base CX k f fd ps sp) (hr:Room k X.A) (hb:YQ X.K fd ps ds) (hd:zU dvs ds) (hx:Jz CX X E)
  (ht:Kz (.Call (.Attribute o m apos) [] [] pos) X.env=(do
   let ov <- Kz o X.env
   standAt apos.atName
   let (f,first) <- holding [ov] (getMethod ov m pl)
   callWith pos f first (Kq pos (Ke [] X.env)) (Kr pos (Ks [] X.env))):=by rfl) :
  PE X (.Call (.Attribute o m apos) [] [] pos) (wx C m sp dvs E ta zW):=by
 intro KJ s σ H Q I h
 refine PySem.W.methodCall_KW (pl:=pl) (thn (he KJ s σ H _ I h) fun u s1 ⟨x,H1,I1,rx,a,dx,fs,ex,ea,l,q⟩=>?_) ht
 subst ex
 obtain rfl:u=Value.ref a:=rx
 refine Jt I1 ea c hm l ?_
 exact PySem.W.callWith_K0 (first:=[.ref a]) I1.kIn hm.kp (run_fn (us:=[.ref a]) (vs:=[.ref a]) F hr hb hd hx I1 (.cons rfl .nil) q)
structure Mk (K:KC) (C f:Kc):Prop where
 makes:PySem.W.makesIn K C=true
 init:KD K (.ref C) "__init__"=some (some (.ref f))
 fn:PySem.W.isFn K (.ref f)=true
 kp:keepIn K (.ref C)=true
theorem run_make {KJ:List (Kc×KA)} {σ:St} {H:Hp} {s:Kb} {Q:VK} {us:List Ka} {vs:List V} (M:Mk X.K C f) (F:FnOk X.prog X.w X.K X.mg X.base CX k f fd ps sp) (hr:Room (k+1) X.A) (hb:YQ X.K fd ps ds) (hd:zU dvs ds)
  (hx:Jz CX X E) (I:Inv X KJ σ H s) (r:zU vs us)
  (h:∀ x dx,H x=none->H dx=none->dx≠x->sp (.ref x::(vs++dvs)) (upd (upd H dx (.own x)) x (.ins C dx [])) (fun v H2=>v=.non/\Q (.ref x) H2) E) :
  Ko (Ky X.prog X.w) X.A (call (.ref C) us) (EP X KJ σ Q) X.xe s:=by
 have hq:=h (s.heap.objs.size+1) s.heap.objs.size (I.hok.fresh (Nat.le_succ _)) (I.hok.fresh (Ql _)) (QE (Ps _))
 have I2:=Inv.made (C:=C) I
 have r2:zU (V.ref (s.heap.objs.size+1)::(vs++dvs)) (Value.ref (s.heap.objs.size+1)::(us++ds)):=.cons rfl (r.append hd)
 have hl:(Value.ref (s.heap.objs.size+1)::us++ds).length=ps.length:=by
  have e:=r2.length
  rw [F.len _ _ _ _ hq] at e
  exact e.symm
 refine wpAny_call (make_map (f:=f) I.kIn M.makes M.init (beq_iff_eq.mp M.fn) (codeAny_mono (F.run _ X.stack _ _ ⟨Value.ref (s.heap.objs.size+1)::us,[]⟩ (Value.ref (s.heap.objs.size+1)::(us++ds)) _ _ E (hr.make C us [])
  (I2.env0.make C us []) (hb _ (Value.ref (s.heap.objs.size+1)::us) I2.kIn hl) r2 hq) fun r s' hq'=>?_))
 cases r with
 | error e=>exact hx KJ σ _ _ e s' I2 hq'
 | ok fl =>
  cases fl with
  | ret u =>
   obtain ⟨v,H',I3,rv,ev,q3⟩:=I2.after hq'
   subst ev
   exact ⟨rv,⟨V.ref (s.heap.objs.size+1),H',I3,rfl,q3⟩⟩
  | next=>exact False.elim hq'
  | brk=>exact False.elim hq'
  | cont=>exact False.elim hq'
theorem pe_make0 (M:Mk X.K C f) (F:FnOk X.prog X.w X.K X.mg X.base CX k f fd ps sp) (hr:Room (k+1) X.A) (hg:Gl X x) (hm:X.mg x=some (.ref C)) (hb:YQ X.K fd ps ds) (hd:zU dvs ds) (hx:Jz CX X E)
  (hdb:(x == ("__debug__":Kw))=false:=by decide):PE X (.Call (.Name x p) [] [] pos) (tMake C sp dvs E zW):=by
 intro KJ s σ H Q I h
 refine Pj (ld_glob I hg hm ?_ hdb)
 exact PySem.W.callWith_K0 I.kIn M.kp (run_make (us:=[]) M F hr hb hd hx I .nil h)
end
section
variable {X:Cx} {CX:CXT} {k:Nat} {f C:Kc} {fd:Kh} {ps ks:List Kw} {sp:Sp} {E:XK} {x m:Kw} {p pos apos kpos:KB} {e o:Kv} {es:List Kv} {kws:List Keyword} {te ta:TE} {t tk:TA} {nm:Option Kw}
variable {g:List Ka->List Ka->List Ka} {gV:List V->List V->List V}
end
structure FnScope (N P:List Kw) (sc:Scope):Prop where
 kind:sc.kind=.function
 co:sc.isCoroutine=false
 gen:sc.isGenerator=false
 nd:N.Nodup
 pre:N.take P.length=P
 par:∀ x∈P,sc.names.lookup x=some .local\/sc.names.lookup x=some .cell
 nofree:∀ y∈sc.names,y.2≠.free
theorem bindL_out {kindOf:Kw->Option Ku} {x:Kw}:∀ {binds:List (Kw×Ka)} {m:Kw->Option Ka},(∀ v,(x,v)∉binds)->bindL kindOf binds m x=m x
 | [],_,_=>rfl
 | (n,v)::r,m,h=>by
  unfold bindL
  rw [bindL_out fun w hw=>h w (Qc _ hw)]
  split
  ·have:x≠n:=by rintro rfl;exact h v Qj
   simp [this]
  ·rfl
theorem bindC_out {kindOf:Kw->Option Ku} {x:Kw}:∀ {binds:List (Kw×Ka)} {m:Kw->Option Ka},(∀ v,(x,v)∉binds)->bindC kindOf binds m x=m x
 | [],_,_=>rfl
 | (n,v)::r,m,h=>by
  unfold bindC
  rw [bindC_out fun w hw=>h w (Qc _ hw)]
  split
  ·rfl
  ·have:x≠n:=by rintro rfl;exact h v Qj
   simp [this]
theorem bindL_get {kindOf:Kw->Option Ku} {x:Kw} {v:Ka}:∀ {P:List Kw} {vs:List Ka} {i:Nat} {m:Kw->Option Ka},P.Nodup->P[i]?=some x->vs[i]?=some v->kindOf x=some .local ->
  bindL kindOf (P.zip vs) m x=some v
 | [],_,_,_,_,h,_,_=>by simp at h
 | _::_,[],_,_,_,_,h,_=>by simp at h
 | p::P,w::vs,0,m,nd,h1,h2,hk=>by
  simp at h1 h2;subst h1;subst h2
  show bindL kindOf ((p,w)::P.zip vs) m p=_
  unfold bindL
  rw [bindL_out fun v hv=>(Qy.mp nd).1 (List.of_mem_zip hv).1,KQ hk]
  simp
 | p::P,w::vs,i+1,m,nd,h1,h2,hk=>by
  show bindL kindOf ((p,w)::P.zip vs) m x=_
  unfold bindL
  exact bindL_get (i:=i) (Qy.mp nd).2 (by simpa using h1) (by simpa using h2) hk
theorem bindC_get {kindOf:Kw->Option Ku} {x:Kw} {v:Ka}:∀ {P:List Kw} {vs:List Ka} {i:Nat} {m:Kw->Option Ka},P.Nodup->P[i]?=some x->vs[i]?=some v->kindOf x≠some .local ->
  bindC kindOf (P.zip vs) m x=some v
 | [],_,_,_,_,h,_,_=>by simp at h
 | _::_,[],_,_,_,_,h,_=>by simp at h
 | p::P,w::vs,0,m,nd,h1,h2,hk=>by
  simp at h1 h2;subst h1;subst h2
  show bindC kindOf ((p,w)::P.zip vs) m p=_
  unfold bindC
  rw [bindC_out fun v hv=>(Qy.mp nd).1 (List.of_mem_zip hv).1,KR hk]
  simp
 | p::P,w::vs,i+1,m,nd,h1,h2,hk=>by
  show bindC kindOf ((p,w)::P.zip vs) m x=_
  unfold bindC
  exact bindC_get (i:=i) (Qy.mp nd).2 (by simpa using h1) (by simpa using h2) hk
def yJ (N:List Kw) (vs:List V):St:=vs.map some++List.replicate (N.length - vs.length) none
def cxOf (CX:CXT) (P:Ki) (w:Kk) (K:KC) (mg:Kw->Option Ka) (base:Kl) (N:List Kw) (qual:Kw) (scope:Scope) (f:Kc) (cd:Ka) (A:Kj) (outer:List Env) (s:Kb) (H:Hp) (E:XK):Cx where
 prog:=P
 w:=w
 K:=K
 mg:=mg
 base:=base
 A:=A.deeper (envOfC qual scope s.heap.objs.size f cd)
 N:=N
 s₀:=s
 P9:=H
 env:=envOfC qual scope s.heap.objs.size f cd
 outer:=outer
 stack:=envOfC qual scope s.heap.objs.size f cd::outer
 ex:=[]
 calm:=true
 fn:=fun _=>true
 pn:=[]
 xe:=fun e s'=>Ko (Ky P w) (A.deeper (envOfC qual scope s.heap.objs.size f cd)) (leaving (envOfC qual scope s.heap.objs.size f cd) e) (fun _ s''=>CX outer H s E e s'') (fun e' s''=>CX outer H s E e' s'') s'
theorem cell_has {sc:Scope} {n:Nat} {x:Kw} (h:sc.names.lookup x=some .cell):∃ c,(cellsFrom n sc.names []).lookup x=some c:=by
 have q:=PySem.W.cellsFrom_some sc.names n [] (.inl h)
 exact PK.mp q
theorem inv_start {CX:CXT} {P:Ki} {w:Kk} {K:KC} {mg:Kw->Option Ka} {base:Kl} {N ps:List Kw} {qual:Kw} {scope:Scope} {f:Kc} {cd:Ka} {A:Kj} {outer:List Env} {s s1:Kb} {H:Hp} {E:XK} {us:List Ka} {vs:List V}
  (S:FnScope N ps scope) (hd:A.handled=none) (e0:Env0 P w K mg base A outer s H) (hl:vs.length=ps.length) (r:zU vs us)
  (x:InCallC s s.heap.objs.size (bindL (envOfC qual scope s.heap.objs.size f cd).kindOf (ps.zip us) fun _=>none) (cellsFrom (s.heap.objs.size+1) scope.names []) (bindC (envOfC qual scope s.heap.objs.size f cd).kindOf (ps.zip us) fun _=>none) s1) :
  Inv (cxOf CX P w K mg base N qual scope f cd A outer s H E) [] (yJ N vs) H s1:=by
 have hpl:ps.length<=N.length:=by have:=congrArg List.length S.pre;rw [Q3] at this;omega
 obtain ⟨h1,tk,rfl,hk⟩:=x.done
 have noA:∀ b:Kc,b∉(cxOf CX P w K mg base N qual scope f cd A outer s H E).ex:=fun b z=>absurd (show b∈([]:List Kc) from z) (by simp)
 refine ⟨⟨e0.mod,S.kind,rfl,rfl,Ql _,fun y z c h1 h2=>?_,fun y hy=>?_,fun y c _ h=>?_,fun _=>hd,Around.frames_deeper e0.frames,.inr ⟨rfl,rfl⟩,fun b z=>absurd z (noA b),e0.bs,e0.bsz,fun b _ _=>noA b,fun b z=>absurd z (noA b),e0.funs,e0.frf,⟨_,_,rfl,S.gen,S.co,rfl,rfl⟩,e0.tree⟩,
  rfl,e0.bare,Un.kept hk,⟨_,x.toInCall.ns,fun i y v h1 h2 h3=>?_⟩,fun y c h=>⟨_,x.cell y c h⟩,e0.hok.fresh (Ql _),fun y c h=>?_,fun p hp=>absurd (show p∈([]:List (Kc×KA)) from hp) (by simp),e0.hok.kept hk,?_⟩
 ·exact name_of_addr x.apart (PySem.mem_of_lookup h1) (PySem.mem_of_lookup h2)
 ·have hy:scope.names.lookup y=some .cell\/scope.names.lookup y=some .free:=hy
  rcases hy with hy | hy
  ·exact cell_has hy
  ·exact absurd rfl (S.nofree _ (PySem.mem_of_lookup hy))
 ·exact Pm (x.above y c (PySem.mem_of_lookup h))
 ·have hi:i<vs.length:=by
   unfold yJ at h2
   by_cases hi:i<vs.length
   ·exact hi
   ·rw [QY (by simpa using hi)] at h2
    rw [Pl] at h2
    split at h2 <;> cases h2
  have ha:vs[i]?=some v:=by
   unfold yJ at h2
   rw [QM (by simpa using hi),QO] at h2
   cases e:vs[i]? with
   | none=>rw [e] at h2;cases h2
   | some a=>rw [e] at h2;cases h2;rfl
  obtain ⟨u,hu,rv⟩:=r.get ha
  have hp:ps[i]?=some y:=by
   rw [<- S.pre,List.getElem?_take_of_lt (by omega)];exact h1
  have ndP:ps.Nodup:=by rw [<- S.pre];exact S.nd.sublist (List.take_sublist _ _)
  refine ⟨u,rv,?_⟩
  rcases S.par y (List.mem_of_getElem? hp) with k | k
  ·exact .inl ⟨k,bindL_get ndP hp hu k⟩
  ·obtain ⟨c,e⟩:=cell_has (n:=s.heap.objs.size+1) k
   refine .inr ⟨.inl k,c,e,?_⟩
   have q:=x.cell y c e
   rw [bindC_get ndP hp hu (by show scope.names.lookup y≠_;rw [k];decide)] at q
   exact q
 ·exact e0.hok.fresh (Pm (x.above y c (PySem.mem_of_lookup h)))
 ·unfold yJ
  show _=N.length
  rw [Qf,Qe,List.length_replicate]
  omega
theorem fn_of {CX:CXT} {P:Ki} {w:Kk} {K:KC} {mg:Kw->Option Ka} {base:Kl} {k:Nat} {f:Kc} {name qual:Kw} {params:Arguments} {body:List Kx} {scope:Scope} {dV kV doc pm cdv ct oc:Ka} {an od:Option Kc}
  {osl:Array (Option Ka)} {N ps:List Kw} {sp:Sp} (lk:K.lookup f=some ⟨oc,od,.func (fnOf name qual params body scope dV kV doc pm an cdv ct),osl⟩) (hcd:codeIn K cdv qual=true) (S:FnScope N ps scope)
  (len:∀ vs H Q E,sp vs H Q E->vs.length=ps.length)
  (hbody:∀ (A:Kj) (outer:List Env) (s:Kb) (H:Hp) (vs:List V) (Q:VK) (E:XK),Room k (A.deeper (envOfC qual scope s.heap.objs.size f cdv))->sp vs H Q E ->
   ∃ t,PSs (cxOf CX P w K mg base N qual scope f cdv A outer s H E) body t/\t { nx:=fun _ H'=>Q .non H',rt:=Q } (yJ N vs) H) :
  FnOk P w K mg base CX (k+1) f (fnOf name qual params body scope dV kV doc pm an cdv ct) ps sp:=by
 refine ⟨len,fun A outer s H args us vs Q E hr e0 hb r hsp=>?_⟩
 have hl:=len _ _ _ _ hsp
 have KX:K.In s.heap:=e0.mod.kin.keeps fun b o e=>(e0.bs b o e).1
 have lim:s.heap.NoLimit:=e0.mod.nolimit.keeps fun b o e=>(e0.bs b o e).1
 have hkind:∀ y∈ps.zip us,scope.names.lookup y.1=some .local\/(scope.names.lookup y.1=some .cell/\((cellsFrom (s.heap.objs.size+1) scope.names []).lookup y.1).isSome=true):=fun ⟨n,v⟩ hy=>by
  rcases S.par n (List.of_mem_zip hy).1 with q | q
  ·exact .inl q
  ·exact .inr ⟨q,PySem.W.cellsFrom_some _ _ _ (.inl q)⟩
 refine codeAny_call_function hr.depth (KX _ _ lk) rfl S.co S.gen rfl (PySem.W.codeRec_of KX hcd) (hb _ _ _ _ ?_)
 refine wpAny_newFunctionEnv_cells S.kind hkind fun env he s1 x=>?_
 subst he
 refine ⟨lim.keeps x.toInCall.keep,codeAny_func ?_⟩
 obtain ⟨t,ht,hq⟩:=hbody A outer s H vs Q E (hr.deeper _) hsp
 have I:Inv (cxOf CX P w K mg base N qual scope f cdv A outer s H E) [] (yJ N vs) H s1:=inv_start S hr.hd e0 hl r x
 refine Q6 (ht [] s1 (yJ N vs) H _ I hq) (fun fl s' hs=>?_) fun e s' hs=>hs
 have fin:∀ {σ':St} {H':Hp} {v:V} {u:Ka},Inv (cxOf CX P w K mg base N qual scope f cdv A outer s H E) [] σ' H' s'->Zr v u->Q v H'->CE outer P w H s Q u s' :=
  fun {σ' H' v u} J rv q=>⟨v,H',J.os,J.bare,J.base,J.hok,rv,q⟩
 cases fl with
 | ret u =>
  obtain ⟨v,σ',H',J,rv,q⟩:=hs
  exact fin J rv q
 | next =>
  obtain ⟨σ',H',J,q⟩:=hs
  exact fin (v:=V.non) (u:=Value.none) J rfl q
 | brk =>
  obtain ⟨_,_,_,q⟩:=hs
  exact False.elim q
 | cont =>
  obtain ⟨_,_,_,q⟩:=hs
  exact False.elim q
end L2
namespace L2
open PySem PySem.Spec PyProof.Rows
section
variable {X:Cx} {x:Kw} {p pos:KB} {e:Kv} {es:List Kv} {t:TA} {id T:String} {r:List V->Hp->VK->Prop}
def tCB (r:List V->Hp->VK->Prop) (t:TA):TE:=fun σ H Q=>t σ H fun vs H1=>r vs H1 Q
theorem ZW (hc:Yp X (.builtin id) r) (hg:Gl X x) (hm:X.mg x=none) (hv:bootBuiltins x=some (.builtin id)) (ha:PA X (e::es) t) (hn:x≠"__name__":=by decide) (hdb:(x == ("__debug__":Kw))=false:=by decide)
  (he:Ke (e::es) X.env=(false,Kz e X.env)::Ke es X.env:=by rfl) (hpl:(Kq pos (Ke es X.env)).any (·.1)=false:=by rfl):PE X (.Call (.Name x p) (e::es) [] pos) (tCB r t):=by
 intro KJ s σ H Q I h
 refine Pj (jX I hg hm hv ?_ hn hdb)
 exact PyProof.Rows.callWith_builtin1 (thn (ha pos KJ s σ H _ I h) fun us s1 ⟨vs,H1,I1,r1,q1⟩=>hc KJ s1 σ H1 vs us Q I1 r1 q1) he hpl
theorem pe_callTy (hc:Yp X (.type T) r) (hg:Gl X x) (hm:X.mg x=none) (hv:bootBuiltins x=some (.type T)) (ha:PA X (e::es) t) (hn:x≠"__name__":=by decide) (hdb:(x == ("__debug__":Kw))=false:=by decide)
  (he:Ke (e::es) X.env=(false,Kz e X.env)::Ke es X.env:=by rfl) (hpl:(Kq pos (Ke es X.env)).any (·.1)=false:=by rfl):PE X (.Call (.Name x p) (e::es) [] pos) (tCB r t):=by
 intro KJ s σ H Q I h
 refine Pj (jX I hg hm hv ?_ hn hdb)
 exact KH (thn (ha pos KJ s σ H _ I h) fun us s1 ⟨vs,H1,I1,r1,q1⟩=>hc KJ s1 σ H1 vs us Q I1 r1 q1) he hpl
end
end L2
namespace HT
open PySem PyProof.Rows
section
open PySem.SeqAt
open PySem.AutoSeq1 (wpAny_loadPart')
open PySem.MeetsSeq PySem.MeetsSeq2 PySem.MeetsSeq3
end
section
variable {prog:Ki} {w:Kk} {A:Kj} {E:Ka->Kb->Prop} {s:Kb}
theorem cat_tup {t b:Kc} {vs ws:List Ka} {Q:Ka->Kb->Prop} (ht:IsTup s.heap t vs.toArray) (hb:IsTup s.heap b ws.toArray) (hv:vs≠[])
  (h1:ws=[]->Q (.ref t) s) (h2:ws≠[]->Q (.ref s.heap.objs.size) { s with heap:=s.heap.push { cls:=.type "tuple",data:=.seq (vs++ws).toArray } })
  (hsz:vs.length+ws.length<=Kg):Ko (Ky prog w) A (binaryOp .Add (.ref t) (.ref b)) Q E s:=by
 obtain ⟨⟨cls,dd,data,sl⟩,ho,hc,n,hd⟩:=id ht
 obtain ⟨⟨cls2,dd2,data2,sl2⟩,ho2,hc2,n2,hd2⟩:=id hb
 simp only at hc hd hc2 hd2
 subst hc hd hc2 hd2
 have e:vs.toArray++ws.toArray=(vs++ws).toArray:=by simp
 by_cases hw:ws=[]
 ·exact concat_meets ⟨_,ho,rfl⟩ ⟨_,ho2,rfl⟩ noFill_tuple_add seq_tuple_add PySem.F.slot_tuple_add PySem.F.entry_tuple_add (PySem.F.args_tuple_add_2 _ _)
   (tuple_addW1 t b vs.toArray ws.toArray n n2 dd dd2 sl sl2 (by simpa using hv) (by simp [hw])) ⟨ho,ho2,h1 hw⟩
 ·refine concat_meets ⟨_,ho,rfl⟩ ⟨_,ho2,rfl⟩ noFill_tuple_add seq_tuple_add PySem.F.slot_tuple_add PySem.F.entry_tuple_add (PySem.F.args_tuple_add_2 _ _)
   (tuple_addW2 t b vs.toArray ws.toArray n n2 dd dd2 sl sl2 (by simpa using hv) (by simpa using hw) (by rw [Qp,Qp];exact hsz)) ⟨ho,ho2,?_⟩
  rw [e]
  exact h2 hw
def sIx (n d:Nat):Option Int->Nat
 | none=>d
 | some v=>if v<0 then (v+(n:Int)).toNat else min v.toNat n
theorem sIx_none (n d:Nat):sIx n d none=d:=rfl
theorem sIx_nat (n d k:Nat):sIx n d (some (k:Int))=min k n:=by
 show (if (k:Int)<0 then ((k:Int)+(n:Int)).toNat else min (k:Int).toNat n)=min k n
 rw [KR (by omega),Po]
theorem sIx_le (n d:Nat) (hd:d<=n) (o:Option Int):sIx n d o<=n:=by
 cases o with
 | none=>exact hd
 | some v =>
  show (if v<0 then (v+(n:Int)).toNat else min v.toNat n)<=n
  by_cases hv:v<0
  ·rw [KQ hv];omega
  ·rw [KR hv];exact Nat.min_le_right _ _
theorem clip_eq (v:Int) (n d:Nat):(if v<0 then max (v+(n:Int)) 0 else min v (n:Int))=((sIx n d (some v):Nat):Int):=by
 show (if v<0 then max (v+(n:Int)) 0 else min v (n:Int))=(((if v<0 then (v+(n:Int)).toNat else min v.toNat n):Nat):Int)
 by_cases hv:v<0
 ·simp only [KQ hv];omega
 ·simp only [KR hv];omega
theorem adjust_gen (lo hi:Option Int) (n:Nat):Builtin.Slice.sliceAdjust lo hi 1 (n:Int)=(((sIx n 0 lo:Nat):Int),((sIx n n hi:Nat):Int)):=by
 have h1:¬ ((1:Int)<0):=by omega
 unfold Builtin.Slice.sliceAdjust
 simp only [h1,if_false]
 refine Prod.ext ?_ ?_
 ·cases lo with
  | none=>rfl
  | some v=>exact clip_eq v n 0
 ·cases hi with
  | none=>rfl
  | some v=>exact clip_eq v n n
theorem places_gen (i j:Nat):Builtin.Slice.slicePlaces (i:Int) (j:Int) 1=j - i:=by
 unfold Builtin.Slice.slicePlaces
 have h1:(1:Int) > 0:=by omega
 simp only [h1,if_true,Int.ediv_one]
 split <;> omega
theorem WG {v:Ka} {o:Option Int} {Q:Option Int->Kb->Prop} (p:IsPart v o) (h:Q o s):Ko (Ky prog w) A (Builtin.Slice.slicePartIndex v) Q E s:=by
 cases p with
 | none=>exact slicePart_none h
 | int i t=>exact slicePart_int h
theorem J3 {sl:Kc} {vl vu:Ka} {lo hi:Option Int} {n:Nat} {Q:Int×Int×Nat->Kb->Prop} (hs:s.heap.IsSliceOf sl vl vu .none) (pl:IsPart vl lo) (pu:IsPart vu hi)
  (h:Q (((sIx n 0 lo:Nat):Int),1,sIx n n hi - sIx n 0 lo) s):Ko (Ky prog w) A (Builtin.Slice.sliceApplied (.ref sl) (pure (n:Int))) Q E s:=by
 obtain ⟨os,hos,hcs,hds⟩:=id hs
 unfold Builtin.Slice.sliceApplied Builtin.Slice.sliceFields
 refine Qb (Qb (QU hos hds (x:=vl) rfl (Qb (QU hos hds (x:=vu) rfl (Qb (QU hos hds (x:=.none) rfl (Qn ?_)))))))
 refine Qb (slicePart_none ?_)
 show Ko _ _ (if ((1:Int) == 0)=true then _ else _) _ _ s
 rw [KR (by decide)]
 refine Qb (WG pl (Qb (WG pu (Qb (Qn ?_)))))
 show Ko _ _ (match Builtin.Slice.sliceAdjust lo hi 1 (n:Int) with | (lo,hi)=>pure (lo,(1:Int),Builtin.Slice.slicePlaces lo hi 1)) _ _ s
 rw [adjust_gen lo hi n]
 show Ko _ _ (pure (((sIx n 0 lo:Nat):Int),(1:Int),Builtin.Slice.slicePlaces ((sIx n 0 lo:Nat):Int) ((sIx n n hi:Nat):Int) 1)) _ _ s
 rw [places_gen]
 exact Qn h
theorem pick_gen (xs:Array Ka) (i k:Nat):((List.range k).filterMap fun (m:Nat)=>xs[((i:Int)+(m:Int)*1).toNat]?).toArray=((xs.toList.drop i).take k).toArray:=by
 have e:(fun (m:Nat)=>xs[((i:Int)+(m:Int)*1).toNat]?)=fun m=>xs[i+m]?:=by
  funext m
  have:((i:Int)+(m:Int)*1).toNat=i+m:=by omega
  rw [this]
 rw [e]
 have:=pick_run xs i k
 rw [List.filterMap_map] at this
 have e2:((fun x=>xs[x]?)∘fun x=>i+x)=fun m=>xs[i+m]?:=rfl
 rw [e2] at this
 rw [this]
theorem getItem_tuple_cut {t sl:Kc} {items:Array Ka} {vl vu:Ka} {lo hi:Option Int} {Q:Ka->Kb->Prop} (ht:IsTup s.heap t items) (hs:s.heap.IsSliceOf sl vl vu .none) (pl:IsPart vl lo) (pu:IsPart vu hi)
  (hw:¬ (sIx items.size 0 lo=0/\sIx items.size items.size hi=items.size))
  (h:Q (.ref s.heap.objs.size) { s with heap:=s.heap.push { cls:=.type "tuple",data:=.seq ((items.toList.drop (sIx items.size 0 lo)).take (sIx items.size items.size hi - sIx items.size 0 lo)).toArray } })
  (hsz:items.size<=Kg):Ko (Ky prog w) A (getItem (.ref t) (.ref sl)) Q E s:=by
 have htake:sizeOk (.seq ((items.toList.drop (sIx items.size 0 lo)).take (sIx items.size items.size hi - sIx items.size 0 lo)).toArray):=by
  show ((items.toList.drop (sIx items.size 0 lo)).take (sIx items.size items.size hi - sIx items.size 0 lo)).toArray.size<=Kg
  rw [Qp,Q3,Pe,Array.length_toList]
  omega
 have hj:sIx items.size items.size hi<=items.size:=sIx_le _ _ (Ql _) hi
 obtain ⟨os,hos,hcs,hds⟩:=id hs
 have hTs:s.TypeIs (.ref sl) "slice":=⟨os,hos,hcs⟩
 unfold getItem
 try with_reducible refine Pv ?_
 first | refine Qb (Qn ?_) | skip
 refine Qb (wpAny_sequenceKey ht.typeIs (by decide) ?_)
 refine Qb (Q7 (name:=Str.ofString "__getitem__") ht.typeIs PyProof.Rows.slot_tuple_getitem
  (Pr PyProof.Rows.slot_tuple_getitem ht.typeIs entry_tuple_getitem ?_ (args_tuple_getitem _ _)))
 show Ko _ _ (Builtin.Tuple.tupleItemsOf (.ref t) >>= _) _ _ s
 refine Qb (tupleItemsOf_ ht ?_)
 refine Qb (wpAny_typeOf hTs ?_)
 rw [KQ (by decide)]
 refine Qb (J3 hs pl pu ?_)
 have hno:¬ ((((sIx items.size 0 lo:Nat):Int) == 0&&(1:Int) == 1&&(sIx items.size items.size hi - sIx items.size 0 lo) == items.size)=true):=by
  intro q
  rw [QC,QC] at q
  have q1:((sIx items.size 0 lo:Nat):Int)=0:=eq_of_beq q.1.1
  have q2:sIx items.size items.size hi - sIx items.size 0 lo=items.size:=eq_of_beq q.2
  exact hw ⟨by omega,by omega⟩
 show Ko _ _ (if (((sIx items.size 0 lo:Nat):Int) == 0&&(1:Int) == 1&&(sIx items.size items.size hi - sIx items.size 0 lo) == items.size)=true then _ else _) _ _ s
 rw [KR hno,pick_gen]
 first
  | exact Qb (m:=Builtin.Tuple.tupleExact _) (Q4 (Qn ⟨_,rfl,Qn h⟩) htake)
  | exact Qb (m:=Builtin.Tuple.tupleExact _) (Q4 (Qb (Qn (Qn ⟨_,rfl,Qn h⟩))) htake)
  | exact Qb (Qb (m:=Builtin.Tuple.tupleExact _) (Q4 (Qn (Qn ⟨_,rfl,Qn h⟩)) htake))
  | exact Qb (Qb (m:=Builtin.Tuple.tupleExact _) (Q4 (Qn ⟨_,rfl,Qn h⟩) htake))
end
end HT
namespace L2
open PySem PySem.Spec PyProof.Rows
abbrev TO:=St->Hp->(Option Int->Hp->Prop)->Prop
def PO (X:Cx) (e:Option Kv) (t:TO):Prop :=
 ∀ (KJ:List (Kc×KA)) (s:Kb) (σ:St) (H:Hp) (Q:Option Int->Hp->Prop),Inv X KJ σ H s->t σ H Q ->
  Ko (Ky X.prog X.w) X.A (evalPart e X.env) (fun u s'=>∃ o H',Inv X KJ σ H' s'/\IsPart u o/\Q o H') X.xe s
def w6:TO:=fun _ H Q=>Q none H
def tPart (t:TE):TO:=fun σ H Q=>t σ H fun x H1=>∃ i,x=.int i/\Q (some i) H1
section
variable {X:Cx} {e:Kv} {te:TE} {lo hi:Option Kv} {tl th:TO} {pos p2:KB}
theorem po_none:PO X none w6:=by
 intro KJ s σ H Q I h
 rw [evalPart_none]
 exact Qn ⟨none,H,I,.none,h⟩
theorem po_some (h:PE X e te):PO X (some e) (tPart te):=by
 intro KJ s σ H Q I hw
 rw [evalPart_some]
 refine thn (h KJ s σ H _ I hw) fun u s1 ⟨x,H1,I1,r1,q1⟩=>?_
 obtain ⟨i,rfl,q⟩:=q1
 obtain ⟨t,rfl⟩:=r1
 exact ⟨some i,H1,I1,.int i t,q⟩
def SlR (X:Cx) (r:V->Option Int->Option Int->Hp->VK->Prop):Prop :=
 ∀ (KJ:List (Kc×KA)) (s:Kb) (σ:St) (H:Hp) (x:V) (v vl vu:Ka) (lo hi:Option Int) (sl:Kc) (Q:VK),Inv X KJ σ H s->Zr x v->s.heap.IsSliceOf sl vl vu .none->IsPart vl lo->IsPart vu hi->r x lo hi H Q ->
  ∃ T id,typeLookup (.type T) "__getitem__"=pure (some (.builtin id))/\s.TypeIs v T/\Ko (Ky X.prog X.w) X.A (getItem v (.ref sl)) (EP X KJ σ Q) X.xe s
def tSl (r:V->Option Int->Option Int->Hp->VK->Prop) (te:TE) (tl th:TO):TE:=fun σ H Q=>te σ H fun x H1=>tl σ H1 fun l H2=>th σ H2 fun u H3=>r x l u H3 Q
theorem JO {r:V->Option Int->Option Int->Hp->VK->Prop} (hr:SlR X r) (he:PE X e te) (hl:PO X lo tl) (hu:PO X hi th):PE X (.Subscript e (.Slice lo hi none p2) pos) (tSl r te tl th):=by
 intro KJ s σ H Q I h
 refine Subscript_ (thn (he KJ s σ H _ I h) fun v s1 ⟨x,H1,I1,r1,q1⟩=>?_)
 refine wpAny_Slice (thn (hl KJ s1 σ H1 _ I1 q1) fun vl s2 ⟨l,H2,I2,pl,q2⟩=>thn (hu KJ s2 σ H2 _ I2 q2) fun vu s3 ⟨u,H3,I3,pu,q3⟩=>?_)
 rw [evalPart_none]
 refine Qn ?_
 have I4:Inv X KJ σ H3 { s3 with heap:=s3.heap.push { cls:=.type "slice",data:=.fields #[vl,vu,.none] } }:=I3.kept (t':=s3.toks) fun b ob q=>Qd _ q
 obtain ⟨T,id,hT,ht,hg⟩:=hr KJ { s3 with heap:=s3.heap.push { cls:=.type "slice",data:=.fields #[vl,vu,.none] } } σ H3 x v vl vu l u s3.heap.objs.size Q I4 r1 (Heap.IsSliceOf.new ..) pl pu q3
 show Ko (Ky X.prog X.w) X.A (subscriptTail e (.Slice lo hi none p2) v (.ref s3.heap.objs.size)) (EP X KJ σ Q) X.xe { s3 with heap:=s3.heap.push { cls:=.type "slice",data:=.fields #[vl,vu,.none] } }
 exact tail_any (ops:=[.ref s3.heap.objs.size,v]) ht hT hg (by with_unfolding_all rfl)
def Jh (xs:List V) (lo hi:Option Int):List V:=(xs.drop (HT.sIx xs.length 0 lo)).take (HT.sIx xs.length xs.length hi - HT.sIx xs.length 0 lo)
theorem wO (xs:List V) (lo hi:Option Int):(Jh xs lo hi).length<=xs.length:=by
 unfold Jh
 rw [Q3,Pe]
 omega
def rSlT (K:KC):V->Option Int->Option Int->Hp->VK->Prop:=fun x lo hi H Q=>∃ a xs,x=.ref a/\SqT K H a xs /\
 ¬ (HT.sIx xs.length 0 lo=0/\HT.sIx xs.length xs.length hi=xs.length)/\∀ p,H p=none->Q (.ref p) (upd H p (.tup (Jh xs lo hi)))
theorem sl_tup:SlR X (rSlT X.K):=by
 intro KJ s σ H x v vl vu lo hi sl Q I rx hs pl pu h
 obtain ⟨a,xs,rfl,hx,hw,q⟩:=h
 cases rx
 obtain ⟨KP,r,ht,hz⟩:=I.tuple hx
 have hlen:KP.toArray.size=xs.length:=by rw [Qp];exact r.length.symm
 refine ⟨"tuple",_,PyProof.Rows.slot_tuple_getitem.lookup,ht.typeIs,?_⟩
 refine HT.getItem_tuple_cut ht hs pl pu (by rw [hlen];exact hw) ?_ (by rw [hlen];exact hz)
 rw [hlen]
 refine ⟨.ref s.heap.objs.size,_,I.laid (t':=s.toks) (o:=.tup (Jh xs lo hi)) (fun b ob q=>Qd _ q) (Ql _) ?_,rfl,q _ (I.hok.fresh (Ql _))⟩
 exact ⟨QA (wO xs lo hi) hz,_,(r.drop (HT.sIx xs.length 0 lo)).take (HT.sIx xs.length xs.length hi - HT.sIx xs.length 0 lo),IsTup.new _ _⟩
def rCatT (K:KC):R2:=fun x y H Q=>∃ a b xs ys,x=.ref a/\y=.ref b/\SqT K H a xs/\SqT K H b ys/\xs≠[]/\xs.length+ys.length<=Kg /\
 (ys=[]->Q (.ref a) H)/\(ys≠[]->∀ p,H p=none->Q (.ref p) (upd H p (.tup (xs++ys))))
theorem zU.nil_iff {xs:List V} {us:List Ka} (r:zU xs us):us=[]↔xs=[]:=by
 cases r with
 | nil=>simp
 | cons _ _=>simp
theorem op_catT:OpR X (binaryOp .Add) (rCatT X.K):=by
 intro KJ s σ H x y v u Q I rx ry h
 obtain ⟨a,b,xs,ys,rfl,rfl,ha,hb,hx,hz,q1,q2⟩:=h
 cases rx
 cases ry
 obtain ⟨KP,r1,p1,_⟩:=I.tuple ha
 obtain ⟨its2,r2,p2,_⟩:=I.tuple hb
 refine HT.cat_tup p1 p2 (fun z=>hx (r1.nil_iff.mp z)) (fun z=>⟨.ref a,H,I,rfl,q1 (r2.nil_iff.mp z)⟩) (fun z=>?_) (by rw [<- r1.length,<- r2.length];exact hz)
 refine ⟨.ref s.heap.objs.size,_,I.laid (t':=s.toks) (o:=.tup (xs++ys)) (fun b ob q=>Qd _ q) (Ql _) ?_,rfl,q2 (fun w=>z (r2.nil_iff.mpr w)) _ (I.hok.fresh (Ql _))⟩
 exact ⟨by rw [Qf];exact hz,_,r1.append r2,IsTup.new _ _⟩
end
end L2
namespace L2
open PySem PySem.Spec PyProof.Rows
def ixN (n:Nat) (i:Int):Option Nat:=if 0<=i then (if i<n then some i.toNat else none) else if -(n:Int)<=i then some (i+n).toNat else none
def atI {α:Type} (xs:List α) (i:Int):Option α:=(ixN xs.length i).bind fun j=>xs[j]?
theorem ixN_seq {n:Nat} {i:Int} {j:Nat} (h:ixN n i=some j):seqIndex? i n=some j/\j<n/\-(n:Int)<=i/\i<n:=by
 unfold ixN at h
 by_cases h0:0<=i
 ·rw [KQ h0] at h
  by_cases h1:i<n
  ·rw [KQ h1] at h
   have e:i.toNat=j:=Option.some.inj h
   exact ⟨by rw [seqIndex_of h0 h1,e],by omega,by omega,h1⟩
  ·rw [KR h1] at h;cases h
 ·rw [KR h0] at h
  by_cases h1:-(n:Int)<=i
  ·rw [KQ h1] at h
   have e:(i+n).toNat=j:=Option.some.inj h
   exact ⟨by rw [seqIndex_neg (by omega) h1,e],by omega,h1,by omega⟩
  ·rw [KR h1] at h;cases h
theorem atI_get {α:Type} {xs:List α} {i:Int} {v:α} (h:atI xs i=some v):∃ j,seqIndex? i xs.length=some j/\xs[j]?=some v/\j<xs.length/\-(xs.length:Int)<=i/\i<xs.length:=by
 unfold atI at h
 cases e:ixN xs.length i with
 | none=>rw [e] at h;cases h
 | some j =>
  rw [e] at h
  obtain ⟨h1,h2,h3,h4⟩:=ixN_seq e
  exact ⟨j,h1,h,h2,h3,h4⟩
theorem zL {α:Type} {xs:List α} {j:Nat} {v:α} (h:xs[j]?=some v):atI xs (j:Int)=some v:=by
 have hj:j<xs.length:=(Qs.mp h).1
 have e:ixN xs.length (j:Int)=some j:=by
  unfold ixN
  rw [KQ (by omega),KQ (by omega)];simp
 unfold atI;rw [e];exact h
theorem jh {α:Type} (xs:List α) (v:α):atI (xs++[v]) (-1)=some v:=by
 have hl:(xs++[v]).length=xs.length+1:=by simp
 have e:ixN (xs++[v]).length (-1)=some xs.length:=by
  unfold ixN
  rw [hl,KR (by decide),KQ (by omega)]
  congr 1
  omega
 unfold atI
 rw [e]
 show (xs++[v])[xs.length]?=some v
 simp
def PlainIx (b:Kv):Prop:=∀ o i,subscripted b false o i=operate [o,i] (getItem o i)
def IxR (X:Cx) (r:R2):Prop :=
 ∀ (value slice:Kv) (KJ:List (Kc×KA)) (s:Kb) (σ:St) (H:Hp) (x y:V) (v u:Ka) (Q:VK),Inv X KJ σ H s->Zr x v->Zr y u->r x y H Q ->
  subscripted slice false v u=operate [v,u] (getItem v u)->Ko (Ky X.prog X.w) X.A (subscriptTail value slice v u) (EP X KJ σ Q) X.xe s
def MtR (X:Cx) (id:String) (r:V->List V->Hp->VK->Prop):Prop :=
 ∀ (KJ:List (Kc×KA)) (s:Kb) (σ:St) (H:Hp) (x:V) (xs:List V) (v:Ka) (us:List Ka) (Q:VK),Inv X KJ σ H s->Zr x v->zU xs us->r x xs H Q ->
  Ko (Ky X.prog X.w) X.A (call (.builtin id) (v::us)) (EP X KJ σ Q) X.xe s
section
variable {X:Cx} {a b:Kv} {ta tb:TE} {pos:KB}
theorem Y6 {r:R2} (hr:IxR X r) (ha:PE X a ta) (hb:PE X b tb) (hs:PlainIx b):PE X (.Subscript a b pos) (tOp r ta tb):=by
 intro KJ s σ H Q I h
 exact Subscript_ (binT ha hb I h fun v u s2 x y H2 I2 rx ry q=>hr a b KJ s2 σ H2 x y v u Q I2 rx ry q (hs _ _))
def rIxL (K:KC):R2:=fun x y H Q=>∃ p xs i v,x=.ref p/\y=.int i/\SqL K H p xs/\atI xs i=some v/\Q v H
def rIxT (K:KC):R2:=fun x y H Q=>∃ p xs i v,x=.ref p/\y=.int i/\SqT K H p xs/\atI xs i=some v/\Q v H
theorem Ys:IxR X (rIxL X.K):=by
 intro value slice KJ s σ H x y v u Q I rx ry h hs
 obtain ⟨p,xs,i,z,rfl,rfl,hq,he,q⟩:=h
 cases rx
 obtain ⟨t,rfl⟩:=ry
 obtain ⟨KP,r,pl,hz⟩:=I.list hq
 obtain ⟨j,h1,h2,h3,h4,h5⟩:=atI_get he
 obtain ⟨w,ew,rw'⟩:=r.get h2
 have hl:=r.length
 have hn:=W5
 have fin:EP X KJ σ Q w s:=⟨z,H,I,rw',q⟩
 by_cases h0:0<=i
 ·have hj:i.toNat=j:=by
   rw [seqIndex_of h0 h5] at h1
   exact Option.some.inj h1
  exact item_listR pl.isList h0 (by omega) (by rw [hj];simpa using ew) fin hs
 ·have hj:(i+(KP.toArray.size:Int)).toNat=j:=by
   rw [seqIndex_neg (by omega) h4] at h1
   rw [Qp,<- hl]
   exact Option.some.inj h1
  exact subscriptTail_builtinR (x:=w) pl.isList.typeIs slot_list_getitem.lookup
   (wpAny_getItem_list_neg (Q:=fun r s'=>r=w/\EP X KJ σ Q r s') pl.isList (by omega) (by rw [Qp] <;> omega) (by omega) (by rw [hj];simpa using ew) ⟨rfl,fin⟩) hs
theorem ix_tup:IxR X (rIxT X.K):=by
 intro value slice KJ s σ H x y v u Q I rx ry h hs
 obtain ⟨p,xs,i,z,rfl,rfl,hq,he,q⟩:=h
 cases rx
 obtain ⟨t,rfl⟩:=ry
 obtain ⟨KP,r,pl,hz⟩:=I.tuple hq
 obtain ⟨j,h1,h2,h3,h4,h5⟩:=atI_get he
 obtain ⟨w,ew,rw'⟩:=r.get h2
 have hl:=r.length
 have hn:=W5
 have fin:EP X KJ σ Q w s:=⟨z,H,I,rw',q⟩
 exact subscriptTail_builtinR (x:=w) pl.typeIs slot_tuple_getitem.lookup
  (getItem_tuple (j:=j) (Q:=fun r s'=>r=w/\EP X KJ σ Q r s') pl (by omega) (by omega) (by rw [Qp,<- hl];exact h1) (by simpa using ew) ⟨rfl,fin⟩) hs
theorem mapSeq_set (KP:List Ka) (n j:Nat) (u:Ka):Obj.mapSeq (·.setIfInBounds j u) { cls:=.type "list",data:=.seq KP.toArray n }={ cls:=.type "list",data:=.seq (KP.set j u).toArray n }:=by
 simp [Obj.mapSeq]
theorem Inv.lst {KJ:List (Kc×KA)} {σ:St} {H:Hp} {s:Kb} {p:Kc} {xs:List V} (I:Inv X KJ σ H s) (h:H p=some (.lst xs)) :
  ∃ (KP:List Ka) (n:Nat),zU xs KP/\s.heap.get? p=some { cls:=.type "list",data:=.seq KP.toArray n }/\xs.length<=Kg:=by
 obtain ⟨z,KP,n,r,e⟩:=I.hok p _ h
 exact ⟨KP,n,r,e,z⟩
theorem Inv.lstUpd {KJ:List (Kc×KA)} {σ:St} {H:Hp} {s:Kb} {p:Kc} {xs ys:List V} {KP its':List Ka} {n n':Nat} {f:KA->KA} (I:Inv X KJ σ H s) (h:H p=some (.lst xs))
  (ho:s.heap.get? p=some { cls:=.type "list",data:=.seq KP.toArray n }) (hf:f { cls:=.type "list",data:=.seq KP.toArray n }={ cls:=.type "list",data:=.seq its'.toArray n' }) (r:zU ys its') (hz:ys.length<=Kg) (t:Nat) :
  Inv X KJ σ (upd H p (.lst ys)) { s with heap:=s.heap.update p f,toks:=t }:=by
 have e:(s.heap.update p f).get? p=some { cls:=.type "list",data:=.seq its'.toArray n' }:=by
  rw [Pq f ho (by rw [hf] <;> rfl),hf]
 refine I.write (x:=p) (e:=p) (by rw [h];trivial) (.inl rfl) (fun b u hb q=>(Heap.get?_update_other _ _ (Ne.symm hb)).trans q) ⟨_,e⟩ ?_
 exact ⟨hz,its',n',r,e⟩
def rSetL:V->V->V->Hp->(Hp->Prop)->Prop:=fun o i v H Q=>∃ p xs k j,o=.ref p/\i=.int k/\H p=some (.lst xs)/\ixN xs.length k=some j/\Q (upd H p (.lst (xs.set j v)))
theorem set_list:PSet X rSetL:=by
 intro KJ s σ H o i v ov iv u Q I ro ri rv h
 obtain ⟨p,xs,k,j,rfl,rfl,hp,hj,q⟩:=h
 cases ro
 obtain ⟨t,rfl⟩:=ri
 obtain ⟨KP,n,r,ho,hz⟩:=I.lst hp
 obtain ⟨h1,h2,h3,h4⟩:=ixN_seq hj
 have hl:=r.length
 have hn:=W5
 have I':Inv X KJ σ (upd H p (.lst (xs.set j v))) { s with heap:=s.heap.update p (Obj.mapSeq (·.setIfInBounds j u)) } :=
  I.lstUpd hp ho (mapSeq_set KP n j u) (r.set rv j) (by rw [Qu];exact hz) s.toks
 by_cases h0:0<=k
 ·have hk:k.toNat=j:=by
   rw [seqIndex_of h0 h4] at h1
   exact Option.some.inj h1
  exact PySem.W.ki_setAt ho h0 (by omega) (by rw [Qp,<- hl];exact h4) (by rw [hk];exact ⟨_,I',q⟩)
 ·have hk:(k+(KP.toArray.size:Int)).toNat=j:=by
   rw [seqIndex_neg (by omega) h3] at h1
   rw [Qp,<- hl]
   exact Option.some.inj h1
  exact PySem.W.ki_setBack ho (by omega) (by rw [Qp,<- hl];exact h3) (by omega) (by rw [hk];exact ⟨_,I',q⟩)
theorem slice_bounds (lo hi:Option Int) (n:Nat):(sliceBounds lo hi none n).1=((HT.sIx n 0 lo:Nat):Int)/\(sliceBounds lo hi none n).2.1=((HT.sIx n n hi:Nat):Int)/\(sliceBounds lo hi none n).2.2=1:=by
 refine ⟨?_,?_,rfl⟩
 ·cases lo with
  | none=>simp [sliceBounds,HT.sIx]
  | some i =>
   simp only [sliceBounds,HT.sIx,Option.getD_none,show (1:Int) > 0 by decide,if_true]
   by_cases h:i<0
   ·simp only [h,if_true] <;> omega
   ·simp only [h,if_false] <;> omega
 ·cases hi with
  | none=>simp [sliceBounds,HT.sIx]
  | some i =>
   simp only [sliceBounds,HT.sIx,Option.getD_none,show (1:Int) > 0 by decide,if_true]
   by_cases h:i<0
   ·simp only [h,if_true] <;> omega
   ·simp only [h,if_false] <;> omega
theorem slicePick_cut (KP:List Ka) (lo hi:Option Int):slicePick KP.toArray lo hi none=((KP.drop (HT.sIx KP.length 0 lo)).take (HT.sIx KP.length KP.length hi - HT.sIx KP.length 0 lo)).toArray:=by
 obtain ⟨h1,h2,h3⟩:=slice_bounds lo hi KP.toArray.size
 unfold slicePick
 rw [h1,h2,h3]
 simp only [sliceRange_one,pick_run,Qp] <;> rfl
def rSlL (K:KC):V->Option Int->Option Int->Hp->VK->Prop:=fun x lo hi H Q=>∃ a xs,x=.ref a/\SqL K H a xs/\∀ p,H p=none->Q (.ref p) (upd H p (.lst (Jh xs lo hi)))
theorem sl_list:SlR X (rSlL X.K):=by
 intro KJ s σ H x v vl vu lo hi sl Q I rx hs pl pu h
 obtain ⟨a,xs,rfl,hx,q⟩:=h
 cases rx
 obtain ⟨KP,r,ht,hz⟩:=I.list hx
 have hlen:=r.length
 refine ⟨"list",_,slot_list_getitem.lookup,ht.isList.typeIs,?_⟩
 refine wpAny_getItem_list_slice ht.isList hs pl pu .none (by simp) ?_ (by rw [Qp] <;> omega)
 rw [slicePick_cut,<- hlen]
 refine ⟨.ref s.heap.objs.size,_,I.laid (t':=s.toks) (o:=.lst (Jh xs lo hi)) (fun b ob q=>Qd _ q) (Ql _) ?_,rfl,q _ (I.hok.fresh (Ql _))⟩
 exact ⟨QA (wO xs lo hi) hz,_,0,(r.drop (HT.sIx xs.length 0 lo)).take (HT.sIx xs.length xs.length hi - HT.sIx xs.length 0 lo),Qo _ rfl⟩
def wK:V->Bool
 | .non=>true
 | .bl _=>true
 | .int _=>true
 | .str _=>true
 | _=>false
def eqV:V->V->Bool
 | .non,.non=>true
 | .bl a,.bl b=>a == b
 | .bl a,.int b=>(if a then 1 else 0) == b
 | .int a,.bl b=>a == (if b then 1 else 0)
 | .int a,.int b=>a == b
 | .str a,.str b=>a == b
 | _,_=>false
theorem eqAt_V {A:Kj} {s:Kb} {y x:V} {u v:Ka} (ry:Zr y u) (rx:Zr x v) (fy:wK y=true) (fx:wK x=true):SeqAt.EqAt A s u v (eqV y x):=by
 cases y with
 | non =>
  cases ry
  cases x with
  | non=>cases rx;exact SeqAt.EqAt.same _
  | bl b=>cases rx;exact SeqAt.EqAt.none_bool b
  | int b=>obtain ⟨t,rfl⟩:=rx;exact SeqAt.EqAt.none_int b t
  | str b=>obtain ⟨t,rfl⟩:=rx;exact SeqAt.EqAt.none_str b t
  | _=>exact absurd (show false=true from fx) Qh
 | bl a =>
  cases ry
  cases x with
  | non=>cases rx;exact SeqAt.EqAt.bool_none a
  | bl b=>cases rx;exact SeqAt.EqAt.bool_bool a b
  | int b=>obtain ⟨t,rfl⟩:=rx;exact SeqAt.EqAt.bool_int a b t
  | str b=>obtain ⟨t,rfl⟩:=rx;exact SeqAt.EqAt.bool_str a b t
  | _=>exact absurd (show false=true from fx) Qh
 | int a =>
  obtain ⟨t',rfl⟩:=ry
  cases x with
  | non=>cases rx;exact SeqAt.EqAt.int_none a t'
  | bl b=>cases rx;exact SeqAt.EqAt.int_bool a t' b
  | int b=>obtain ⟨t,rfl⟩:=rx;exact SeqAt.EqAt.int_int a t' b t
  | str b=>obtain ⟨t,rfl⟩:=rx;exact SeqAt.EqAt.int_str a t' b t
  | _=>exact absurd (show false=true from fx) Qh
 | str a =>
  obtain ⟨t',rfl⟩:=ry
  cases x with
  | non=>cases rx;exact SeqAt.EqAt.str_none a t'
  | bl b=>cases rx;exact SeqAt.EqAt.str_bool a t' b
  | int b=>obtain ⟨t,rfl⟩:=rx;exact SeqAt.EqAt.str_int a t' b t
  | str b=>obtain ⟨t,rfl⟩:=rx;exact SeqAt.EqAt.str_str a t' b t
  | _=>exact absurd (show false=true from fx) Qh
 | _=>exact absurd (show false=true from fy) Qh
def eqU (x:V) (u:Ka):Bool:=match u with
 | .none=>eqV .non x
 | .bool b=>eqV (.bl b) x
 | .int i _=>eqV (.int i) x
 | .str z _=>eqV (.str z) x
 | _=>false
theorem eqU_of {x y:V} {u:Ka} (r:Zr y u) (f:wK y=true):eqU x u=eqV y x:=by
 cases y with
 | non=>cases r;rfl
 | bl b=>cases r;rfl
 | int i=>obtain ⟨t,rfl⟩:=r;rfl
 | str z=>obtain ⟨t,rfl⟩:=r;rfl
 | _=>exact absurd (show false=true from f) Qh
theorem any_eqU {x:V}:∀ {xs:List V} {us:List Ka},zU xs us->xs.all wK=true->us.any (eqU x)=xs.any fun y=>eqV y x
 | _,_,.nil,_=>rfl
 | y::xs,u::us,.cons r t,f=>by
  rw [PL,QC] at f
  rw [Pc,Pc,eqU_of r f.1,any_eqU t f.2]
theorem W2 {A:Kj} {s:Kb} {x:V} {v:Ka} (rx:Zr x v) (fx:wK x=true):∀ {xs:List V} {us:List Ka},zU xs us->xs.all wK=true->∀ u∈us,SeqAt.EqAt A s u v (eqU x u)
 | _,_,.nil,_=>fun u hu=>by cases hu
 | y::xs,u::us,.cons r t,f=>fun u' hu=>by
  rw [PL,QC] at f
  rcases Qa.mp hu with rfl | hu
  ·rw [eqU_of r f.1];exact eqAt_V r rx f.1 fx
  ·exact W2 rx fx t f.2 u' hu
def inV (x:V) (xs:List V):Bool:=xs.any fun y=>eqV y x
def rIn (K:KC) (neg:Bool):R2:=fun x y H Q=>∃ p xs,y=.ref p/\(SqL K H p xs\/SqT K H p xs)/\wK x=true/\xs.all wK=true/\Q (.bl (if neg then !inV x xs else inV x xs)) H
theorem op_in_seq:OpR X (Km .In) (rIn X.K false):=by
 intro KJ s σ H x y v u Q I rx ry h
 obtain ⟨p,xs,rfl,hq,fx,fs,q⟩:=h
 cases ry
 rcases hq with hq | hq
 ·obtain ⟨KP,r,pl,hz⟩:=I.list hq
  refine SeqAt.in_listAt (eqU x) pl.isList (fun w hw=>W2 rx fx r fs w (by simpa using hw)) ⟨.bl _,H,I,rfl,?_⟩
  rw [show KP.toArray.any (eqU x)=KP.any (eqU x) by simp,any_eqU r fs]
  exact q
 ·obtain ⟨KP,r,pl,hz⟩:=I.tuple hq
  refine SeqAt.in_tupleAt (eqU x) pl (fun w hw=>W2 rx fx r fs w (by simpa using hw)) ⟨.bl _,H,I,rfl,?_⟩
  rw [show KP.toArray.any (eqU x)=KP.any (eqU x) by simp,any_eqU r fs]
  exact q
theorem ZK:Yp X (.builtin "len") (fun xs H Q=>∃ p ys,xs=[.ref p]/\(SqL X.K H p ys\/SqT X.K H p ys)/\Q (.int ys.length) H):=by
 intro KJ s σ H xs us Q I r h
 obtain ⟨p,ys,rfl,hq,q⟩:=h
 obtain ⟨u,rfl,rx⟩:=JC r
 cases rx
 have hn:=W5
 rcases hq with hq | hq
 ·obtain ⟨KP,r',pl,hz⟩:=I.list hq
  have hlen:=r'.length
  exact Calls.call_len_list pl.isList (by simp only [Qp] <;> omega) ⟨.int ys.length,H,I.tok _,⟨s.toks+1,by rw [Qp,hlen]⟩,q⟩
 ·obtain ⟨KP,r',pl,hz⟩:=I.tuple hq
  have hlen:=r'.length
  exact len_tuple pl (by simp only [Qp] <;> omega) ⟨.int ys.length,H,I.tok _,⟨s.toks+1,by rw [Qp,hlen]⟩,q⟩
theorem call_len_str:Yp X (.builtin "len") (fun xs H Q=>∃ z,xs=[.str z]/\z.length<=Kg/\Q (.int z.length) H):=by
 intro KJ s σ H xs us Q I r h
 obtain ⟨z,rfl,hz,q⟩:=h
 obtain ⟨u,rfl,t,rfl⟩:=JC r
 have hn:=W5
 exact len_str (by omega) ⟨.int z.length,H,I.tok _,⟨_,rfl⟩,q⟩
theorem call_tuple_of:Yp X (.type "tuple") (fun xs H Q=>∃ p ys,xs=[.ref p]/\((SqL X.K H p ys/\∀ l,H l=none->Q (.ref l) (upd H l (.tup ys)))\/(SqT X.K H p ys/\Q (.ref p) H))):=by
 intro KJ s σ H xs us Q I r h
 obtain ⟨p,ys,rfl,h⟩:=h
 obtain ⟨u,rfl,rx⟩:=JC r
 cases rx
 rcases h with ⟨hq,q⟩ | ⟨hq,q⟩
 ·obtain ⟨KP,r',pl,hz⟩:=I.list hq
  have hlen:=r'.length
  refine call_tuple_list pl.isList (fun h' kp=>?_) (by simp only [Qp] <;> omega)
  have I1:Inv X KJ σ H { s with heap:=h' }:=I.kept (t':=s.toks) kp
  have I2:Inv X KJ σ (upd H h'.objs.size (.tup ys)) { s with heap:=h'.push { cls:=.type "tuple",data:=.seq KP.toArray } } :=
   I1.laid (t':=s.toks) (fun b o e=>Qd _ e) (Ql _) (show yx X.prog X.w _ _ _ (.tup ys) from ⟨hz,KP,r',IsTup.new _ _⟩)
  exact ⟨.ref h'.objs.size,_,I2,rfl,q _ (I1.hok.fresh (Ql _))⟩
 ·obtain ⟨KP,r',pl,hz⟩:=I.tuple hq
  exact call_tuple_same pl ⟨.ref p,H,I,rfl,q⟩
def tyV (K:KC) (T:String) (x:V) (H:Hp):Prop:=match x with
 | .str _=>T="str"
 | .int _=>T="int"
 | .ref p=>(T="list"/\∃ xs,SqL K H p xs)\/(T="tuple"/\∃ o,K.lookup p=some o/\o.cls=.type "tuple"/\o.dict=none) \/
   (T="dict"/\((∃ KO,H p=some (.dK KO))\/∃ KO,H p=some (.dT KO)))\/(T="set"/\∃ S n,H p=some (.set S n))
 | _=>False
theorem tyV_is {KJ:List (Kc×KA)} {σ:St} {H:Hp} {s:Kb} {T:String} {x:V} {v:Ka} (I:Inv X KJ σ H s) (r:Zr x v) (ty:tyV X.K T x H) :
  s.TypeIs v T/\∀ a,v=.ref a->∃ ob,s.heap.get? a=some ob/\ob.dict=none:=by
 cases x with
 | str z =>
  obtain ⟨t,rfl⟩:=r
  cases (show T="str" from ty)
  exact ⟨typeIs_str s z t,fun _ e=>nomatch e⟩
 | int i =>
  obtain ⟨t,rfl⟩:=r
  cases (show T="int" from ty)
  exact ⟨typeIs_int s i t,fun _ e=>nomatch e⟩
 | ref p =>
  cases r
  rcases ty with ⟨rfl,xs,hq⟩ | ⟨rfl,o,hk,hc,hd⟩ | ⟨rfl,hk⟩ | ⟨rfl,S,n,hk⟩
  ·obtain ⟨KP,_,pl,_⟩:=I.list hq
   refine ⟨pl.isList.typeIs,fun a e=>?_⟩
   cases e
   obtain ⟨o,n,e,c,hd,_⟩:=pl
   exact ⟨o,e,hd⟩
  ·refine ⟨⟨o,I.kIn p o hk,hc⟩,fun a e=>?_⟩
   cases e
   exact ⟨o,I.kIn _ o hk,hd⟩
  ·have z:∃ o,s.heap.get? p=some o/\o.ExactDict:=by
    rcases hk with ⟨KO,hk⟩ | ⟨KO,hk⟩
    ·obtain ⟨_,_,_,_,o,_,_,e,ex,_⟩:=I.hok p _ hk
     exact ⟨o,e,ex⟩
    ·obtain ⟨_,_,_,_,o,_,_,e,ex,_⟩:=I.hok p _ hk
     exact ⟨o,e,ex⟩
   obtain ⟨o,e,ex⟩:=z
   refine ⟨⟨o,e,ex.1⟩,fun a e2=>?_⟩
   cases e2
   exact ⟨o,e,ex.2.1⟩
  ·obtain ⟨o,_,_,_,e,ex,_⟩:=I.hok p _ hk
   refine ⟨⟨o,e,ex.1⟩,fun a e2=>?_⟩
   cases e2
   exact ⟨o,e,ex.2.1⟩
 | _=>exact False.elim ty
def tBM0 (K:KC) (T:String) (r:V->List V->Hp->VK->Prop) (to:TE):TE:=fun σ H Q=>to σ H fun x H1=>tyV K T x H1/\r x [] H1 Q
def tBM (K:KC) (T:String) (r:V->List V->Hp->VK->Prop) (to:TE) (t:TA):TE:=fun σ H Q=>to σ H fun x H1=>tyV K T x H1/\t σ H1 fun xs H2=>r x xs H2 Q
variable {o e:Kv} {es:List Kv} {to:TE} {t:TA} {name:Kw} {apos cpos:KB} {T id:String} {r:V->List V->Hp->VK->Prop}
theorem pe_bm0 (pa:PlainAttrs T) (slot:Slot T name id) (hty:typeOf (.builtin id)=pure (.type "method_descriptor")) (hm:MtR X id r) (ho:PE X o to)
  (hbase:Kp o name X.env (Kz o X.env)=Kz o X.env:=by rfl) (hline:(apos.endLine == cpos.line)=true:=by rfl):PE X (.Call (.Attribute o name apos) [] [] cpos) (tBM0 X.K T r to):=by
 intro KJ s σ H Q I h
 refine wpAny_Call_method0_late hbase hline (thn (ho KJ s σ H _ I h) fun v s1 ⟨x,H1,I1,r1,ty,q1⟩=>?_)
 obtain ⟨h1,h2⟩:=tyV_is I1 r1 ty
 exact ⟨T,id,pa,slot,hty,h1,h2,Calls.callWith_builtin rfl (PySem.evalArgs_none (hm KJ s1 σ H1 x [] v [] Q I1 r1 .nil q1))⟩
theorem Yz (pa:PlainAttrs T) (slot:Slot T name id) (hty:typeOf (.builtin id)=pure (.type "method_descriptor")) (hm:MtR X id r) (ho:PE X o to) (ha:PA X (e::es) t)
  (hbase:Kp o name X.env (Kz o X.env)=Kz o X.env:=by rfl)
  (hfew:((Kq cpos (Ke (e::es) X.env)).all (fun x=>!x.1)&&(Kr cpos (Ks [] X.env)).all (fun x=>x.1.isSome)
   && decide ((e::es).length+([]:List Keyword).length+(if ([]:List Keyword).isEmpty then 0 else 1)<30))=true:=by rfl)
  (hline:(apos.endLine == cpos.line)=true:=by rfl) (hs:Ke (e::es) X.env=(false,Kz e X.env)::Ke es X.env:=by rfl) (hplain:(Kq cpos (Ke es X.env)).any (·.1)=false:=by rfl) :
  PE X (.Call (.Attribute o name apos) (e::es) [] cpos) (tBM X.K T r to t):=by
 intro KJ s σ H Q I h
 refine wpAny_Call_method_late hbase hfew hline rfl (thn (ho KJ s σ H _ I h) fun v s1 ⟨x,H1,I1,r1,ty,q1⟩=>?_)
 obtain ⟨h1,h2⟩:=tyV_is I1 r1 ty
 refine ⟨T,id,pa,slot,hty,h1,h2,?_⟩
 have hA:=ha cpos KJ s1 σ H1 _ I1 q1
 rw [hs] at hA ⊢
 refine Calls.callWith_builtin (by show (false||(Kq cpos (Ke es X.env)).any (·.1))=false;rw [hplain] <;> rfl) (Calls.evalArgs_plain ?_)
 exact thn hA fun us s2 ⟨vs,H2,I2,r2,q2⟩=>hm KJ s2 σ H2 x vs v us Q I2 r1 r2 q2
end
end L2
namespace L2
open PySem PySem.Spec PyProof.Rows
def MtM (X:Cx) (id:String) (r:V->List V->Hp->VK->Prop):Prop :=
 ∀ (KJ:List (Kc×KA)) (s:Kb) (σ:St) (H:Hp) (x:V) (xs:List V) (v:Ka) (us:List Ka) (Q:VK),Inv X KJ σ H s->Zr x v->zU xs us->r x xs H Q ->
  Ko (Ky X.prog X.w) X.A (call (.builtin id) (v::us)) (EP X KJ σ Q) X.xe s
theorem zU.one:∀ {x:V} {us:List Ka},zU [x] us->∃ u,us=[u]/\Zr x u
 | _,_,.cons r .nil=>⟨_,rfl,r⟩
theorem zU.zero:∀ {us:List Ka},zU [] us->us=[]
 | _,.nil=>rfl
theorem zU.dropLast {xs:List V} {us:List Ka} (h:zU xs us):zU xs.dropLast us.dropLast:=by
 induction h with
 | nil=>exact .nil
 | cons r t ih =>
  cases t with
  | nil=>exact .nil
  | cons q t'=>exact .cons r ih
theorem zU.eraseIdx:∀ {xs:List V} {us:List Ka} (i:Nat),zU xs us->zU (xs.eraseIdx i) (us.eraseIdx i)
 | _,_,_,.nil=>.nil
 | _,_,0,.cons _ t=>t
 | _,_,i+1,.cons r t=>.cons r (zU.eraseIdx i t)
theorem erase_last {α:Type} (l:List α):l.eraseIdx (l.length - 1)=l.dropLast:=by
 induction l with
 | nil=>rfl
 | cons a r ih =>
  cases r with
  | nil=>rfl
  | cons b r =>
   have e:(a::b::r).length - 1=((b::r).length - 1)+1:=by
    have h1:(a::b::r).length=r.length+2:=rfl
    have h2:(b::r).length=r.length+1:=rfl
    omega
   rw [e,List.eraseIdx_cons_succ,ih]
   all_goals rfl
theorem len_erase {α:Type}:∀ (l:List α) (i:Nat),(l.eraseIdx i).length<=l.length
 | [],_=>Ql _
 | _::_,0=>Nat.le_succ _
 | _::r,i+1=>Nat.succ_le_succ (len_erase r i)
section
variable {X:Cx} {KJ:List (Kc×KA)} {σ:St} {H:Hp} {s:Kb} {l b:Kc} {xs ys zs:List V}
theorem Inv.lset {KP its':List Ka} {n:Nat} {f:Array Ka->Array Ka} {t':Nat} (I:Inv X KJ σ H s) (hH:H l=some (.lst xs))
  (e:s.heap.get? l=some { cls:=.type "list",data:=.seq KP.toArray n }) (hf:f KP.toArray=its'.toArray) (hv:zU ys its') (hz:ys.length<=Kg) :
  Inv X KJ σ (upd H l (.lst ys)) { s with heap:=s.heap.update l (Obj.mapSeq f),toks:=t' }:=by
 have q:=PySem.IsL.update e f
 rw [hf] at q
 refine I.write (x:=l) (e:=l) (by rw [hH];exact trivial) (.inl rfl) (fun b' u hb hu=>(Heap.get?_update_other s.heap (Obj.mapSeq f) (Ne.symm hb)).trans hu) ⟨_,q⟩ ?_
 exact ⟨hz,its',_,hv,q⟩
theorem Inv.lnew {KP:List Ka} {t':Nat} (I:Inv X KJ σ H s) (hv:zU ys KP) (hz:ys.length<=Kg) :
  Inv X KJ σ (upd H s.heap.objs.size (.lst ys)) { s with heap:=s.heap.push { cls:=.type "list",data:=.seq KP.toArray },toks:=t' } :=
 I.laid (fun _ _ q=>Qd _ q) (Ql _) ⟨hz,KP,0,hv,Qo _ rfl⟩
theorem Inv.fresh (I:Inv X KJ σ H s):H s.heap.objs.size=none:=I.hok.fresh (Ql _)
theorem Inv.lstM (I:Inv X KJ σ H s) (hH:H l=some (.lst xs)):xs.length<=Kg/\∃ (KP:List Ka) (n:Nat),zU xs KP/\xs.length=KP.length/\s.heap.get? l=some { cls:=.type "list",data:=.seq KP.toArray n }:=by
 obtain ⟨z,KP,n,r,e⟩:=I.hok l _ hH
 exact ⟨z,KP,n,r,r.length,e⟩
theorem notLongL {n:Nat} (h:n<=Kg):Builtin.List.listTooLong n=false:=by
 unfold Builtin.List.listTooLong
 exact KU (by omega)
end
section
variable {X:Cx}
def yk:V->List V->Hp->VK->Prop:=fun x vs H Q=>∃ l xs y,x=.ref l/\vs=[y]/\H l=some (.lst xs)/\xs.length<Kg/\Q .non (upd H l (.lst (xs++[y])))
theorem Z5:MtM X "list.append" yk:=by
 intro KJ s σ H x vs v us Q I rx rv h
 obtain ⟨l,xs,y,rfl,rfl,hH,hz,q⟩:=h
 cases rx
 obtain ⟨u,rfl,ru⟩:=rv.one
 obtain ⟨z,KP,n,r,hl,e⟩:=I.lstM hH
 refine call_meets F.slot_list_append ⟨_,e,rfl⟩ F.entry_list_append (F.args_list_append_2 _ _) (PySem.list_append l KP.toArray n u (by rw [Qp];omega)) ⟨e,?_⟩
 refine ⟨.non,_,I.lset (its':=KP++[u]) hH e (by simp) (r.append (.cons ru .nil)) ?_,rfl,q⟩
 rw [Qf,Qv]
 omega
def rPop:V->List V->Hp->VK->Prop:=fun x vs H Q=>∃ l xs y,x=.ref l/\vs=[]/\H l=some (.lst xs)/\xs[xs.length - 1]?=some y/\Q y (upd H l (.lst xs.dropLast))
theorem mt_pop:MtM X "list.pop" rPop:=by
 intro KJ s σ H x vs v us Q I rx rv h
 obtain ⟨l,xs,y,rfl,rfl,hH,hy,q⟩:=h
 cases rx
 have hus:=rv.zero
 subst hus
 obtain ⟨z,KP,n,r,hl,e⟩:=I.lstM hH
 obtain ⟨u,hu,ru⟩:=r.get hy
 have hy':KP.toArray[KP.toArray.size - 1]?=some u:=by
  show KP.toArray[KP.length - 1]?=some u
  rw [<- Array.getElem?_toList,<- hl]
  exact hu
 refine call_meets F.slot_list_pop ⟨_,e,rfl⟩ F.entry_list_pop (F.args_list_pop_1 _) (MeetsSeq.list_pop_last l KP.toArray n u hy' (by rw [Qp];omega)) ⟨e,?_⟩
 refine ⟨y,_,I.lset (its':=KP.dropLast) hH e ?_ r.dropLast ?_,ru,q⟩
 ·show KP.toArray.eraseIdxIfInBounds (KP.toArray.size - 1)=KP.dropLast.toArray
  rw [Qp,List.eraseIdxIfInBounds_toArray,erase_last]
 ·rw [List.length_dropLast]
  omega
def rPopAt:V->List V->Hp->VK->Prop:=fun x vs H Q=>∃ l xs i k y,x=.ref l/\vs=[.int i]/\H l=some (.lst xs)/\-(2 ^ 63)<=i/\i<2 ^ 63/\seqIndex? i xs.length=some k/\xs[k]?=some y/\Q y (upd H l (.lst (xs.eraseIdx k)))
theorem mt_popAt:MtM X "list.pop" rPopAt:=by
 intro KJ s σ H x vs v us Q I rx rv h
 obtain ⟨l,xs,i,k,y,rfl,rfl,hH,h1,h2,hk,hy,q⟩:=h
 cases rx
 obtain ⟨u,rfl,ru⟩:=rv.one
 obtain ⟨t,rfl⟩:=ru
 obtain ⟨z,KP,n,r,hl,e⟩:=I.lstM hH
 obtain ⟨w,hw,rw'⟩:=r.get hy
 refine call_meets F.slot_list_pop ⟨_,e,rfl⟩ F.entry_list_pop (F.args_list_pop_2 _ _)
  (MeetsSeq.list_pop_at l KP.toArray n i t k w (fitsIndex_both h1 h2) (by rw [Qp,<- hl];exact hk) (by rw [<- Array.getElem?_toList];exact hw) (by rw [Qp];omega)) ⟨e,?_⟩
 refine ⟨y,_,I.lset (its':=KP.eraseIdx k) hH e ?_ (r.eraseIdx k) ?_,rw',q⟩
 ·show KP.toArray.eraseIdxIfInBounds k=(KP.eraseIdx k).toArray
  rw [List.eraseIdxIfInBounds_toArray]
 ·have:=len_erase xs k
  omega
end
section
variable {prog:Ki} {w:Kk} {A:Kj} {E:Ka->Kb->Prop} {s:Kb}
end
section
variable {X:Cx}
end
end L2
namespace Att
open PySem PySem.W PySem.Calls PyProof.Rows
theorem wU {P:Params} {h:Kl}:∀ (ns:List Int) (vs:List Ka),WellAll P h vs (ns.map WData.int)->IntsAre vs ns:=by
 intro ns
 induction ns with
 | nil =>
  intro vs w
  rw [QJ] at w
  cases w
  exact .nil
 | cons n ns ih =>
  intro vs w
  rw [Qk] at w
  cases w with
  | cons a b =>
   cases a
   exact .cons _ _ (ih _ b)
theorem script_of {l:OpenLaw} {n:Nat} (hn:l.most=some n) {P:Params} {h:Kl} {args:List WData} {vals:List Ka}
  (hpre:l.row.toRowW.claim.pre args=true) (hwl:WellAll P h vals args) :
  ∃ a vs ns,vals=[Value.ref a]/\args=[WData.list (ns.map WData.int)]/\h.get? a=some { cls:=.type "list",data:=.seq vs.toArray }/\IntsAre vs ns/\ns.length<=n:=by
 have hsh:WShape.hasAll [] args [.list .int]=true:=(pre_splitW hpre).1
 have hc:l.pre.holds [] { args:=args }=true:=(pre_splitW hpre).2
 obtain ⟨d,r,rfl,h1,h2⟩:=hasAllW_cons hsh
 obtain rfl:=hasAllW_nil h2
 obtain ⟨xs,rfl,h3⟩:=hasW_list h1
 obtain ⟨ns,rfl⟩:=items_int h3
 have hlen:ns.length<=n:=by
  unfold OpenLaw.pre at hc
  have h4:(WTm.not (.lt (.lit (.int (n:Int))) (.len (.arg 0)))).holds [] { args:=[.list (ns.map .int)] }=true:=by
   have h4:=(holds_andW hc).1
   rw [hn] at h4
   exact h4
  have h5:=condW_of h4 (w_not (w_lt w_lit (w_len_list (w_arg rfl))))
  rw [Qe] at h5
  refine Nat.le_of_not_lt fun q=>?_
  have q':(n:Int)<((ns.length:Nat):Int):=by omega
  first
   | (rw [KS q'] at h5;exact absurd h5 (by decide))
   | (simp at h5;omega)
 cases hwl with
 | cons w1 w2 =>
  cases w2
  cases w1 with
  | list ho hall=>exact ⟨_,_,ns,rfl,rfl,ho,wU ns _ hall,hlen⟩
theorem post_true (l:OpenLaw) (args:List WData):l.row.toRowW.claim.post args (.bool true) args=true :=
 postW_of (r:=l.row.toRowW) (X:=(true == true))
  (show WShape.has [] (.bool true) .bool=true by first | rfl | decide | simp [WShape.has,WShape.arms,WShape.armsAll])
  (show (WTm.eq .res (.lit (.bool true))).value [] { args:=args,res:=some (.bool true),after:=args }=some (.bool (true == true)) from w_eq_bool (w_res rfl) w_lit) rfl
theorem attach_call {l:OpenLaw} {n:Nat} {q:Ki} {loose:List Kw} {XP:(Kw->Option Ka)->Kl->Prop} {YP:Kk->Kl->Prop} {d:DefRec}
  (hn:l.most=some n) (hdf:d.params.defaults=[])
  (call:∀ (w:Kk) (s₀ s₁:Kb) (mg mb:Kw->Option Ka) (fa:Kc) (o:KA) (pm cd doc:Ka) (a:Kc) (vs:List Ka) (ns:List Int),
   Ground q loose [] XP w s₀ mg mb s₁.heap->YP w s₁.heap ->
   s₁.heap.get? fa=some o->o.data=.func (docDef d.name d.params d.body d.scope pm cd doc)->s₁.heap.CodeRec cd d.name->mg d.name=some (.ref fa) ->
   s₁.heap.get? a=some { cls:=.type "list",data:=.seq vs.toArray }->IntsAre vs ns->ns.length<=n->s₁.gens=#[] ->
   codeAny (Ky l.prog w) callerA (.call (.ref fa) ⟨[.ref a],[]⟩) (fun r s'=>r=.ok (.ret (.bool true))/\OldK s₁.heap s'.heap/\s'.os=s₁.os/\AllBare s'.gens) s₁) :
  WalkO q loose XP YP l.row.toRowW d [] (fun f vs=>PySem.call f vs):=by
 intro w s₀ s₁ mg mb G Y fa o pm cd doc dV kV ho hd hcd hD hmg hg args vals as hpre hlay hrd hwl hlo
 obtain rfl:dV=.none:=Dflts.none hD hdf
 obtain rfl:kV=.none:=Dflts.noKw hD
 obtain ⟨a,vs,ns,rfl,rfl,hobj,hints,hlen⟩:=script_of hn hpre hwl
 refine enter_call (codeAny_mono (call w s₀ s₁ mg mb fa o pm cd doc a vs ns G Y ho (fd_plain hd) hcd hmg hobj hints hlen hg) fun r s' hq=>?_)
 obtain ⟨rfl,h2,h3,h4⟩:=hq
 exact ⟨.inl ⟨.bool true,.bool true,[],rfl,fun _=>rfl,.bool true,post_true l _,fun _=>⟨List.Pairwise.nil,fun _ hm=>(nomatch hm)⟩⟩,h2,h3,h4⟩
section
variable {prog:Ki} {w:Kk} {A:Kj} {E:Ka->Kb->Prop} {s:Kb} {K:KC}
end
end Att
namespace L2
open PySem PySem.Spec PyProof.Rows
theorem vals_ints:∀ {vs:List Ka} {ns:List Int},IntsAre vs ns->zU (ns.map V.int) vs
 | _,_,.nil=>.nil
 | _,_,.cons n t h=>.cons ⟨t,rfl⟩ (vals_ints h)
def Only (H:Hp):Prop:=∀ b,H b=none\/∃ o xs,H b=some (.frz o (.lst xs))
theorem law_call {P:Ki} {w:Kk} {K:KC} {mg mb:Kw->Option Ka} {CX:CXT} {k:Nat} {fa a:Kc} {fd:Kh} {x:Kw} {sp:Sp} {s₁:Kb} {vs:List Ka} {ns:List Int}
  (KX:K.In s₁.heap) (hns:s₁.heap.Ns Kf mg) (hb:s₁.heap.Ns builtinsNs mb) (hbb:∀ x:Kw,x≠"__name__"->mb x=bootBuiltins x) (hlim:s₁.heap.NoLimit) (hseer:s₁.heap.NoSeer) (htree:P.given.tree=none) (hg:s₁.gens=#[])
  (ha:s₁.heap.get? a=some { cls:=.type "list",data:=.seq vs.toArray }) (hi:IntsAre vs ns) (hl:ns.length<=Kg) (hr:Room k callerA)
  (F:∀ base:Kl,K.In base->base.Ns Kf mg->FnOk P w K mg base CX k fa fd [x] sp) (hbind:∀ (s:Kb) (u:Ka),BindsTo s fd ⟨[u],[]⟩ [(x,u)])
  (hsp:∀ H:Hp,Only H->SqL K H a (ns.map V.int)->sp [.ref a] H (fun v _=>v=.bl true) fun _ _ _=>False)
  (hCX:∀ H e s',CX [] H s₁ (fun _ _ _=>False) e s'->False) :
  codeAny (Ky P w) callerA (.call (.ref fa) ⟨[.ref a],[]⟩) (fun r s'=>r=.ok (.ret (.bool true))/\OldK s₁.heap s'.heap/\s'.os=s₁.os/\AllBare s'.gens) s₁:=by
 have rv:=vals_ints hi
 have lenV:=hi.length
 have core:∀ H:Hp,Only H->SqL K H a (ns.map V.int)->HOk P w H s₁.heap->(∀ b,H b≠none->b=a)->(H a≠none->K.lookup a=none) ->
   codeAny (Ky P w) callerA (.call (.ref fa) ⟨[.ref a],[]⟩) (fun r s'=>r=.ok (.ret (.bool true))/\OldK s₁.heap s'.heap/\s'.os=s₁.os/\AllBare s'.gens) s₁:=by
  intro H hO hS hok hA hK
  have base_of:∀ {b:Kc} {o:KA},s₁.heap.get? b=some o->H b=none->(hidT s₁.heap H).get? b=some o:=fun e n=>hidT_get e n
  have noA:∀ {b:Kc} {o:KA} {es:Array DictEntry} {ep:Nat},s₁.heap.get? b=some o->o.data=.dict es ep->H b=none:=fun {b o es ep} e d=>by
   cases q:H b with
   | none=>rfl
   | some u =>
    have e':b=a:=hA b (by rw [q];simp)
    subst e'
    rw [ha] at e;cases e
    have d':Data.seq vs.toArray _=Data.dict es ep:=d
    cases d'
  have nsK:∀ {b:Kc} {m:Kw->Option Ka},s₁.heap.Ns b m->(hidT s₁.heap H).Ns b m:=fun {b m} ⟨o,es,ep,e,d,r⟩=>⟨o,es,ep,base_of e (noA e d),d,r⟩
  have hKb:K.In (hidT s₁.heap H):=fun b o e=>base_of (KX b o e) (by
   cases q:H b with
   | none=>rfl
   | some u =>
    have e':b=a:=hA b (by rw [q];simp)
    subst e'
    rw [hK (by rw [q];simp)] at e;cases e)
  have hM:Mod K mg (hidT s₁.heap H):=⟨hKb,nsK hns,⟨mb,nsK hb,hbb⟩,let ⟨mc,h1,h2⟩:=hlim;⟨mc,nsK h1,h2⟩,(by
   obtain ⟨⟨mc,x1,x2⟩,⟨mm,x3,x4⟩,⟨mb',x5,x6⟩,⟨mg',bm,ob,x7,x8,x9,x10,x11⟩⟩:=hseer
   refine ⟨⟨mc,nsK x1,x2⟩,⟨mm,nsK x3,x4⟩,⟨mb',nsK x5,x6⟩,⟨mg',bm,ob,nsK x7,x8,base_of x9 ?_,x10,x11⟩⟩
   cases q:H bm with
   | none=>rfl
   | some u =>
    have e':bm=a:=hA bm (by rw [q];simp)
    subst e'
    rw [ha] at x9;cases x9
    simp at x10)⟩
  have e0:Env0 P w K mg (hidT s₁.heap H) callerA [] s₁ H:=⟨rfl,hM,fun b o e=>of_hidT e,Nat.le_of_eq (hidT_size _ _),trivial,fun b hb=>absurd (show b∈([]:List Kc) from hb) (by simp),hok,.of_eq hg,htree⟩
  refine codeAny_mono ((F _ hKb (nsK hns)).run callerA [] s₁ H ⟨[.ref a],[]⟩ [.ref a] [.ref a] _ _ hr e0 (hbind s₁ (.ref a)) (.cons rfl .nil) (hsp H hO hS)) fun r s' h=>?_
  cases r with
  | error e=>exact (hCX H e s' h).elim
  | ok fl =>
   cases fl with
   | next=>exact False.elim h
   | brk=>exact False.elim h
   | cont=>exact False.elim h
   | ret u =>
    obtain ⟨v,H',os,bare,un,hok',r',q⟩:=h
    have q':v=.bl true:=q
    subst q'
    obtain rfl:u=Value.bool true:=r'
    refine ⟨rfl,OldK.of_keep fun b o e=>?_,os,bare⟩
    cases q:H b with
    | none=>exact un.keep b o e q (by intro z;exact absurd (show b∈([]:List Kc) from z) (by simp)) (by simp)
    | some u =>
     rcases hO b with z | ⟨ob,xs,z⟩
     ·rw [q] at z;cases z
     ·have z2:=un.frzs b ob _ z
      obtain ⟨e1,_⟩:=hok b _ z
      obtain ⟨e2,_⟩:=hok' b _ z2
      rw [e] at e1;cases e1
      exact e2
 cases hk:K.lookup a with
 | some o =>
  have e:=KX a o hk
  rw [ha] at e
  cases e
  refine core (fun _=>none) (fun _=>.inl rfl) (.inr ⟨_,vs.toArray,_,hk,rfl,rfl,rfl,by rw [Qp,lenV];exact hl,by simpa using rv⟩) (fun b u z=>by have z':(none:Option HO)=some u:=z;cases z') (fun b z=>absurd rfl z) fun z=>absurd rfl z
 | none =>
  refine core (fun b=>if b=a then some (.frz { cls:=.type "list",data:=.seq vs.toArray } (.lst (ns.map V.int))) else none) (fun b=>?_) (.inl (.inr ⟨{ cls:=.type "list",data:=.seq vs.toArray },KQ rfl⟩)) (fun b u z=>?_) (fun b z=>?_) fun _=>hk
  ·by_cases hb:b=a
   ·exact .inr ⟨_,_,KQ hb⟩
   ·exact .inl (KR hb)
  ·by_cases hb:b=a
   ·have z':=(KQ hb).symm.trans z
    cases z'
    subst hb
    exact ⟨ha,by rw [Qe];exact hl,vs,_,rv,ha⟩
   ·have z':=(KR hb).symm.trans z
    cases z'
  ·by_cases hb:b=a
   ·exact hb
   ·exact absurd (KR hb) z
end L2
namespace L2
open PySem PySem.Spec PyProof.Rows
theorem walk_of {l:PySem.W.OpenLaw} {n k:Nat} {q:Ki} {loose:List Kw} {XP:(Kw->Option Ka)->Kl->Prop} {YP:Kk->Kl->Prop} {d:DefRec} {K:Params->KC} {CX:Kk->CXT} {sp:Kk->Sp} {x:Kw}
  (hn:l.most=some n) (hn2:n<=Kg) (hdf:d.params.defaults=[]) (hr:Room k callerA) (himp:importsNone q=true) (htree:l.prog.given.tree=none)
  (hY:∀ (w:Kk) (h:Kl),YP w h->(K w.params).In h)
  (F:∀ (w:Kk) (mg:Kw->Option Ka) (fa:Kc) (h:Kl),(K w.params).In h->h.Ns Kf mg->mg d.name=some (.ref fa) ->
   ∃ fd:Kh,(∀ (s:Kb) (u:Ka),BindsTo s fd ⟨[u],[]⟩ [(x,u)]) /\
    ∀ base:Kl,(K w.params).In base->base.Ns Kf mg->FnOk l.prog w (K w.params) mg base (CX w) k fa fd [x] (sp w))
  (hsp:∀ (w:Kk) (H:Hp) (a:Kc) (ns:List Int),ns.length<=n->Only H->SqL (K w.params) H a (ns.map V.int)->sp w [.ref a] H (fun v _=>v=.bl true) fun _ _ _=>False)
  (hCX:∀ (w:Kk) (H:Hp) (s:Kb) (e:Ka) (s':Kb),CX w [] H s (fun _ _ _=>False) e s'->False) :
  PySem.W.WalkO q loose XP YP l.row.toRowW d [] (fun f vs=>PySem.call f vs):=by
 refine Att.attach_call hn hdf fun w s₀ s₁ mg mb fa o pm cd doc a vs ns G Y ho hd hcd hmg hobj hints hlen hg=>?_
 have KX:=hY w _ Y
 obtain ⟨fd,hb,hF⟩:=F w mg fa _ KX G.T.g hmg
 exact law_call KX G.T.g G.T.b G.T.builtins G.T.nolimit (G.T.seer himp) htree hg hobj hints (QA hlen hn2) hr hF hb (fun H hO hS=>hsp w H a ns hlen hO hS) fun H e s'=>hCX w H s₁ e s'
end L2
namespace L2
open PySem PySem.Spec PyProof.Rows
def Ye (s:Kx):Arguments:=match s with
 | .FunctionDef _ a _ _ _ _ _ _ _ _=>a
 | _=>{ posonlyargs:=[],args:=[],vararg:=none,kwonlyargs:=[],kw_defaults:=[],kwarg:=none,defaults:=[] }
def ZJ (s:Kx):List Kx:=match s with
 | .FunctionDef _ _ b _ _ _ _ _ _ _=>b
 | _=>[]
def zT (s:Kx):Scope:=match s with
 | .FunctionDef _ _ _ _ _ _ sc _ _ _=>sc
 | _=>{ kind:=.function,names:=[],isGenerator:=false,isCoroutine:=false }
abbrev CX0:CXT:=fun _ _ _ _ _ _=>False
abbrev E0:XK:=fun _ _ _=>False
theorem WU {X:Cx}:Jz CX0 X E0:=fun _ _ _ _ _ _ _ h=>h.elim
structure Fun (K:KC) (x qual:Kw) (st:Kx) (f:Kc) (fd:Kh):Prop where
 ex:∃ (oc:Ka) (od:Option Kc) (kV doc pm:Ka) (an:Option Kc) (cdv ct:Ka) (osl:Array (Option Ka)),
  fd=fnOf x qual (Ye st) (ZJ st) (zT st) .none kV doc pm an cdv ct/\K.lookup f=some ⟨oc,od,.func fd,osl⟩/\codeIn K cdv qual=true
 kp:keepIn K (.ref f)=true
section
variable {P:Ki} {w:Kk} {K:KC} {mg:Kw->Option Ka} {base:Kl}
theorem Fun.ok {x qual:Kw} {st:Kx} {f:Kc} {fd:Kh} {N ps:List Kw} {k:Nat} {sp:Sp} (F:Fun K x qual st f fd) (S:FnScope N ps (zT st)) (len:∀ vs H Q E,sp vs H Q E->vs.length=ps.length)
  (hbody:∀ (cdv:Ka) (A:Kj) (outer:List Env) (s:Kb) (H:Hp) (vs:List V) (Q:VK) (E:XK),Room k (A.deeper (envOfC qual (zT st) s.heap.objs.size f cdv))->sp vs H Q E ->
   ∃ t,PSs (cxOf CX0 P w K mg base N qual (zT st) f cdv A outer s H E).nox (ZJ st) t/\t { nx:=fun _ H'=>Q .non H',rt:=Q } (yJ N vs) H):FnOk P w K mg base CX0 (k+1) f fd ps sp:=by
 obtain ⟨oc,od,kV,doc,pm,an,cdv,ct,osl,rfl,lk,hcd⟩:=F.ex
 refine fn_of lk hcd S len fun A outer s H vs Q E hr hsp=>?_
 obtain ⟨t,h,q⟩:=hbody cdv A outer s H vs Q E hr hsp
 exact ⟨t,h.nox,q⟩
theorem Fun.binds {x qual:Kw} {st:Kx} {f:Kc} {fd:Kh} {ps:List Kw} (F:Fun K x qual st f fd)
  (h:∀ (kV doc pm:Ka) (an:Option Kc) (cdv ct:Ka) (us:List Ka),us.length=ps.length->bindArgs (fnOf x qual (Ye st) (ZJ st) (zT st) .none kV doc pm an cdv ct) ⟨us,[]⟩=pure (ps.zip us)):YQ K fd ps []:=by
 obtain ⟨oc,od,kV,doc,pm,an,cdv,ct,osl,rfl,lk,hcd⟩:=F.ex
 exact .all (h kV doc pm an cdv ct)
theorem fun_mk {x qual:Kw} {st:Kx} {f:Kc} {oc:Ka} {od an:Option Kc} {osl:Array (Option Ka)} {kV doc pm cdv ct:Ka} (l:K.lookup f=some ⟨oc,od,.func (fnOf x qual (Ye st) (ZJ st) (zT st) .none kV doc pm an cdv ct),osl⟩)
  (c:codeIn K cdv qual=true) (k:keepIn K (.ref f)=true):Fun K x qual st f (fnOf x qual (Ye st) (ZJ st) (zT st) .none kV doc pm an cdv ct):=⟨⟨oc,od,kV,doc,pm,an,cdv,ct,osl,rfl,l,c⟩,k⟩
end
theorem hu_of {A:Kj} {k:Nat} (hr:Room k A):A.units+1<cLine:=Q0 (Nat.add_le_add_left (by decide:1<=64) _) hr.units
section
variable {X:Cx}
theorem pv (i:Nat) {x:Kw} {pos:KB} (hN:X.N[i]?=some x:=by rfl) (hv:Vis X.env.scope x:=by first | exact Or.inl rfl | exact Or.inr (Or.inl rfl) | exact Or.inr (Or.inr rfl)) (hd:(x == ("__debug__":Kw))=false:=by decide)
  (hcd:(x == ("__classdict__":Kw))=false:=by decide):PE X (.Name x pos) (Zn i):=pe_var hN hv hd hcd
end
def zO (H H':Hp):Prop:=∀ b o,H b=some o->H' b=some o
theorem zO.refl (H:Hp):zO H H:=fun _ _ h=>h
theorem zO.trans {H H1 H2:Hp} (a:zO H H1) (b:zO H1 H2):zO H H2:=fun c o h=>b c o (a c o h)
theorem zO.free {H H':Hp} (e:zO H H') {l:Kc} (h:H' l=Option.none):H l=Option.none:=by
 cases q:H l with
 | none=>rfl
 | some o =>
  rw [e l o q] at h
  cases h
theorem zO.seq {K:KC} {H H':Hp} {a:Kc} {xs:List V} (e:zO H H') (h:SqL K H a xs):SqL K H' a xs:=by
 rcases h with (h | ⟨o,h⟩) | h
 ·exact .inl (.inl (e _ _ h))
 ·exact .inl (.inr ⟨o,e _ _ h⟩)
 ·exact .inr h
end L2
set_option maxHeartbeats 4000000
namespace L2
open PySem PySem.Spec PyProof.Rows
def YE (env:Env):List (Kw×Ku)->List (Kw×Kc)->List (Kw×Kc)
 | [],acc=>acc
 | (n,k)::r,acc=>if k == .free then (match env.cells.lookup n with | some a=>YE env r ((n,a)::acc) | none=>YE env r acc) else YE env r acc
theorem closure_of {env:Env} {scope:Scope} (h:∀ x∈scope.names,x.2=.free->∃ c,env.cells.lookup x.1=some c):closureFor scope env=pure (YE env scope.names []):=by
 suffices ∀ (names:List (Kw×Ku)) (acc:List (Kw×Kc)),(∀ x∈names,x.2=.free->∃ c,env.cells.lookup x.1=some c) ->
   (forIn names acc fun (x:Kw×Ku) cs=>(do
    if x.2 == .free then
     let a <- cellOf env x.1
     pure (ForInStep.yield ((x.1,a)::cs))
    else pure (ForInStep.yield cs):Sem (ForInStep (List (Kw×Kc)))))=pure (YE env names acc) by
  have q:=this scope.names [] h
  unfold closureFor
  refine Eq.trans (bind_pure _) ?_
  rw [<- q]
 intro names
 induction names with
 | nil=>intro acc _;rfl
 | cons x r ih =>
  intro acc h
  obtain ⟨n,k⟩:=x
  rw [List.forIn_cons]
  cases hk:k == NameKind.free with
  | false =>
   simp only [hk,PJ,if_false,pure_bind]
   rw [ih acc fun y hy=>h y (Qc _ hy)]
   simp [YE,hk]
  | true =>
   obtain ⟨c,hc⟩:=h (n,k) Qj (by simpa using hk)
   have hc':env.cells.lookup n=some c:=hc
   have e1:cellOf env n=pure c:=by unfold cellOf;rw [hc']
   simp only [hk,if_true,e1,pure_bind]
   rw [ih _ fun y hy=>h y (Qc _ hy)]
   simp [YE,hk,hc']
theorem jg {env:Env}:∀ (names:List (Kw×Ku)) (acc:List (Kw×Kc)) (n:Kw) (c:Kc),(n,c)∈YE env names acc->(n,c)∈acc\/(∃ k,(n,k)∈names/\k=.free/\env.cells.lookup n=some c)
 | [],_,_,_,h=>.inl h
 | (m,k)::r,acc,n,c,h=>by
  unfold YE at h
  cases hk:k == NameKind.free with
  | false =>
   rw [hk] at h
   rcases jg r acc n c (by simpa using h) with q | ⟨k',q1,q2⟩
   ·exact .inl q
   ·exact .inr ⟨k',Qc _ q1,q2⟩
  | true =>
   rw [hk] at h
   have hk':k=.free:=by simpa using hk
   cases hc:env.cells.lookup m with
   | none =>
    rw [hc] at h
    rcases jg r acc n c (by simpa using h) with q | ⟨k',q1,q2⟩
    ·exact .inl q
    ·exact .inr ⟨k',Qc _ q1,q2⟩
   | some a =>
    rw [hc] at h
    rcases jg r _ n c (by simpa using h) with q | ⟨k',q1,q2⟩
    ·rcases Qa.mp q with e | q
     ·cases e;exact .inr ⟨k,Qj,hk',hc⟩
     ·exact .inl q
    ·exact .inr ⟨k',Qc _ q1,q2⟩
theorem j3 {env:Env}:∀ (names:List (Kw×Ku)) (acc:List (Kw×Kc)) (n:Kw),((n,NameKind.free)∈names/\(∃ c,env.cells.lookup n=some c))\/(acc.lookup n).isSome=true->((YE env names acc).lookup n).isSome=true
 | [],_,_,h=>h.elim (fun ⟨q,_⟩=>nomatch q) id
 | (m,k)::r,acc,n,h=>by
  unfold YE
  cases hk:k == NameKind.free with
  | false =>
   refine (j3 r acc n ?_)
   rcases h with ⟨q,c⟩ | h
   ·rcases Qa.mp q with e | q
    ·cases e;simp at hk
    ·exact .inl ⟨q,c⟩
   ·exact .inr h
  | true =>
   have hk':k=.free:=by simpa using hk
   subst hk'
   simp only [if_true]
   cases hc:env.cells.lookup m with
   | none =>
    refine (j3 r acc n ?_)
    rcases h with ⟨q,c,hc2⟩ | h
    ·rcases Qa.mp q with e | q
     ·cases e;rw [hc] at hc2;cases hc2
     ·exact .inl ⟨q,c,hc2⟩
    ·exact .inr h
   | some a =>
    refine (j3 r _ n ?_)
    by_cases e:n=m
    ·exact .inr (by simp [QQ,e])
    ·have e':(n == m)=false:=by simpa using e
     rcases h with ⟨q,c⟩ | h
     ·rcases Qa.mp q with e2 | q
      ·cases e2;exact absurd rfl e
      ·exact .inl ⟨q,c⟩
     ·exact .inr (by simpa [QQ,e'] using h)
theorem clOf_free {env:Env} {n:Kw} {names:List (Kw×Ku)} (h:((n,NameKind.free)∈names)) {c:Kc} (hc:env.cells.lookup n=some c):(YE env names []).lookup n=some c:=by
 have q:=j3 names [] n (.inl ⟨h,c,hc⟩)
 obtain ⟨c',e⟩:=PK.mp q
 rcases jg names [] n c' (mem_of_lookup e) with z | ⟨_,_,_,z⟩
 ·cases z
 ·rw [hc] at z;cases z;exact e
theorem newEnv_comp {M:Model} {A:Kj} {E:Ka->Kb->Prop} {s:Kb} {scope:Scope} {globals:Kc} {cl:List (Kw×Kc)} {qual:Kw} {env:Env} {Q:Env->Kb->Prop}
  (hQ:∀ h',(∀ b o,s.heap.get? b=some o->h'.get? b=some o)->h'.Ns s.heap.objs.size (fun _=>none) ->
   (∀ n c,(n,c)∈cellsFrom (s.heap.objs.size+1) scope.names cl->(n,c)∈cl\/((n,c)∈cellsFrom (s.heap.objs.size+1) scope.names []/\s.heap.objs.size<c/\h'.IsCell c none)) ->
   ((cellsFrom (s.heap.objs.size+1) scope.names []).Pairwise fun x y=>x.2≠y.2) ->
   Q (newEnv scope s.heap.objs.size globals (cellsFrom (s.heap.objs.size+1) scope.names cl) qual none .none (some env) builtinsNs) { s with heap:=h' }) :
  Ko M A (newFunctionEnv scope globals cl [] qual none .none (some env)) Q E s:=by
 unfold newFunctionEnv
 simp only [Option.isSome_some,if_true]
 refine Qb (wpAny_alloc ?_)
 refine Qb (wpAny_layCells _ (fun name kind cells=>by cases hkc:kind == NameKind.cell <;> simp [hkc]) _ _ _ _ ?_)
 have ok:=cellsFrom_ok scope.names (s.heap.push { cls:=.type "dict",data:=.dict #[] }) (s.heap.objs.size+1) [] ⟨fun _ _ hm=>(nomatch hm),List.Pairwise.nil⟩ (by rw [QG];exact Ql _)
 rw [QG] at ok
 rw [show ({ s with heap:=s.heap.push { cls:=.type "dict",data:=.dict #[] } }:Kb).heap.objs.size=s.heap.objs.size+1 from QG ..]
 simp only [List.forIn_nil,pure_bind]
 refine Qn (hQ _ (fun b o e=>pushCells_keeps _ _ b o (Qd _ e)) ((Heap.Ns.new s.heap (.type "dict")).keeps (pushCells_keeps _ _)) ?_ ok.apart)
 have app:∀ (names:List (Kw×Ku)) (n:Nat) (acc:List (Kw×Kc)) (x:Kw×Kc),x∈cellsFrom n names (acc++cl)->x∈cl\/x∈cellsFrom n names acc:=by
  intro names
  induction names with
  | nil=>intro n acc x h;exact (Qq.mp h).symm
  | cons y r ih =>
   intro n acc x h
   obtain ⟨m,k⟩:=y
   unfold cellsFrom at h ⊢
   split at h
   ·rename_i hk;rw [KQ hk];exact ih (n+1) ((m,n)::acc) x h
   ·rename_i hk;rw [KR hk];exact ih n acc x h
 intro n c hm
 rcases app scope.names _ [] (n,c) hm with q | q
 ·exact .inl q
 ·obtain ⟨z1,z2⟩:=ok.empty n c q
  exact .inr ⟨q,z2,z1⟩
theorem j0 {prog:Ki} {w:Kk} {A:Kj} {R:Result->Kb->Prop} {s:Kb} {elt target iter:Kv} {ifs:List Kv} {scope:Scope} {pos:KB} {it acc:Ka} {env:Env} (I:Nat->Kb->Prop)
  (turn:∀ n s,I n s->Ko (Ky prog w) A (pyNext it) (fun r s₁=>match r with
   | none=>R (.ok .next) s₁
   | some v=>Ko (Ky prog w) A (letOwnedTupleGo target it v) (fun _ s₁'=>Ko (Ky prog w) A (assign target env v) (fun _ s₂ =>
     Ko (Ky prog w) A (forIn ifs true fun c r=>if r=true then do let ok <- isTrue c env (Kz c env);pure (ForInStep.yield ok) else pure (ForInStep.yield r)) (fun ok s₃ =>
      if ok=true then Ko (Ky prog w) A (Kz elt env) (fun x s₄ =>
       Ko (Ky prog w) A (call (.builtin "list.append") [acc,x]) (fun _ s₅=>∃ m,m<n/\I m s₅) (fun _ _=>False) s₄) (fun _ _=>False) s₃
      else ∃ m,m<n/\I m s₃) (fun _ _=>False) s₂) (fun _ _=>False) s₁') (fun _ _=>False) s₁) (fun _ _=>False) s)
  (n:Nat) (h:I n s) :
  codeAny (Ky prog w) A (.compLoop (.ListComp elt [⟨target,iter,ifs,0⟩] scope pos) 0 it acc env) R s:=by
 refine codeAny_loop rfl I (fun n s hI=>?_) n h
 show Ko _ A ((compTurn (.ListComp elt [⟨target,iter,ifs,0⟩] scope pos) 0 it acc env).onRaise (fun x=>do noteFrame x env;theTreesLotGoes x)) _ _ s
 refine wpAny_noted ?_
 rw [compTurn_list]
 refine Qb (P3 (Qb (Q6 (turn n s hI) (fun r s₁ h₁=>?_) fun _ _ h'=>h'.elim)))
 cases r with
 | none=>exact Qn h₁
 | some v =>
  refine Qb (Q6 h₁ (fun _ s₁' h₁'=>?_) fun _ _ h'=>h'.elim)
  refine Qb (Q6 h₁' (fun _ s₂ h₂=>Qb (Q6 h₂ (fun ok s₃ h₃=>?_) fun _ _ h'=>h'.elim)) fun _ _ h'=>h'.elim)
  cases ok with
  | false=>exact Qn ⟨rfl,h₃⟩
  | true =>
   exact Qb (Qb (Q6 h₃ (fun x s₄ h₄=>Qb (Q6 h₄ (fun _ s₅ h₅=>Qn (Qn ⟨rfl,h₅⟩)) fun _ _ h'=>h'.elim)) fun _ _ h'=>h'.elim))
end L2
namespace L2
open PySem PySem.Spec PyProof.Rows
theorem yO {env:Env} {x:Kw} {k:Ku}:∀ {names:List (Kw×Ku)},
  (names.map fun (n,k)=>if (k == NameKind.free&&env.scope.kind == .function&&env.kindOf n == some .cell) then (n,NameKind.cell) else (n,k)).lookup x=some k ->
  ∃ k',names.lookup x=some k'/\(k=k'\/(k'=.free/\k=.cell))
 | [],h=>by simp at h
 | (n,k')::r,h=>by
  have ih:=@yO env x k r
  rw [Qk] at h
  by_cases hc:(k' == NameKind.free&&env.scope.kind == .function&&env.kindOf n == some .cell)=true
  ·simp only [hc,if_true] at h
   have hf:k'=.free:=by
    simp only [QC,beq_iff_eq] at hc
    exact hc.1.1
   cases hx:x == n with
   | true=>simp only [QQ,hx] at h ⊢;cases h;exact ⟨k',rfl,.inr ⟨hf,rfl⟩⟩
   | false=>simp only [QQ,hx] at h ⊢;exact ih h
  ·have hc':(k' == NameKind.free&&env.scope.kind == .function&&env.kindOf n == some .cell)=false:=by simpa using hc
   simp only [hc',PJ,if_false] at h
   cases hx:x == n with
   | true=>simp only [QQ,hx] at h ⊢;cases h;exact ⟨k,rfl,.inl rfl⟩
   | false=>simp only [QQ,hx] at h ⊢;exact ih h
theorem jR {env:Env} {x:Kw} {k':Ku}:∀ {names:List (Kw×Ku)},names.lookup x=some k' ->
  ∃ k,(names.map fun (n,k)=>if (k == NameKind.free&&env.scope.kind == .function&&env.kindOf n == some .cell) then (n,NameKind.cell) else (n,k)).lookup x=some k/\(k=k'\/(k'=.free/\k=.cell))
 | [],h=>by simp at h
 | (n,k1)::r,h=>by
  have ih:=@jR env x k' r
  rw [Qk]
  by_cases hc:(k1 == NameKind.free&&env.scope.kind == .function&&env.kindOf n == some .cell)=true
  ·simp only [hc,if_true]
   have hf:k1=.free:=by
    simp only [QC,beq_iff_eq] at hc
    exact hc.1.1
   cases hx:x == n with
   | true=>simp only [QQ,hx] at h ⊢;cases h;exact ⟨_,rfl,.inr ⟨hf,rfl⟩⟩
   | false=>simp only [QQ,hx] at h ⊢;exact ih h
  ·have hc':(k1 == NameKind.free&&env.scope.kind == .function&&env.kindOf n == some .cell)=false:=by simpa using hc
   simp only [hc',PJ,if_false]
   cases hx:x == n with
   | true=>simp only [QQ,hx] at h ⊢;cases h;exact ⟨_,rfl,.inl rfl⟩
   | false=>simp only [QQ,hx] at h ⊢;exact ih h
theorem YF {x:Kw}:∀ (names:List (Kw×Ku)) (n:Nat) (acc:List (Kw×Kc)),(∀ y∈names,y.2=.cell->y.1≠x)->(cellsFrom n names acc).lookup x=acc.lookup x
 | [],_,_,_=>rfl
 | (m,k)::r,n,acc,h=>by
  unfold cellsFrom
  split
  ·rename_i hk
   rw [YF r _ _ fun y hy=>h y (Qc _ hy)]
   have:x≠m:=fun e=>h (m,k) Qj (by simpa using hk) e.symm
   have e':(x == m)=false:=by simpa using this
   rw [QQ,e']
  ·exact YF r _ _ fun y hy=>h y (Qc _ hy)
def Zu (X:Cx) (scope:Scope) (own N':List Kw) (s₂:Kb) (H₂:Hp) (fp:List Kc) (C:Kc):Cx where
 prog:=X.prog
 w:=X.w
 K:=X.K
 mg:=X.mg
 base:=X.base
 A:=X.A
 N:=N'
 s₀:=s₂
 P9:=H₂
 env:=compEnvC scope (cellsFrom (C+1) scope.names (YE X.env scope.names [])) C X.env
 outer:=X.stack
 stack:=X.stack
 ex:=fp
 fn:=fun x=>own.contains x
 calm:=X.calm
 pn:=[]
 xe:=fun _ _=>False
structure CompOk (X:Cx) (scope:Scope) (own N':List Kw) (k:Nat):Prop where
 kind:scope.kind=.function
 loc:∀ y∈scope.names,y.2=.local->scope.names.lookup y.1=some .local
 cel:∀ y∈scope.names,y.2=.cell->scope.names.lookup y.1=some .cell
 free:∀ y∈scope.names,y.2=.free->X.env.scope.names.lookup y.1=some .cell\/X.env.scope.names.lookup y.1=some .free
 own:∀ y∈scope.names,y.2=.free->own.contains y.1=false
 len:N'.length=X.N.length+k
 nm:∀ (i:Nat) (x:Kw),i<X.N.length->N'[i]?=some x->scope.names.lookup x=none\/(X.N[i]?=some x/\scope.names.lookup x=some .free)
def PF (X:Cx) (ifs:List Kv) (t:TT):Prop :=
 ∀ (KJ:List (Kc×KA)) (s:Kb) (σ:St) (H:Hp) (Q:Bool->Hp->Prop),Inv X KJ σ H s->t σ H Q ->
  Ko (Ky X.prog X.w) X.A (forIn ifs true fun c r=>if r=true then do let ok <- isTrue c X.env (Kz c X.env);pure (ForInStep.yield ok) else pure (ForInStep.yield r)) (TP X KJ σ Q) X.xe s
def tYes:TT:=fun _ H Q=>Q true H
theorem pf_nil {X:Cx}:PF X [] tYes:=fun KJ s σ H Q I h=>Qn ⟨H,I,h⟩
theorem pf_one {X:Cx} {c:Kv} {t:TT} (h:PT X c t):PF X [c] t:=fun KJ s σ H Q I q=>wpAny_tests_one (h KJ s σ H Q I q)
def wy (k:Nat) (wi:TI) (g:TG) (tc:TT) (te:TE):TE:=fun σ H Q=>wi σ H fun J H1=>∀ D,H1 D=none ->
 ∃ W:Nat->Nat->List V->St->Hp->Prop,(∃ m,W 0 m [] (σ++List.replicate k none) (upd H1 D (.lst [])))/\∀ i m ys σ' H',W i m ys σ' H'->H' D=some (.lst ys) /\
  ((J.stop i H'/\Q (.ref D) H')\/(J.go i H'/\∀ x H2,J.yld i H' x H2->g x σ' H2 fun σ3 H3=>tc σ3 H3 fun b H4 =>
   if b=true then te σ3 H4 fun v H5=>H5 D=some (.lst ys)/\ys.length<Kg/\∃ m',m'<m/\W (i+1) m' (ys++[v]) σ3 (upd H5 D (.lst (ys++[v])))
   else ∃ m',m'<m/\W (i+1) m' ys σ3 H4))
section
variable {X:Cx} {scope:Scope} {own N':List Kw} {k:Nat}
theorem inv_comp {KJ:List (Kc×KA)} {σ:St} {H:Hp} {s:Kb} {fp:List Kc} {h':Kl} {t':Nat} {h1:Kl} {D:Kc} (c:CompOk X scope own N' k) (I:Inv X KJ σ H s) (hf:∀ b∈fp,J2 X KJ H b) (hfl:∀ b∈fp,b<s.heap.objs.size)
  (h1sz:s.heap.objs.size<h1.objs.size) (up1:∀ b o,s.heap.get? b=some o->h1.get? b=some o) (hD:H D=none) (un1:Un (frs X.stack) fp H (upd H D (.lst [])) s.heap h1) (hok1:HOk X.prog X.w (upd H D (.lst [])) h1)
  (up:∀ b o,h1.get? b=some o->h'.get? b=some o) (ns:h'.Ns h1.objs.size (fun _=>none))
  (cs:∀ n a,(n,a)∈cellsFrom (h1.objs.size+1) scope.names (YE X.env scope.names [])->(n,a)∈YE X.env scope.names []\/((n,a)∈cellsFrom (h1.objs.size+1) scope.names []/\h1.objs.size<a/\h'.IsCell a none))
  (ap:(cellsFrom (h1.objs.size+1) scope.names []).Pairwise fun x y=>x.2≠y.2) :
  Inv (Zu X scope own N' s H fp h1.objs.size) [] (σ++List.replicate k none) (upd H D (.lst [])) { s with heap:=h',toks:=t' }:=by
 have hCs:s.heap.objs.size<=h1.objs.size:=Pm h1sz
 have old:∀ n a,(n,a)∈YE X.env scope.names []->X.env.cells.lookup n=some a:=fun n a hm=>by
  rcases jg _ _ _ _ hm with z | ⟨_,_,_,z⟩
  ·cases z
  ·exact z
 have oldlt:∀ n a,(n,a)∈YE X.env scope.names []->@LT.lt Nat instLTNat a s.heap.objs.size:=fun n a hm=>by
  obtain ⟨v,q⟩:=I.cell n a (old n a hm)
  exact q.lt
 have inj:∀ x y a,(x,a)∈cellsFrom (h1.objs.size+1) scope.names (YE X.env scope.names [])->(y,a)∈cellsFrom (h1.objs.size+1) scope.names (YE X.env scope.names [])->x=y:=fun x y a hx hy=>by
  rcases cs x a hx with p | ⟨p,p1,_⟩ <;> rcases cs y a hy with q | ⟨q,q1,_⟩
  ·exact I.ok.inj x y a (old _ _ p) (old _ _ q)
  ·have:=oldlt _ _ p;omega
  ·have:=oldlt _ _ q;omega
  ·exact name_of_addr ap p q
 have freeC:∀ x a,(x,a)∈cellsFrom (h1.objs.size+1) scope.names (YE X.env scope.names [])->(upd H D (.lst [])) a=none:=fun x a hx=>by
  rcases cs x a hx with p | ⟨p,p1,_⟩
  ·obtain ⟨v,o,ho,hd⟩:=I.cell x a (old _ _ p)
   refine un1.free a o ho (I.freeC x a (old _ _ p)) fun z=>?_
   exact (hf a z).2.2.2.2.1 x a (old _ _ p) rfl
  ·exact hok1.fresh (Pm p1)
 have fsn:∀ b∈frs X.stack,b<s.heap.objs.size:=fun b hb=>by
  obtain ⟨_,o,ho,_⟩:=I.stack.mem hb
  exact Qr ho
 refine ⟨⟨I.ok.mod,c.kind,I.ok.glob,I.ok.blt,hCs,fun x y a h1' h2'=>inj x y a (mem_of_lookup h1') (mem_of_lookup h2'),fun x hx=>?_,fun x a hx ha=>?_,I.ok.hd,I.ok.frames,.inl rfl,fun b hb=>⟨?_,fun x a ha=>?_⟩,I.bs,QA I.ok.bsz I.sz,fun b o e hb=>?_,fun b hb hb2=>?_,I.stack,I.stkFree,I.ok.top,I.ok.tree⟩,
  rfl,I.bare,un1.trans (Un.kept up),⟨_,ns,fun i x v e1 e2 e3=>?_⟩,fun x a ha=>?_,?_,fun x a ha=>freeC x a (mem_of_lookup ha),fun p hp=>absurd (show p∈([]:List (Kc×KA)) from hp) (by simp),hok1.kept up,?_⟩
 ·-- has
  have hx':(scope.names.map fun (n,k)=>if (k == NameKind.free&&X.env.scope.kind == .function&&X.env.kindOf n == some .cell) then (n,NameKind.cell) else (n,k)).lookup x=some .cell\/(scope.names.map fun (n,k)=>if (k == NameKind.free&&X.env.scope.kind == .function&&X.env.kindOf n == some .cell) then (n,NameKind.cell) else (n,k)).lookup x=some .free:=hx
  have hk:scope.names.lookup x=some .cell\/scope.names.lookup x=some .free:=by
   rcases hx' with z | z
   ·obtain ⟨k',e,q⟩:=yO z
    rcases q with q | ⟨q,_⟩
    ·exact .inl (by rw [e,<- q])
    ·exact .inr (by rw [e,q])
   ·obtain ⟨k',e,q⟩:=yO z
    rcases q with q | ⟨q,_⟩
    ·exact .inr (by rw [e,<- q])
    ·exact .inr (by rw [e,q])
  refine PK.mp (PySem.W.cellsFrom_some scope.names _ _ ?_)
  rcases hk with z | z
  ·exact .inl z
  ·refine .inr (j3 _ _ _ (.inl ⟨mem_of_lookup z,?_⟩))
   rcases c.free (x,.free) (mem_of_lookup z) rfl with q | q
   ·exact I.ok.has x (.inl q)
   ·exact I.ok.has x (.inr q)
 ·-- cab
  rcases cs x a (mem_of_lookup ha) with p | ⟨p,p1,_⟩
  ·rcases jg _ _ _ _ p with z | ⟨k',z1,z2,_⟩
   ·cases z
   ·have:=c.own (x,k') z1 z2
    have hx':own.contains x=true:=hx
    rw [hx'] at this;cases this
  ·exact QA hCs (Pm p1)
 ·exact QE (Qx (hfl b hb) hCs)
 ·rcases cs x a (mem_of_lookup ha) with p | ⟨p,p1,_⟩
  ·exact (hf b hb).2.2.2.2.1 x a (old _ _ p)
  ·have q:@LT.lt Nat instLTNat b s.heap.objs.size:=hfl b hb
   exact fun z=>by subst z;omega
 ·-- noex
  have hb:b∈fp:=hb
  rcases (hf b hb).2.2.2.1 with z | z
  ·exact I.ok.noex b o e z
  ·have q1:@LT.lt Nat instLTNat b X.base.objs.size:=Qr e
   have:=I.ok.bsz
   omega
 ·have hb:b∈fp:=hb
  rcases Qa.mp (I.stkSub b hb2) with z | z
  ·exact (hf b hb).2.1 z
  ·exact (hf b hb).2.2.1 z
 ·-- loc
  have hiσ:i<σ.length:=by
   by_cases hi:i<σ.length
   ·exact hi
   ·rw [QY (by omega),Pl] at e2
    split at e2 <;> cases e2
  rw [QM hiσ] at e2
  have hiN:i<X.N.length:=by rw [<- I.len];exact hiσ
  have e1:N'[i]?=some x:=e1
  have vis:scope.names.lookup x≠none:=by
   have e3:Vis (relabel scope X.env) x:=e3
   unfold Vis at e3
   rcases e3 with z | z | z <;> (obtain ⟨k',q,_⟩:=yO z;rw [q];simp)
  rcases c.nm i x hiN e1 with z | ⟨z1,z2⟩
  ·exact absurd z vis
  obtain ⟨m,hn,hl⟩:=I.loc
  have hfr:=c.free (x,.free) (mem_of_lookup z2) rfl
  obtain ⟨u,r,l⟩:=hl i x v z1 e2 (hfr.elim (fun q=>.inr (.inl q)) fun q=>.inr (.inr q))
  refine ⟨u,r,?_⟩
  rcases l with ⟨kk,_⟩ | ⟨kk,a,ea,ca⟩
  ·have kk:X.env.scope.names.lookup x=some .local:=kk
   rcases hfr with q | q
   ·have q:X.env.scope.names.lookup x=some .cell:=q
    rw [kk] at q;cases q
   ·have q:X.env.scope.names.lookup x=some .free:=q
    rw [kk] at q;cases q
  ·obtain ⟨k2,q1,q2⟩:=jR (env:=X.env) z2
   refine .inr ⟨?_,a,?_,?_⟩
   ·rcases q2 with q2 | ⟨_,q2⟩
    ·exact .inr (by subst q2;exact q1)
    ·exact .inl (by subst q2;exact q1)
   ·show (cellsFrom (h1.objs.size+1) scope.names (YE X.env scope.names [])).lookup x=some a
    rw [YF scope.names _ _ fun y hy hk e=>by
     have:=c.cel y hy hk
     rw [e,z2] at this;cases this]
    exact clOf_free (mem_of_lookup z2) ea
   ·exact (ca.keeps up1).keeps up
 ·-- cells
  rcases cs x a (mem_of_lookup ha) with p | ⟨p,p1,p2⟩
  ·obtain ⟨v,q⟩:=I.cell x a (old _ _ p)
   exact ⟨v,(q.keeps up1).keeps up⟩
  ·exact ⟨none,p2⟩
 ·exact hok1.fresh (Ql _)
 ·show (σ++List.replicate k none).length=N'.length
  rw [Qf,List.length_replicate,I.len,c.len]
theorem Un.but {fs ex:List Kc} {H H':Hp} {h h1 h2:Kl} {C:Kc} (u:Un fs ex H H' h h1) (hs:Heap.SameBut C h1 h2) (hC:h.objs.size<=C):Un fs ex H H' h h2:=by
 have ne:∀ b o,h.get? b=some o->b≠C:=fun b o e=>QE (Qx (Qr e) hC)
 exact ⟨fun b o e n hb hx=>(hs.2 b (ne b o e)).trans (u.keep b o e n hb hx),fun b o e n hb hx=>by
   obtain ⟨sl,q⟩:=u.slot b o e n hb hx
   exact ⟨sl,(hs.2 b (ne b o e)).trans q⟩,u.free,fun b o e hx=>by
   obtain ⟨o',q⟩:=u.there b o e hx
   exact ⟨o',(hs.2 b (ne b o e)).trans q⟩,u.tups,u.frzs,u.tbls⟩
theorem HOk.but {P:Ki} {w:Kk} {H:Hp} {h h2:Kl} {C:Kc} (ok:HOk P w H h) (hs:Heap.SameBut C h h2) (hC:H C=none):HOk P w H h2:=fun b o e =>
 (ok b o e).stay (fun c v hc q=>(hs.2 c (by
  rintro rfl
  rcases hc with rfl | hc
  ·rw [hC] at e;cases e
  ·rw [hC] at hc;cases hc)).trans q) (fun _ q=>q) fun _ _ q=>q
theorem gt {elt target iter:Kv} {ifs:List Kv} {pos:KB} {g:TG} {tc:TT} {te:TE} (c:CompOk X scope own N' k) (hc:X.calm=true)
  (hg:∀ s₂ H₂ fp C,PG (Zu X scope own N' s₂ H₂ fp C) target g) (ht:∀ s₂ H₂ fp C,PF (Zu X scope own N' s₂ H₂ fp C) ifs tc) (he:∀ s₂ H₂ fp C,PE (Zu X scope own N' s₂ H₂ fp C) elt te)
  {KJ:List (Kc×KA)} {σ:St} {H:Hp} {s:Kb} {E:Ka->Kb->Prop} {Q:VK} {it:Kc} {fp:List Kc} {tn:Nat->Kl->Prop} {J:It} (I:Inv X KJ σ H s) (T:J1 X.prog X.w X.K target J fp it tn) (st:tn 0 s.heap) (hf:∀ b∈fp,J2 X KJ H b)
  (hw:∀ D,H D=none->∃ W:Nat->Nat->List V->St->Hp->Prop,(∃ m,W 0 m [] (σ++List.replicate k none) (upd H D (.lst [])))/\∀ i m ys σ' H',W i m ys σ' H'->H' D=some (.lst ys) /\
   ((J.stop i H'/\Q (.ref D) H')\/(J.go i H'/\∀ x H2,J.yld i H' x H2->g x σ' H2 fun σ3 H3=>tc σ3 H3 fun b H4 =>
    if b=true then te σ3 H4 fun v H5=>H5 D=some (.lst ys)/\ys.length<Kg/\∃ m',m'<m/\W (i+1) m' (ys++[v]) σ3 (upd H5 D (.lst (ys++[v])))
    else ∃ m',m'<m/\W (i+1) m' ys σ3 H4)))
  {RR:Ka->Kc->Result->Kb->Prop}
  (hR:∀ D C σ' H' s',s.heap.objs.size<=C->Inv (Zu X scope own N' s H fp C) [] σ' H' s'->Q (.ref D) H'->RR (.ref D) C (.ok .next) s') :
  Ko (Ky X.prog X.w) X.A (newList []) (fun acc s₃=>Ko (Ky X.prog X.w) X.A (newFunctionEnv scope X.env.globals (YE X.env scope.names []) [] X.env.qual none .none (some X.env)) (fun cenv s₄ =>
   codeAny (Ky X.prog X.w) X.A (.compStart (.ListComp elt [⟨target,iter,ifs,0⟩] scope pos) 0 (.ref it) acc { cenv with scope:=relabel scope X.env }) (RR acc cenv.locals) s₄) E s₃) E s:=by
 have hfl:∀ b∈fp,b<s.heap.objs.size:=fun b hb=>by
  obtain ⟨o,e,_⟩:=T.obj 0 s.heap st b hb
  exact Qr e
 refine Q4 ?_
 have fr:H s.heap.objs.size=none:=I.hok.fresh (Ql _)
 have up1:∀ b o,s.heap.get? b=some o->(s.heap.push { cls:=.type "list",dict:=none,data:=.seq ([]:List Ka).toArray }).get? b=some o:=fun b o e=>Qd _ e
 have ok1:HOk X.prog X.w (upd H s.heap.objs.size (.lst [])) (s.heap.push { cls:=.type "list",dict:=none,data:=.seq ([]:List Ka).toArray }) :=
  I.hok.laid up1 (Ql _) ⟨Q5 _,[],0,.nil,Qo _ rfl⟩
 have un1:Un (frs X.stack) fp H (upd H s.heap.objs.size (.lst [])) s.heap (s.heap.push { cls:=.type "list",dict:=none,data:=.seq ([]:List Ka).toArray }):=Un.laid up1 (Ql _) fr
 have sz1:s.heap.objs.size<(s.heap.push { cls:=.type "list",dict:=none,data:=.seq ([]:List Ka).toArray }).objs.size:=by rw [QG];exact Ps _
 generalize (s.heap.push { cls:=.type "list",dict:=none,data:=.seq ([]:List Ka).toArray })=h1 at up1 ok1 un1 sz1 ⊢
 refine newEnv_comp fun h' up ns cs ap=>?_
 dsimp only at up ns cs ap ⊢
 obtain ⟨W,⟨m0,w0⟩,turn⟩:=hw _ fr
 have I4:Inv (Zu X scope own N' s H fp h1.objs.size) [] (σ++List.replicate k none) (upd H s.heap.objs.size (.lst [])) { s with heap:=h' }:=inv_comp (t':=s.toks) c I hf hfl sz1 up1 fr un1 ok1 up ns cs ap
 have st4:tn 0 h':=T.keep 0 _ _ st fun b hb o e=>up b o (up1 b o e)
 have fr4:∀ b∈fp,(upd H s.heap.objs.size (.lst [])) b=none:=fun b hb=>by
  rw [zh (QE (hfl b hb))];exact (hf b hb).1
 generalize ha:s.heap.objs.size=D at *
 have stat:∀ {H':Hp} ,(∀ b∈fp,H' b=none)->∀ b∈fp,J2 (Zu X scope own N' s H fp h1.objs.size) [] H' b:=fun hn b hb=>⟨hn b hb,(I4.ok.exf b hb).1,I4.ok.exfs b hb,.inl hb,(I4.ok.exf b hb).2,fun p hp=>absurd (show p∈([]:List (Kc×KA)) from hp) (by simp)⟩
 have loop:codeAny (Ky X.prog X.w) X.A (.compLoop (.ListComp elt [⟨target,iter,ifs,0⟩] scope pos) 0 (.ref it) (.ref D) (Zu X scope own N' s H fp h1.objs.size).env) (RR (.ref D) h1.objs.size) { s with heap:=h' }:=by
  refine j0 (fun n s'=>∃ i ys σ' H',Inv (Zu X scope own N' s H fp h1.objs.size) [] σ' H' s'/\tn i s'.heap/\(∀ b∈fp,H' b=none)/\W i n ys σ' H') ?_ m0 ⟨0,[],_,_,I4,st4,fr4,w0⟩
  rintro n s3 ⟨i,ys,σ3,H3,I3,st3,fr3,w3⟩
  obtain ⟨hD3,alt⟩:=turn i n ys σ3 H3 w3
  rcases alt with ⟨stop,qn⟩ | ⟨go,step⟩
  ·refine thn (T.done (Zu X scope own N' s H fp h1.objs.size) rfl rfl rfl hc i [] s3 σ3 H3 _ I3 (stat fr3) st3 stop) fun r s4 ⟨hr,I4'⟩=>?_
   subst hr
   exact hR D _ σ3 H3 s4 (Pm sz1) I4' qn
  ·refine thn (T.item (Zu X scope own N' s H fp h1.objs.size) rfl rfl rfl hc i [] s3 σ3 H3 _ I3 (stat fr3) st3 go) fun r s4 ⟨u,hr,h4⟩=>?_
   subst hr
   refine thn h4 fun _ s5 ⟨x,H5,I5,r5,y5,st5,fr5⟩=>?_
   have I5':=I5.pinned (stat fr5) (T.obj _ _ st5)
   refine thn (hg s H fp h1.objs.size _ s5 σ3 H5 x u _ I5' r5 (step x H5 y5)) fun _ s6 ⟨σ6,H6,I6,q6⟩=>?_
   refine thn (ht s H fp h1.objs.size _ s6 σ6 H6 _ I6 q6) fun b s7 ⟨H7,I7,q7⟩=>?_
   have again:∀ {ys':List V} {σ8:St} {H8:Hp} {s8:Kb} {m':Nat},Inv (Zu X scope own N' s H fp h1.objs.size) ([]++WS fp s5.heap) σ8 H8 s8->m'<n->W (i+1) m' ys' σ8 H8->∃ m,m<n/\∃ i ys σ' H',Inv (Zu X scope own N' s H fp h1.objs.size) [] σ' H' s8/\tn i s8.heap/\(∀ b∈fp,H' b=none)/\W i m ys σ' H':=fun {ys' σ8 H8 s8 m'} I8 hm w8=>by
    refine ⟨m',hm,i+1,ys',σ8,H8,I8.unpinned,T.keep _ _ _ st5 fun b hb o e=>(I8.pin (b,o) (QI _ (QI _ (jx hb e)))).1,fun b hb=>?_,w8⟩
    obtain ⟨o,e,d⟩:=T.obj _ _ st5 b hb
    exact (I8.pin (b,o) (QI _ (QI _ (jx hb e)))).2.1
   cases b with
   | false =>
    obtain ⟨m',hm,w7⟩:∃ m',m'<n/\W (i+1) m' ys σ6 H7:=q7
    exact again I7 hm w7
   | true =>
    show Ko _ _ (Kz elt (Zu X scope own N' s H fp h1.objs.size).env) _ _ s7
    refine thn (he s H fp h1.objs.size _ s7 σ6 H7 _ I7 q7) fun u8 s8 ⟨v8,H8,I8,r8,hD8,hz8,m',hm,w8⟩=>?_
    refine thn (Z5 (X:=Zu X scope own N' s H fp h1.objs.size) _ s8 σ6 H8 (.ref D) [v8] (.ref D) [u8] (fun _ H9=>H9=upd H8 D (.lst (ys++[v8]))) I8 rfl (.cons r8 .nil) ⟨D,ys,v8,rfl,rfl,hD8,hz8,rfl⟩) fun _ s9 ⟨_,H9,I9,_,e9⟩=>?_
    subst e9
    exact again I9 hm w8
 exact codeAny_compStart_list loop (T.self _ 0 _ _ _ st4 loop)
theorem clos_ok (c:CompOk X scope own N' k) (hX:X.Ok):closureFor scope X.env=pure (YE X.env scope.names []):=closure_of fun x hx hk=>by
 rcases c.free x hx hk with q | q
 ·exact hX.has x.1 (.inl q)
 ·exact hX.has x.1 (.inr q)
theorem gz {KJ:List (Kc×KA)} {σ σ':St} {H H':Hp} {s s':Kb} {fp:List Kc} {C:Kc} {h2:Kl} (I:Inv X KJ σ H s) (hf:∀ b∈fp,J2 X KJ H b) (hC:s.heap.objs.size<=C) (J:Inv (Zu X scope own N' s H fp C) [] σ' H' s') (hs:Heap.SameBut C s'.heap h2) :
  Inv X KJ σ H' { s' with heap:=h2 } :=
 I.call' (s':={ s' with heap:=h2 }) (ch:=fp) J.os (J.base.but hs hC) (J.hok.but hs J.free) J.bare fun b hb=>⟨(hf b hb).2.2.2.1,(hf b hb).2.1,(hf b hb).2.2.2.2.1,(hf b hb).2.2.2.2.2⟩
theorem pe_comp {elt target iter:Kv} {ifs:List Kv} {pos:KB} {wi:TI} {g:TG} {tc:TT} {te:TE} (c:CompOk X scope own N' k) (hc:X.calm=true) (hi:PI X target iter wi)
  (hg:∀ s₂ H₂ fp C,PG (Zu X scope own N' s₂ H₂ fp C) target g) (ht:∀ s₂ H₂ fp C,PF (Zu X scope own N' s₂ H₂ fp C) ifs tc) (he:∀ s₂ H₂ fp C,PE (Zu X scope own N' s₂ H₂ fp C) elt te)
  (hs:∀ x,foldedSetIterable iter X.env x=pure x:=by intro _;rfl):PE X (.ListComp elt [⟨target,iter,ifs,0⟩] scope pos) (wy k wi g tc te):=by
 intro KJ s σ H Q I h
 rw [eval_ListComp]
 refine wpAny_comprehension_free (use:=none) rfl hs (clos_ok c I.ok) c.kind c.loc ?_
 refine thn (hi KJ s σ H _ I h) fun v s1 h1=>thn h1 fun itv s2 h2=>?_
 obtain ⟨it,fp,tn,J,H2,e,I2,T,st2,f2,hw⟩:=h2
 subst e
 refine gt (RR:=fun acc C=>compPost (Ky X.prog X.w) X.A X.xe none (EP X KJ σ Q) acc C) c hc hg ht he I2 T st2 f2 hw ?_
 intro D C σ' H' s' hC J' q
 obtain ⟨m,hn,_⟩:=J'.loc
 exact ⟨m,hn,fun h2 hs2=>⟨.ref D,H',gz I2 f2 hC J' hs2,rfl,q⟩⟩
theorem ps_setComp {i:Nat} {x:Kw} {pos' spos:KB} {elt target iter:Kv} {ifs:List Kv} {pos:KB} {wi:TI} {g:TG} {tc:TT} {te:TE} (hN:X.N.Nodup) (hix:X.N[i]?=some x) (hx:X.env.scope.names.lookup x=some .local) (c:CompOk X scope own N' k) (hc:X.calm=true) (hi:PI X target iter wi)
  (hg:∀ s₂ H₂ fp C,PG (Zu X scope own N' s₂ H₂ fp C) target g) (ht:∀ s₂ H₂ fp C,PF (Zu X scope own N' s₂ H₂ fp C) ifs tc) (he:∀ s₂ H₂ fp C,PE (Zu X scope own N' s₂ H₂ fp C) elt te)
  (hsw:Kt (.ListComp elt [⟨target,iter,ifs,0⟩] scope pos) (some (.Name x pos')) spos.line X.env=pure true)
  (hs:∀ x,foldedSetIterable iter X.env x=pure x:=by intro _;rfl):PS X (.Assign [.Name x pos'] (.ListComp elt [⟨target,iter,ifs,0⟩] scope pos) spos) (yQ (wy k wi g tc te) (ZA i)):=by
 intro KJ s σ H Dn I h
 rw [exec_Assign_Name_used _ _ _ _ hsw]
 refine Qb (P3 (Qb ?_))
 show Ko _ X.A (do let _ <- comprehension (.ListComp elt [⟨target,iter,ifs,0⟩] scope pos) scope X.env _ (newList []) false (Kz iter X.env) (some (assign (.Name x pos') X.env))) _ _ s
 refine Qb (thn (wpAny_comprehension_free (use:=some (assign (.Name x pos') X.env)) (Q:=fun _ s'=>SP X KJ Dn .next s') rfl hs (clos_ok c I.ok) c.kind c.loc ?_) fun _ s' hq=>Qn (Qn hq))
 refine thn (hi KJ s σ H _ I h) fun v s1 h1=>thn h1 fun itv s2 h2=>?_
 obtain ⟨it,fp,tn,J,H2,e,I2,T,st2,f2,hw⟩:=h2
 subst e
 refine gt (Q:=fun x H1=>ZA i x σ H1 Dn.nx) (RR:=fun acc C=>compPost (Ky X.prog X.w) X.A X.xe (some (assign (.Name x pos') X.env)) (fun _ s'=>SP X KJ Dn .next s') acc C) c hc hg ht he I2 T st2 f2 hw ?_
 intro D C σ' H' s' hC J' q
 obtain ⟨m,hn,_⟩:=J'.loc
 have I3:Inv X KJ σ H' s':=gz I2 f2 hC J' (.refl ..)
 show Ko _ X.A (assign (.Name x pos') X.env (.ref D)) _ _ _
 refine wpAny_assign_Name (store_ok2 (v:=.ref D) I3 hN hix (.inl hx) rfl (fun s4 I4 ⟨a,sb,ha⟩=>?_) (.inr hx))
 have hLa:a=X.env.locals\/X.env.cells.lookup x=some a:=ha
 have hlt:@LT.lt Nat instLTNat a s2.heap.objs.size:=by
  rcases hLa with z | z
  ·rw [z];exact I2.lt
  ·obtain ⟨v,q⟩:=I2.cell x a z
   exact q.lt
 have hne:C≠a:=by omega
 refine ⟨m,hn.sameBut sb hne,fun h2 hs2=>⟨_,H',?_,q⟩⟩
 have hpin:∀ p∈X.pn++KJ,p.1≠C:=fun p hp z=>by
  exact absurd (Qx (Qr (I2.pin p hp).1) hC) (by rw [z];exact QV _)
 have hcell:∀ y a,X.env.cells.lookup y=some a->a≠C:=fun y a e z=>by
  obtain ⟨v,q⟩:=I2.cell y a e
  exact absurd (Qx q.lt hC) (by rw [z];exact QV _)
 exact I4.turned (t':=s4.toks) (fun b o hb e=>(hs2.2 b hb).trans e) J'.free (fun z=>absurd (Qx I2.lt hC) (by rw [z];exact QV _)) (.inr (QA I2.sz hC)) hcell hpin
end
end L2
namespace L2
open PySem
def itCls:Bool->String
 | true=>"list_iterator"
 | false=>"tuple_iterator"
def Zl (k:Bool) (h:Kl) (it l:Kc) (i:Nat):Prop:=∃ o,h.get? it=some o/\o.cls=.type (itCls k)/\o.data=.fields #[.ref l,.int i 0]
def SeqAt:Bool->Kl->Kc->Array Ka->Prop
 | true,h,l,xs=>h.IsList l xs
 | false,h,l,xs=>h.IsTuple l xs
theorem Zl.at {k:Bool} {h h':Kl} {it l:Kc} {i:Nat} (x:Zl k h it l i) (e:∀ o,h.get? it=some o->h'.get? it=some o):Zl k h' it l i:=let ⟨o,ho,r⟩:=x;⟨o,e o ho,r⟩
theorem Zl.but {k:Bool} {h h':Kl} {it l b:Kc} {i:Nat} (x:Zl k h it l i) (e:Heap.ExtBut b h h') (n:it≠b):Zl k h' it l i:=x.at fun o q=>e it o n q
theorem SeqAt.at {k:Bool} {h h':Kl} {l:Kc} {xs:Array Ka} (x:SeqAt k h l xs) (e:∀ o,h.get? l=some o->h'.get? l=some o):SeqAt k h' l xs:=by
 cases k with
 | true=>obtain ⟨o,ho,r⟩:=x;exact ⟨o,e o ho,r⟩
 | false=>obtain ⟨o,ho,r⟩:=x;exact ⟨o,e o ho,r⟩
theorem SeqAt.but {k:Bool} {h h':Kl} {l b:Kc} {xs:Array Ka} (x:SeqAt k h l xs) (e:Heap.ExtBut b h h') (n:l≠b):SeqAt k h' l xs:=x.at fun o q=>e l o n q
theorem SeqAt.lt {k:Bool} {h:Kl} {l:Kc} {xs:Array Ka} (x:SeqAt k h l xs):l<h.objs.size:=by
 cases k with
 | true=>obtain ⟨o,ho,r⟩:=x;exact Qr ho
 | false=>obtain ⟨o,ho,r⟩:=x;exact Qr ho
section
variable {prog:Ki} {w:Kk} {A:Kj} {E:Ka->Kb->Prop} {s:Kb}
theorem wR {it t:Kc} {i:Nat} {xs:Array Ka} {x:Ka} {Q:Ka->Kb->Prop} (hi:s.heap.IsTupleIter it t i) (hl:s.heap.IsTuple t xs) (hx:xs[i]?=some x)
  (hQ:∀ h',h'.IsTupleIter it t (i+1)->Heap.SameBut it s.heap h'->Q x { s with heap:=h' }):Ko (Ky prog w) A (Builtin.SmallTypes.nextOf (.ref it)) Q E s:=by
 obtain ⟨o,ho,hc,hd⟩:=id hi
 obtain ⟨ot,hot,_,nt,hdt⟩:=hl
 unfold Builtin.SmallTypes.nextOf
 refine Qb (Q7 (name:=Str.ofString "__next__") hi.typeIs F.slot_tuple_iterator_next (Pr F.slot_tuple_iterator_next hi.typeIs F.entry_tuple_iterator_next ?_ (F.args_tuple_iterator_next_1 _)))
 show Ko _ _ (field (.ref it) 0 >>= _) _ _ s;refine Qb (QU ho hd (x:=.ref t) rfl ?_)
 show Ko _ _ (if (Value.ref t == Value.none)=true then _ else _) _ _ s;rw [KR (show ¬ ((Value.ref t == Value.none)=true) from Qh)]
 show Ko _ _ (field (.ref it) 1 >>= _) _ _ s;refine Qb (QU ho hd (x:=.int i 0) rfl ?_)
 show Ko _ _ (seqItems? (.ref t) >>= _) _ _ s;refine Qb (QW hot hdt ?_)
 simp only [Po,hx]
 refine Qb (wpAny_setField ho hd (by simp) (Qn ⟨x,rfl,Qn (hQ _ ?_ (Heap.SameBut.update ..))⟩))
 exact ⟨_,Pq _ ho (Obj.isFreed_of_fields (Obj.data_mapFields hd _)),(Obj.cls_mapFields ..).trans hc,by rw [Obj.data_mapFields hd];simp [rawInt]⟩
theorem W0 {it t:Kc} {i:Nat} {xs:Array Ka} {Q:Ka->Kb->Prop} (hh:A.handled=none) (hi:s.heap.IsTupleIter it t i) (hl:s.heap.IsTuple t xs) (hx:xs[i]?=none)
  (hE:∀ h' e,Heap.ExtBut it s.heap h'->(∃ o,h'.get? e=some o/\o.cls=.type "StopIteration")->E (.ref e) { s with heap:=h' }):Ko (Ky prog w) A (Builtin.SmallTypes.nextOf (.ref it)) Q E s:=by
 obtain ⟨o,ho,hc,hd⟩:=id hi
 obtain ⟨ot,hot,_,nt,hdt⟩:=hl
 unfold Builtin.SmallTypes.nextOf
 refine Qb (Q7 (name:=Str.ofString "__next__") hi.typeIs F.slot_tuple_iterator_next (Pr F.slot_tuple_iterator_next hi.typeIs F.entry_tuple_iterator_next ?_ (F.args_tuple_iterator_next_1 _)))
 show Ko _ _ (field (.ref it) 0 >>= _) _ _ s;refine Qb (QU ho hd (x:=.ref t) rfl ?_)
 show Ko _ _ (if (Value.ref t == Value.none)=true then _ else _) _ _ s;rw [KR (show ¬ ((Value.ref t == Value.none)=true) from Qh)]
 show Ko _ _ (field (.ref it) 1 >>= _) _ _ s;refine Qb (QU ho hd (x:=.int i 0) rfl ?_)
 show Ko _ _ (seqItems? (.ref t) >>= _) _ _ s;refine Qb (QW hot hdt ?_)
 simp only [Po,hx]
 refine Qb (wpAny_rule (Qb (wpAny_setField ho hd (by simp) ?_)))
 show Ko _ _ (newExc (.type "StopIteration") [] >>= _) _ _ _;refine Qb ?_
 simp only [newExc,newTuple];refine Qb (Q4 ?_ (by size_fits))
 refine Qb (m:=firstArgMember _ _) (wpAny_of_eq (a:=Value.none) (by first | rfl | (simp only [firstArgMember];rfl)) ?_);refine Q4 ?_ (by size_fits)
 simp only [raiseNew];refine Qb (wpAny_handled ?_);first | rw [show A.in1.handled=none from hh] | rw [hh]
 refine Qb (Qn (wpAny_throw ?_));exact hE _ _ (((Heap.SameBut.update ..).extBut.push _).push _) ⟨_,Qo _ rfl,rfl⟩
theorem YN {k:Bool} {it l:Kc} {i:Nat} {xs:Array Ka} {x:Ka} {Q:Ka->Kb->Prop} (hi:Zl k s.heap it l i) (hl:SeqAt k s.heap l xs) (hx:xs[i]?=some x)
  (hQ:∀ h',Zl k h' it l (i+1)->Heap.SameBut it s.heap h'->Q x { s with heap:=h' }):Ko (Ky prog w) A (Builtin.SmallTypes.nextOf (.ref it)) Q E s:=by
 cases k with
 | true=>exact wpAny_nextOf_list_item hi hl hx hQ
 | false=>exact wR hi hl hx hQ
theorem ju {k:Bool} {it l:Kc} {i:Nat} {xs:Array Ka} {Q:Ka->Kb->Prop} (hh:A.handled=none) (hi:Zl k s.heap it l i) (hl:SeqAt k s.heap l xs) (hx:xs[i]?=none)
  (hE:∀ h' e,Heap.ExtBut it s.heap h'->(∃ o,h'.get? e=some o/\o.cls=.type "StopIteration")->E (.ref e) { s with heap:=h' }):Ko (Ky prog w) A (Builtin.SmallTypes.nextOf (.ref it)) Q E s:=by
 cases k with
 | true=>exact wpAny_nextOf_list_end hh hi hl hx hE
 | false=>exact W0 hh hi hl hx hE
def jH (k:Bool) (l:Kc):KA:={ cls:=.type (itCls k),data:=.fields #[.ref l,.int 0 0] }
theorem Yx {k:Bool} {l:Kc} {xs:Array Ka} {Q:Ka->Kb->Prop} (hl:SeqAt k s.heap l xs) (hQ:Q (.ref s.heap.objs.size) { s with heap:=s.heap.push (jH k l) }):Ko (Ky prog w) A (pyIter (.ref l)) Q E s:=by
 cases k with
 | true=>exact wpAny_pyIter_list hl hQ
 | false=>exact P6 hl hQ
theorem Zl.new {k:Bool} {h h':Kl} {l:Kc} (e:h'.get? h.objs.size=some (jH k l)):Zl k h' h.objs.size l 0:=⟨_,e,rfl,rfl⟩
structure ZApart (z TI TO i1 i2:Kc):Prop where
 TIz:TI≠z
 TOz:TO≠z
 i1z:i1≠z
 i2z:i2≠z
 TITO:TI≠TO
 TIi1:TI≠i1
 TIi2:TI≠i2
 TOi1:TO≠i1
 TOi2:TO≠i2
 i12:i1≠i2
def ZNot (z TI TO i1 i2 l:Kc):Prop:=l≠z/\l≠TO/\l≠i1/\l≠i2
variable {z TI TO i1 i2 l1 l2:Kc} {j1 j2:Bool} {k1 k2:Nat} {xs ys:Array Ka} {x y a b:Ka}
theorem zipn_item {Q:Ka->Kb->Prop} (D:ZApart z TI TO i1 i2) (n1:ZNot z TI TO i1 i2 l1) (n2:ZNot z TI TO i1 i2 l2) (hz:IsZip s.heap z TI TO .none) (hTI:IsPair s.heap TI (.ref i1) (.ref i2)) (hTO:IsPair s.heap TO a b)
  (h1:Zl j1 s.heap i1 l1 k1) (h2:Zl j2 s.heap i2 l2 k2) (hl1:SeqAt j1 s.heap l1 xs) (hl2:SeqAt j2 s.heap l2 ys) (hx:xs[k1]?=some x) (hy:ys[k2]?=some y)
  (hQ:∀ h',IsZip h' z TI TO (rawInt s.heap.objs.size)->IsPair h' TO x y->Zl j1 h' i1 l1 (k1+1)->Zl j2 h' i2 l2 (k2+1)->IsPair h' s.heap.objs.size x y->h'.objs.size=s.heap.objs.size+1 ->
   (∀ c o,c≠z->c≠TO->c≠i1->c≠i2->s.heap.get? c=some o->h'.get? c=some o)->Q (.ref s.heap.objs.size) { s with heap:=h' }) :
  Ko (Ky prog w) A (Builtin.«zip.__next__» ⟨[.ref z],[]⟩) (fun fin s'=>∃ v,fin=.done (.ret v)/\Q v s') E s:=by
 obtain ⟨p1,p2,p3,p4⟩:=n1
 obtain ⟨q1,q2,q3,q4⟩:=n2
 show Ko _ _ (field (.ref z) 2 >>= _) _ _ _;refine Qb (QU hz rfl (x:=.bool false) rfl ?_)
 show Ko _ _ (field (.ref z) 3 >>= _) _ _ _;refine Qb (QU hz rfl (x:=.ref TI) rfl ?_)
 refine Qb (QW hTI rfl ?_)
 show Ko _ _ (Builtin.SmallTypes.ownedTupleIsFree (.ref z) >>= _) _ _ _;refine Qb ?_
 unfold Builtin.SmallTypes.ownedTupleIsFree
 refine Qb (QU hz rfl (x:=.none) rfl (Qn ?_))
 simp only [if_true]
 refine Qb (wpAny_rule ?_)
 refine Qb (QU hz rfl (x:=.ref TO) rfl ?_)
 refine Qb (Q9 hz (by simp) fun g1 hz1 s1=>?_)
 replace hz1:IsZip g1 z TI TO .ellipsis:=hz1
 refine Qb ?_
 simp only [List.zipIdx_cons,List.zipIdx_nil,List.forIn_cons,List.forIn_nil]
 refine Qb (Qb (P4 ?_))
 show Ko _ _ (Builtin.SmallTypes.nextOf (.ref i1) >>= _) _ _ _
 refine Qb (YN (h1.but s1.extBut D.i1z) (hl1.but s1.extBut p1) hx fun g2 u2 s2=>Qn ?_)
 have t2:IsPair g2 TO a b:=s2.extBut _ _ D.TOi1 (s1.extBut _ _ D.TOz hTO)
 refine Qb (QW t2 rfl ?_)
 refine Qb (PU t2 fun g3 t3 s3=>?_)
 replace t3:IsPair g3 TO x b:=t3
 refine Qb (Pw (Qn ?_))
 refine Qb (Qb (P4 ?_))
 show Ko _ _ (Builtin.SmallTypes.nextOf (.ref i2) >>= _) _ _ _
 refine Qb (YN (((h2.but s1.extBut D.i2z).but s2.extBut D.i12.symm).but s3.extBut D.TOi2.symm) (((hl2.but s1.extBut q1).but s2.extBut q3).but s3.extBut q2) hy fun g4 u4 s4=>Qn ?_)
 have t4:IsPair g4 TO x b:=s4.extBut _ _ D.TOi2 t3
 refine Qb (QW t4 rfl ?_)
 refine Qb (PU t4 fun g5 t5 s5=>?_)
 replace t5:IsPair g5 TO x y:=t5
 refine Qb (Pw (Qn (Qn ?_)))
 refine Qb (QW t5 rfl ?_)
 refine Qb (wpAny_newTuple ?_)
 have sz:g5.objs.size=s.heap.objs.size:=by rw [s5.1,s4.1,s3.1,s2.1,s1.1]
 have hz5:IsZip g5 z TI TO .ellipsis:=s5.extBut _ _ D.TOz.symm (s4.extBut _ _ D.i2z.symm (s3.extBut _ _ D.TOz.symm (s2.extBut _ _ D.i1z.symm hz1)))
 have k5:∀ c o,c≠z->c≠TO->c≠i1->c≠i2->s.heap.get? c=some o->g5.get? c=some o:=fun c o c1 c2 c3 c4 e=>s5.extBut _ _ c2 (s4.extBut _ _ c4 (s3.extBut _ _ c2 (s2.extBut _ _ c3 (s1.extBut _ _ c1 e))))
 have v1:Zl j1 g5 i1 l1 (k1+1):=((u2.but s3.extBut D.TOi1.symm).but s4.extBut D.i12).but s5.extBut D.TOi1.symm
 have v2:Zl j2 g5 i2 l2 (k2+1):=u4.but s5.extBut D.TOi2.symm
 have zlt:z<g5.objs.size:=Qr hz5
 show Ko _ _ (Builtin.SmallTypes.ownedTupleHandOut (.ref z) (.ref g5.objs.size) >>= _) _ _ _;refine Qb ?_
 unfold Builtin.SmallTypes.ownedTupleHandOut
 have hz6:IsZip (g5.push { cls:=.type "tuple",data:=.seq #[x,y] }) z TI TO .ellipsis:=Qd _ hz5
 refine Qb (Q9 hz6 (by simp) fun g7 hz7 s7=>?_)
 replace hz7:IsZip g7 z TI TO (rawInt g5.objs.size):=hz7
 refine Q9 hz7 (by simp) fun g8 hz8 s8=>?_
 replace hz8:IsZip g8 z TI TO (rawInt g5.objs.size):=hz8
 have up:∀ c o,c≠z->g5.get? c=some o->g8.get? c=some o:=fun c o c1 e=>s8.extBut _ _ c1 (s7.extBut _ _ c1 (Qd _ e))
 have T8:IsPair g8 g5.objs.size x y:=s8.extBut _ _ (PP zlt) (s7.extBut _ _ (PP zlt) (Qo _ rfl))
 have e8:g8.objs.size=g5.objs.size+1:=by rw [s8.1,s7.1,QG]
 rw [sz] at hz8 T8 e8
 refine Qn ⟨_,rfl,?_⟩
 show Q (.ref g5.objs.size) _
 rw [sz]
 exact hQ g8 hz8 (up _ _ D.TOz t5) (v1.at fun o e=>up _ o D.i1z e) (v2.at fun o e=>up _ o D.i2z e) T8 e8 fun c o c1 c2 c3 c4 e=>up c o c1 (k5 c o c1 c2 c3 c4 e)
theorem zipn_end {Q:Fin->Kb->Prop} (hh:A.handled=none) (D:ZApart z TI TO i1 i2) (n1:ZNot z TI TO i1 i2 l1) (n2:ZNot z TI TO i1 i2 l2) (hz:IsZip s.heap z TI TO .none) (hTI:IsPair s.heap TI (.ref i1) (.ref i2)) (hTO:IsPair s.heap TO a b)
  (h1:Zl j1 s.heap i1 l1 k1) (h2:Zl j2 s.heap i2 l2 k2) (hl1:SeqAt j1 s.heap l1 xs) (hl2:SeqAt j2 s.heap l2 ys) (hend:xs[k1]?=none\/ys[k2]?=none)
  (hE:∀ h' e,(∀ c o,c≠z->c≠TO->c≠i1->c≠i2->s.heap.get? c=some o->h'.get? c=some o)->(∃ o,h'.get? e=some o/\o.cls=.type "StopIteration")->E (.ref e) { s with heap:=h' }) :
  Ko (Ky prog w) A (Builtin.«zip.__next__» ⟨[.ref z],[]⟩) Q E s:=by
 obtain ⟨p1,p2,p3,p4⟩:=n1
 obtain ⟨q1,q2,q3,q4⟩:=n2
 show Ko _ _ (field (.ref z) 2 >>= _) _ _ _;refine Qb (QU hz rfl (x:=.bool false) rfl ?_)
 show Ko _ _ (field (.ref z) 3 >>= _) _ _ _;refine Qb (QU hz rfl (x:=.ref TI) rfl ?_)
 refine Qb (QW hTI rfl ?_)
 show Ko _ _ (Builtin.SmallTypes.ownedTupleIsFree (.ref z) >>= _) _ _ _;refine Qb ?_
 unfold Builtin.SmallTypes.ownedTupleIsFree
 refine Qb (QU hz rfl (x:=.none) rfl (Qn ?_))
 simp only [if_true]
 refine Qb (wpAny_rule ?_)
 refine Qb (QU hz rfl (x:=.ref TO) rfl ?_)
 refine Qb (Q9 hz (by simp) fun g1 hz1 s1=>?_)
 replace hz1:IsZip g1 z TI TO .ellipsis:=hz1
 refine Qb ?_
 simp only [List.zipIdx_cons,List.zipIdx_nil,List.forIn_cons,List.forIn_nil]
 refine Qb (Qb (P4 ?_))
 show Ko _ _ (Builtin.SmallTypes.nextOf (.ref i1) >>= _) _ _ _
 cases hx:xs[k1]? with
 | none =>
  refine Qb (ju hh (h1.but s1.extBut D.i1z) (hl1.but s1.extBut p1) hx fun g2 e s2 he=>?_)
  obtain ⟨oe,hoe,hce⟩:=he
  have hz2:IsZip g2 z TI TO .ellipsis:=s2 _ _ D.i1z.symm hz1
  have ez:e≠z:=fun x=>by subst x;rw [hz2] at hoe;cases hoe;simp at hce
  exact Q9 hz2 (by simp) fun g3 _ s3=>hE g3 e (fun c o c1 _ c3 _ x=>s3.extBut _ _ c1 (s2 _ _ c3 (s1.extBut _ _ c1 x))) ⟨oe,s3.extBut _ _ ez hoe,hce⟩
 | some x =>
  have hy:ys[k2]?=none:=by rcases hend with h | h;rw [hx] at h;cases h;exact h
  refine Qb (YN (h1.but s1.extBut D.i1z) (hl1.but s1.extBut p1) hx fun g2 u2 s2=>Qn ?_)
  have t2:IsPair g2 TO a b:=s2.extBut _ _ D.TOi1 (s1.extBut _ _ D.TOz hTO)
  refine Qb (QW t2 rfl ?_)
  refine Qb (PU t2 fun g3 t3 s3=>?_)
  refine Qb (Pw (Qn ?_))
  refine Qb (Qb (P4 ?_))
  show Ko _ _ (Builtin.SmallTypes.nextOf (.ref i2) >>= _) _ _ _
  refine Qb (ju hh (((h2.but s1.extBut D.i2z).but s2.extBut D.i12.symm).but s3.extBut D.TOi2.symm) (((hl2.but s1.extBut q1).but s2.extBut q3).but s3.extBut q2) hy fun g4 e s4 he=>?_)
  obtain ⟨oe,hoe,hce⟩:=he
  have hz4:IsZip g4 z TI TO .ellipsis:=s4 _ _ D.i2z.symm (s3.extBut _ _ D.TOz.symm (s2.extBut _ _ D.i1z.symm hz1))
  have ez:e≠z:=fun x=>by subst x;rw [hz4] at hoe;cases hoe;simp at hce
  exact Q9 hz4 (by simp) fun g5 _ s5=>hE g5 e (fun c o c1 c2 c3 c4 x=>s5.extBut _ _ c1 (s4 _ _ c4 (s3.extBut _ _ c2 (s2.extBut _ _ c3 (s1.extBut _ _ c1 x))))) ⟨oe,s5.extBut _ _ ez hoe,hce⟩
theorem wQ {Q:Option Ka->Kb->Prop} (D:ZApart z TI TO i1 i2) (n1:ZNot z TI TO i1 i2 l1) (n2:ZNot z TI TO i1 i2 l2) (hz:IsZip s.heap z TI TO .none) (hTI:IsPair s.heap TI (.ref i1) (.ref i2)) (hTO:IsPair s.heap TO a b)
  (h1:Zl j1 s.heap i1 l1 k1) (h2:Zl j2 s.heap i2 l2 k2) (hl1:SeqAt j1 s.heap l1 xs) (hl2:SeqAt j2 s.heap l2 ys) (hx:xs[k1]?=some x) (hy:ys[k2]?=some y)
  (hQ:∀ h',IsZip h' z TI TO (rawInt s.heap.objs.size)->IsPair h' TO x y->Zl j1 h' i1 l1 (k1+1)->Zl j2 h' i2 l2 (k2+1)->IsPair h' s.heap.objs.size x y->h'.objs.size=s.heap.objs.size+1 ->
   (∀ c o,c≠z->c≠TO->c≠i1->c≠i2->s.heap.get? c=some o->h'.get? c=some o)->Q (some (.ref s.heap.objs.size)) { s with heap:=h' }):Ko (Ky prog w) A (pyNext (.ref z)) Q E s:=by
 have hT:s.TypeIs (.ref z) "zip":=⟨_,hz,rfl⟩
 unfold pyNext
 exact Qb (wpAny_attempt (Q7 (name:=Str.ofString "__next__") hT F.slot_zip_next (Pr F.slot_zip_next hT F.entry_zip_next
  (zipn_item D n1 n2 hz hTI hTO h1 h2 hl1 hl2 hx hy fun h' a1 a2 a3 a4 a5 a6 a7=>Qn (hQ h' a1 a2 a3 a4 a5 a6 a7)) (F.args_zip_next_1 _))))
theorem WQ {Q:Option Ka->Kb->Prop} (hh:A.handled=none) (D:ZApart z TI TO i1 i2) (n1:ZNot z TI TO i1 i2 l1) (n2:ZNot z TI TO i1 i2 l2) (hz:IsZip s.heap z TI TO .none) (hTI:IsPair s.heap TI (.ref i1) (.ref i2)) (hTO:IsPair s.heap TO a b)
  (h1:Zl j1 s.heap i1 l1 k1) (h2:Zl j2 s.heap i2 l2 k2) (hl1:SeqAt j1 s.heap l1 xs) (hl2:SeqAt j2 s.heap l2 ys) (hend:xs[k1]?=none\/ys[k2]?=none)
  (hQ:∀ h',(∀ c o,c≠z->c≠TO->c≠i1->c≠i2->s.heap.get? c=some o->h'.get? c=some o)->Q none { s with heap:=h' }):Ko (Ky prog w) A (pyNext (.ref z)) Q E s:=by
 have hT:s.TypeIs (.ref z) "zip":=⟨_,hz,rfl⟩
 unfold pyNext
 refine Qb (wpAny_attempt (Q7 (name:=Str.ofString "__next__") hT F.slot_zip_next (Pr F.slot_zip_next hT F.entry_zip_next (zipn_end hh D n1 n2 hz hTI hTO h1 h2 hl1 hl2 hend fun h' e hk he=>?_) (F.args_zip_next_1 _))))
 obtain ⟨o,ho,hc⟩:=he
 refine Qb (wpAny_isInstance (T:="StopIteration") (b:=true) ⟨o,ho,hc⟩ isSubtype_stop ?_)
 exact Qn (hQ _ hk)
end
abbrev zH1 (j:Bool) (h:Kl) (l1:Kc):Kl:=h.push (jH j l1)
abbrev zH2 (j1 j2:Bool) (h:Kl) (l1 l2:Kc):Kl:=(zH1 j1 h l1).push (jH j2 l2)
abbrev zH3 (j1 j2:Bool) (h:Kl) (l1 l2:Kc):Kl:=(zH2 j1 j2 h l1 l2).push { cls:=.type "tuple",data:=.seq #[.ref h.objs.size,.ref (zH1 j1 h l1).objs.size] }
abbrev zH4 (j1 j2:Bool) (h:Kl) (l1 l2:Kc):Kl:=(zH3 j1 j2 h l1 l2).push { cls:=.type "tuple",data:=.seq #[.none,.none] }
abbrev zH5 (j1 j2:Bool) (h:Kl) (l1 l2:Kc):Kl:=(zH4 j1 j2 h l1 l2).push { cls:=.type "zip",data:=.fields #[.none,.bool false,.bool false,.ref (zH2 j1 j2 h l1 l2).objs.size,.ref (zH3 j1 j2 h l1 l2).objs.size] }
theorem zip_new (j1 j2:Bool) (l1 l2:Kc) (xs ys:Array Ka) :
  Meets (Builtin.«zip.__new__» ⟨[.type "zip",.ref l1,.ref l2],[]⟩) (fun _ R s=>SeqAt j1 s.heap l1 xs/\SeqAt j2 s.heap l2 ys/\R (.ok (.ret (.ref (zH4 j1 j2 s.heap l1 l2).objs.size))) { s with heap:=zH5 j1 j2 s.heap l1 l2 }) :=
 .of_wp fun prog w A R s h=>by
  obtain ⟨hp,g,d,tk,os⟩:=s
  obtain ⟨hl1,hl2,h⟩:=h
  have hsub:=sub_zip
  have L1:SeqAt j1 (Shared.heap ⟨hp,g,d,tk,os⟩) l1 xs:=hl1
  have L2:SeqAt j2 (Shared.heap ⟨hp.push (jH j1 l1),g,d,tk,os⟩) l2 ys:=hl2.at fun o e=>Qd _ e
  wp_walk using Yx L1,Yx L2
  exact ⟨_,rfl,h⟩
section
variable {prog:Ki} {w:Kk} {A:Kj} {E:Ka->Kb->Prop} {s:Kb}
theorem call_zip_seq {j1 j2:Bool} {l1 l2:Kc} {xs ys:Array Ka} {Q:Ka->Kb->Prop} (hl1:SeqAt j1 s.heap l1 xs) (hl2:SeqAt j2 s.heap l2 ys)
  (h:∀ h',IsZip h' (s.heap.objs.size+4) (s.heap.objs.size+2) (s.heap.objs.size+3) .none->IsPair h' (s.heap.objs.size+2) (.ref s.heap.objs.size) (.ref (s.heap.objs.size+1)) ->
   IsPair h' (s.heap.objs.size+3) .none .none->Zl j1 h' s.heap.objs.size l1 0->Zl j2 h' (s.heap.objs.size+1) l2 0->h'.objs.size=s.heap.objs.size+5 ->
   (∀ c o,s.heap.get? c=some o->h'.get? c=some o)->Q (.ref (s.heap.objs.size+4)) { s with heap:=h' }):Ko (Ky prog w) A (call (.type "zip") [.ref l1,.ref l2]) Q E s:=by
 refine callType_new F.called_zip (by decide) (F.typeCall_zip_2 _ _) (F.newCall_zip_2 _ _) (fun obj=>F.args_object_init_3 obj _ _) F.entry_zip_new (zip_new j1 j2 l1 l2 xs ys) ⟨hl1,hl2,?_⟩
 have z1:(zH1 j1 s.heap l1).objs.size=s.heap.objs.size+1:=QG ..
 have z2:(zH2 j1 j2 s.heap l1 l2).objs.size=s.heap.objs.size+2:=by rw [QG,z1]
 have z3:(zH3 j1 j2 s.heap l1 l2).objs.size=s.heap.objs.size+3:=by rw [QG,z2]
 have z4:(zH4 j1 j2 s.heap l1 l2).objs.size=s.heap.objs.size+4:=by rw [QG,z3]
 have z5:(zH5 j1 j2 s.heap l1 l2).objs.size=s.heap.objs.size+5:=by rw [QG,z4]
 have g5:(zH5 j1 j2 s.heap l1 l2).get? (zH4 j1 j2 s.heap l1 l2).objs.size=some _:=Qo _ rfl
 have g4:(zH5 j1 j2 s.heap l1 l2).get? (zH3 j1 j2 s.heap l1 l2).objs.size=some _:=Qd _ (Qo _ rfl)
 have g3:(zH5 j1 j2 s.heap l1 l2).get? (zH2 j1 j2 s.heap l1 l2).objs.size=some _:=Qd _ (Qd _ (Qo _ rfl))
 have g2:(zH5 j1 j2 s.heap l1 l2).get? (zH1 j1 s.heap l1).objs.size=some (jH j2 l2):=Qd _ (Qd _ (Qd _ (Qo _ rfl)))
 have g1:(zH5 j1 j2 s.heap l1 l2).get? s.heap.objs.size=some (jH j1 l1):=Qd _ (Qd _ (Qd _ (Qd _ (Qo _ rfl))))
 show _/\_
 rw [z2,z3,z4] at g5
 rw [z1,z2] at g3
 rw [z3] at g4
 rw [z1] at g2
 rw [z4]
 exact ⟨⟨_,g5,rfl⟩,h _ g5 g3 g4 ⟨_,g1,rfl,rfl⟩ ⟨_,g2,rfl,rfl⟩ z5 fun c o x=>Qd _ (Qd _ (Qd _ (Qd _ (Qd _ x))))⟩
end
end L2
namespace L2
open PySem
open AutoSeq1 (wpAny_loadPart')
theorem enum_newT (l:Kc) (xs:Array Ka) (n:Nat) (dct:Option Kc) (sl:Array (Option Ka)) :
  Meets (Builtin.«enumerate.__new__» ⟨[.type "enumerate",.ref l],[]⟩) (fun _ R s=>s.heap.get? l=some { cls:=.type "tuple",dict:=dct,data:=.seq xs n,slots:=sl } /\
   R (.ok (.ret (.ref (s.heap.push (jH false l)).objs.size))) { s with heap:=(s.heap.push (jH false l)).push { cls:=.type "enumerate",data:=.fields #[.none,.bool false,.ref s.heap.objs.size,rawInt 0,.none,.none] } }) :=
 .of_wp fun prog w A R s h=>by
  obtain ⟨hp,g,d,tk,os⟩:=s
  obtain ⟨hl,h⟩:=h
  have hsub:=sub_enumerate
  have hL:SeqAt false (Shared.heap ⟨hp,g,d,tk,os⟩) l xs:=⟨_,hl,rfl,n,rfl⟩
  wp_walk using wpAny_loadPart' hl
  refine wpAny_stack_any fun st=>Qn ?_
  split
  ·rename_i c _ _ _ _ _
   cases (c == Value.type "enumerate")
   ·wp_walk using wpAny_loadPart' hl,Yx hL
    exact ⟨_,rfl,h⟩
   ·wp_walk using wpAny_loadPart' hl,Yx hL
    exact ⟨_,rfl,h⟩
  ·wp_walk using wpAny_loadPart' hl,Yx hL
   exact ⟨_,rfl,h⟩
section
variable {prog:Ki} {w:Kk} {A:Kj} {E:Ka->Kb->Prop} {s:Kb}
theorem call_enum_seq {k:Bool} {l:Kc} {xs:Array Ka} {Q:Ka->Kb->Prop} (hL:SeqAt k s.heap l xs)
  (h:∀ h',IsEnum h' (s.heap.objs.size+1) s.heap.objs.size 0 .none->Zl k h' s.heap.objs.size l 0->h'.objs.size=s.heap.objs.size+2 ->
   (∀ b o,s.heap.get? b=some o->h'.get? b=some o)->Q (.ref (s.heap.objs.size+1)) { s with heap:=h' }):Ko (Ky prog w) A (call (.type "enumerate") [.ref l]) Q E s:=by
 cases k with
 | true=>exact call_enumerate_list hL h
 | false =>
  obtain ⟨⟨c,dct,dt,sl⟩,hl,hc,n,hd⟩:=hL
  replace hc:c=.type "tuple":=hc
  replace hd:dt=.seq xs n:=hd
  subst hc hd
  refine callType_new F.called_enumerate (by decide) (F.typeCall_enumerate_1 _) (F.newCall_enumerate_1 _) (fun obj=>F.args_object_init_2 obj _) F.entry_enumerate_new (enum_newT l xs n dct sl) ⟨hl,?_⟩
  have hz:(s.heap.push (jH false l)).objs.size=s.heap.objs.size+1:=QG ..
  show _/\_
  rw [hz]
  have he:IsEnum ((s.heap.push (jH false l)).push { cls:=.type "enumerate",data:=.fields #[.none,.bool false,.ref s.heap.objs.size,rawInt 0,.none,.none] }) (s.heap.objs.size+1) s.heap.objs.size 0 .none:=by
   have:=Qo (s.heap.push (jH false l)) (o:={ cls:=.type "enumerate",data:=.fields #[.none,.bool false,.ref s.heap.objs.size,rawInt 0,.none,.none] }) rfl
   rw [hz] at this;exact this
  refine ⟨⟨_,he,rfl⟩,h _ he ⟨_,Qd _ (Qo _ rfl),rfl,rfl⟩ (by rw [QG,hz]) fun b o x=>Qd _ (Qd _ x)⟩
theorem draws_seq {k:Bool} (hh:A.handled=none) (it l:Kc) (hne:l≠it) (xs:Array Ka):Draws prog w A it [it,l] xs.size (fun i v=>xs[i]?=some v) (fun i h=>Zl k h it l i/\SeqAt k h l xs) where
 live:=fun _ _ st=>let ⟨o,ho,_⟩:=st.1;⟨o,ho⟩
 frame:=fun _ _ _ st hk=>⟨st.1.at fun o e=>hk it (by simp) o e,st.2.at fun o e=>hk l (by simp) o e⟩
 item:=fun i s Q E hi st hQ=>YN st.1 st.2 (x:=xs[i]) (by simp [hi]) fun h' hit' hs'=>hQ _ h' s.toks (by simp [hi]) ⟨hit',st.2.but hs'.extBut hne⟩ hs'
 done:=fun s Q E st hE=>ju hh st.1 st.2 (by simp) hE
end
end L2
namespace L2
open PySem PySem.Spec PyProof.Rows
def Sq (k:Bool) (K:KC) (H:Hp) (a:Kc) (xs:List V):Prop:=match k with | true=>SqL K H a xs | false=>SqT K H a xs
theorem Inv.seq {X:Cx} {KJ:List (Kc×KA)} {σ:St} {H:Hp} {s:Kb} {k:Bool} {a:Kc} {xs:List V} (I:Inv X KJ σ H s) (h:Sq k X.K H a xs):∃ KP:List Ka,zU xs KP/\SeqAt k s.heap a KP.toArray/\xs.length<=Kg:=by
 cases k with
 | true=>obtain ⟨KP,r,p,z⟩:=I.list h;exact ⟨KP,r,p.isList,z⟩
 | false=>obtain ⟨KP,r,p,z⟩:=I.tuple h;exact ⟨KP,r,p,z⟩
theorem Inv.seq_inj {X:Cx} {KJ:List (Kc×KA)} {σ:St} {H:Hp} {s:Kb} {k:Bool} {a:Kc} {xs ys:List V} (I:Inv X KJ σ H s) (h:Sq k X.K H a xs) (h':Sq k X.K H a ys):xs=ys:=by
 cases k with
 | true=>exact I.list_inj h h'
 | false=>exact I.tuple_inj h h'
def Itz (j1 j2:Bool) (K:KC) (a b:Kc):It :=
  ⟨fun i H=>∃ xs ys x y,Sq j1 K H a xs/\Sq j2 K H b ys/\xs[i]?=some x/\ys[i]?=some y,
   fun i H v H'=>∃ p x y,v=.ref p/\H p=none/\H'=upd H p (.tup [x,y])/\(∀ xs,Sq j1 K H a xs->xs[i]?=some x)/\∀ ys,Sq j2 K H b ys->ys[i]?=some y,
   fun i H=>∃ xs ys,Sq j1 K H a xs/\Sq j2 K H b ys/\(xs.length<=i\/ys.length<=i)⟩
def Ite (j:Bool) (K:KC) (a:Kc):It :=
  ⟨fun i H=>∃ xs x,Sq j K H a xs/\xs[i]?=some x,fun i H v H'=>∃ p x,v=.ref p/\H p=none/\H'=upd H p (.tup [.int i,x])/\∀ xs,Sq j K H a xs->xs[i]?=some x,
   fun i H=>∃ xs,Sq j K H a xs/\xs.length<=i⟩
def tnZip (j1 j2:Bool) (z TI TO i1 i2 l1 l2:Kc) (i:Nat) (h:Kl):Prop:=IsZip h z TI TO .none/\IsPair h TI (.ref i1) (.ref i2)/\(∃ a b,IsPair h TO a b)/\Zl j1 h i1 l1 i/\Zl j2 h i2 l2 i
theorem jK {X:Cx} {KJ:List (Kc×KA)} {σ:St} {H:Hp} {s:Kb} {k:Bool} {a b:Kc} {xs:List V} (I:Inv X KJ σ H s) (h:Sq k X.K H a xs) (hb:J2 X KJ H b):a≠b:=by
 intro e
 subst e
 obtain ⟨h0,h1,h2,h3,h4,h5⟩:=hb
 have key:∀ u,Rd H a u->False:=fun u r=>by
  rcases r with r | ⟨o,r⟩ <;> (rw [h0] at r;cases r)
 have mod:∀ o,X.K.lookup a=some o->False:=fun o e=>by
  obtain ⟨o',e',_⟩:∃ o',X.base.get? a=some o'/\True:=⟨_,I.ok.mod.kin a o e,trivial⟩
  rcases h3 with z | z
  ·exact I.ok.noex a o' e' z
  ·have q1:@LT.lt Nat instLTNat a X.base.objs.size:=Qr e'
   have:=I.ok.bsz
   omega
 cases k with
 | true =>
  rcases h with h | ⟨o,_,_,e,_⟩
  ·exact key _ h
  ·exact mod o e
 | false =>
  rcases h with h | ⟨o,_,_,e,_⟩
  ·exact key _ h
  ·exact mod o e
theorem turn_zip {P:Ki} {w:Kk} {K:KC} {elts:List Kv} {kk:Nat} {pp:KB} {j1 j2:Bool} {z TI TO i1 i2 l1 l2:Kc} (D:ZApart z TI TO i1 i2) :
  J1 P w K (.Tuple elts kk pp) (Itz j1 j2 K l1 l2) [z,TI,TO,i1,i2] z (tnZip j1 j2 z TI TO i1 i2 l1 l2) where
 mem:=by simp
 obj:=fun i h st b hb=>by
  obtain ⟨a1,a2,⟨_,_,a3⟩,⟨o4,a4,_,d4⟩,⟨o5,a5,_,d5⟩⟩:=st
  simp only [Qa,Qi,or_false] at hb
  rcases hb with rfl | rfl | rfl | rfl | rfl
  ·exact ⟨_,a1,fun v q=>by cases (show Data.fields _=Data.cell v from q)⟩
  ·exact ⟨_,a2,fun v q=>by cases (show Data.seq _ _=Data.cell v from q)⟩
  ·exact ⟨_,a3,fun v q=>by cases (show Data.seq _ _=Data.cell v from q)⟩
  ·exact ⟨_,a4,fun v q=>by rw [d4] at q;cases q⟩
  ·exact ⟨_,a5,fun v q=>by rw [d5] at q;cases q⟩
 keep:=fun i h h' st k=>by
  obtain ⟨a1,a2,⟨a,b,a3⟩,a4,a5⟩:=st
  exact ⟨k z (by simp) _ a1,k TI (by simp) _ a2,⟨a,b,k TO (by simp) _ a3⟩,a4.at fun o e=>k i1 (by simp) o e,a5.at fun o e=>k i2 (by simp) o e⟩
 item:=by
  intro X hP hw hK hc i KJ s σ H E I hf st hg
  subst hP hw hK
  obtain ⟨xs,ys,x,y,hq1,hq2,hx,hy⟩:=hg
  obtain ⟨its1,r1,p1,_⟩:=I.seq hq1
  obtain ⟨its2,r2,p2,_⟩:=I.seq hq2
  obtain ⟨u1,e1,ru1⟩:=r1.get hx
  obtain ⟨u2,e2,ru2⟩:=r2.get hy
  obtain ⟨a1,a2,⟨a,b,a3⟩,a4,a5⟩:=st
  have fz:=hf z (by simp)
  have fO:=hf TO (by simp)
  have f1:=hf i1 (by simp)
  have f2:=hf i2 (by simp)
  have fI:=hf TI (by simp)
  refine wQ D ⟨jK I hq1 fz,jK I hq1 fO,jK I hq1 f1,jK I hq1 f2⟩ ⟨jK I hq2 fz,jK I hq2 fO,jK I hq2 f1,jK I hq2 f2⟩ a1 a2 a3 a4 a5 p1 p2 (x:=u1) (y:=u2) (by simpa using e1) (by simpa using e2) fun h' b1 b2 b3 b4 b5 b6 hk=>?_
  refine ⟨.ref s.heap.objs.size,rfl,wpAny_letOwnedTupleGo_zip b1 fun h2 c1 sb=>?_⟩
  have hlt:∀ c∈[z,TI,TO,i1,i2],c<s.heap.objs.size:=fun c hc=>by
   obtain ⟨⟨_,_⟩,q⟩:(∃ o,s.heap.get? c=some o)/\True:=⟨by
    simp only [Qa,Qi,or_false] at hc
    rcases hc with rfl | rfl | rfl | rfl | rfl
    ·exact ⟨_,a1⟩
    ·exact ⟨_,a2⟩
    ·exact ⟨_,a3⟩
    ·exact ⟨_,a4.choose_spec.1⟩
    ·exact ⟨_,a5.choose_spec.1⟩,trivial⟩
   rename_i o ho
   exact Qr ho
  have fr:H s.heap.objs.size=none:=I.hok.fresh (Ql _)
  have k2:∀ c o,c∉[z,TO,i1,i2]->s.heap.get? c=some o->h2.get? c=some o:=fun c o hc e=>by
   simp only [Qa,Qi,or_false,not_or] at hc
   exact (sb.2 c hc.1).trans (hk c o hc.1 hc.2.1 hc.2.2.1 hc.2.2.2 e)
  have T2:h2.get? s.heap.objs.size=some { cls:=.type "tuple",data:=.seq #[u1,u2] }:=(sb.2 _ (PP (hlt z (by simp)))).trans b5
  have hch:∀ b∈[z,TO,i1,i2],(b∈X.ex\/X.s₀.heap.objs.size<=b)/\b≠X.env.locals/\(∀ x c,X.env.cells.lookup x=some c->c≠b)/\∀ p∈X.pn++KJ,p.1≠b:=fun b hb=>by
   have fb:J2 X KJ H b:=hf b (by simp only [Qa,Qi,or_false] at hb ⊢;rcases hb with rfl | rfl | rfl | rfl <;> simp)
   exact ⟨fb.2.2.2.1,fb.2.1,fb.2.2.2.2.1,fb.2.2.2.2.2⟩
  have hnone:∀ b∈[z,TO,i1,i2],H b=none:=fun b hb=>(hf b (by simp only [Qa,Qi,or_false] at hb ⊢;rcases hb with rfl | rfl | rfl | rfl <;> simp)).1
  have ntr:∀ b u,H b=some u->b∉[z,TO,i1,i2]:=fun b u e hb=>by rw [hnone b hb] at e;cases e
  have Hok:HOk X.prog X.w (upd H s.heap.objs.size (.tup [x,y])) h2:=fun c o e=>by
   by_cases hcs:c=s.heap.objs.size
   ·subst hcs
    rw [zm] at e
    cases e
    exact ⟨by show 2<=Kg;decide,[u1,u2],.cons ru1 (.cons ru2 .nil),⟨_,T2,rfl,_,rfl⟩⟩
   ·rw [zh hcs] at e
    refine (I.hok c o e).stay (fun d v hd q=>k2 d v ?_ q) (fun d q=>?_) fun d xs q=>?_
    ·rcases hd with rfl | hd
     ·exact ntr _ _ e
     ·exact ntr _ _ hd
    ·rw [zh (Zo q fr)];exact q
    ·rw [zh (Zo q fr)];exact q
  have nsz:∀ c o,s.heap.get? c=some o->c≠s.heap.objs.size:=fun c o e=>QE (Qr e)
  have thr:∀ c∈[z,TO,i1,i2],∃ o,h2.get? c=some o:=fun c hc=>by
   simp only [Qa,Qi,or_false] at hc
   rcases hc with rfl | rfl | rfl | rfl
   ·exact ⟨_,c1⟩
   ·exact ⟨_,(sb.2 _ D.TOz).trans b2⟩
   ·obtain ⟨o,ho,_⟩:=b3;exact ⟨_,(sb.2 _ D.i1z).trans ho⟩
   ·obtain ⟨o,ho,_⟩:=b4;exact ⟨_,(sb.2 _ D.i2z).trans ho⟩
  have I2:Inv X KJ σ (upd H s.heap.objs.size (.tup [x,y])) { s with heap:=h2,toks:=s.toks }:=by
   refine I.step (g':=s.gens) (d':=s.drawn) (ch:=[z,TO,i1,i2]) hch (fun b o _ _ hb e _=>k2 b o hb e) (fun b o _ _ hb e _=>⟨o.slots,k2 b o hb e⟩) (fun b o _ e n=>by rw [zh (nsz b o e)];exact n) (fun b o hb e=>⟨o,k2 b o hb e⟩)
    (fun b xs e=>by rw [zh (Zo e fr)];exact e) (fun b o u e=>by rw [zh (Zo e fr)];exact e) (fun b ps e=>⟨#[],by rw [zh (Zo e fr),e];simp⟩) (fun m hm=>?_) Hok I.bare
   obtain ⟨o,es,ep,ho,r⟩:=hm
   refine ⟨o,es,ep,k2 _ o (fun hb=>(hch _ hb).2.1 rfl) ho,r⟩
  refine ⟨.ref s.heap.objs.size,_,I2,rfl,⟨_,x,y,rfl,fr,rfl,fun zs hz=>by rw [I.seq_inj hz hq1];exact hx,fun zs hz=>by rw [I.seq_inj hz hq2];exact hy⟩,⟨c1,?_,⟨_,_,(sb.2 _ D.TOz).trans b2⟩,b3.at fun o e=>(sb.2 _ D.i1z).trans e,b4.at fun o e=>(sb.2 _ D.i2z).trans e⟩,fun b hb=>?_⟩
  ·exact k2 TI _ (by simp only [Qa,Qi,or_false,not_or];exact ⟨D.TIz,D.TITO,D.TIi1,D.TIi2⟩) a2
  ·rw [zh (QE (hlt b hb))];exact (hf b hb).1
 done:=by
  intro X hP hw hK hc i KJ s σ H E I hf st hg
  subst hP hw hK
  obtain ⟨xs,ys,hq1,hq2,hend⟩:=hg
  obtain ⟨its1,r1,p1,_⟩:=I.seq hq1
  obtain ⟨its2,r2,p2,_⟩:=I.seq hq2
  obtain ⟨a1,a2,⟨a,b,a3⟩,a4,a5⟩:=st
  have fz:=hf z (by simp)
  have fO:=hf TO (by simp)
  have f1:=hf i1 (by simp)
  have f2:=hf i2 (by simp)
  have l1':=r1.length
  have l2':=r2.length
  refine WQ (I.ok.hd hc) D ⟨jK I hq1 fz,jK I hq1 fO,jK I hq1 f1,jK I hq1 f2⟩ ⟨jK I hq2 fz,jK I hq2 fO,jK I hq2 f1,jK I hq2 f2⟩ a1 a2 a3 a4 a5 p1 p2 (hend.imp (fun q=>by simp;omega) fun q=>by simp;omega) fun h' hk=>⟨rfl,?_⟩
  have hch:∀ b∈[z,TO,i1,i2],(b∈X.ex\/X.s₀.heap.objs.size<=b)/\b≠X.env.locals/\(∀ x c,X.env.cells.lookup x=some c->c≠b)/\∀ p∈X.pn++KJ,p.1≠b:=fun b hb=>by
   have fb:J2 X KJ H b:=hf b (by simp only [Qa,Qi,or_false] at hb ⊢;rcases hb with rfl | rfl | rfl | rfl <;> simp)
   exact ⟨fb.2.2.2.1,fb.2.1,fb.2.2.2.2.1,fb.2.2.2.2.2⟩
  have hnone:∀ b∈[z,TO,i1,i2],H b=none:=fun b hb=>(hf b (by simp only [Qa,Qi,or_false] at hb ⊢;rcases hb with rfl | rfl | rfl | rfl <;> simp)).1
  have ntr:∀ b u,H b=some u->b∉[z,TO,i1,i2]:=fun b u e hb=>by rw [hnone b hb] at e;cases e
  have k2:∀ c o,c∉[z,TO,i1,i2]->s.heap.get? c=some o->h'.get? c=some o:=fun c o hc e=>by
   simp only [Qa,Qi,or_false,not_or] at hc
   exact hk c o hc.1 hc.2.1 hc.2.2.1 hc.2.2.2 e
  refine I.step (g':=s.gens) (d':=s.drawn) (t':=s.toks) (ch:=[z,TO,i1,i2]) hch (fun b o _ _ hb e _=>k2 b o hb e) (fun b o _ _ hb e _=>⟨o.slots,k2 b o hb e⟩) (fun b o _ e n=>n) (fun b o hb e=>⟨o,k2 b o hb e⟩)
   (fun b xs e=>e) (fun b o u e=>e) (fun b ps e=>⟨#[],by rw [e];simp⟩) (fun m hm=>?_) (fun c o e=>?_) I.bare
  ·obtain ⟨o,es,ep,ho,r⟩:=hm
   exact ⟨o,es,ep,k2 _ o (fun hb=>(hch _ hb).2.1 rfl) ho,r⟩
  ·refine (I.hok c o e).stay (fun d v hd q=>k2 d v ?_ q) (fun d q=>q) fun d xs q=>q
   rcases hd with rfl | hd
   ·exact ntr _ _ e
   ·exact ntr _ _ hd
 self:=fun _ _ _ _ _ st h=>wpAny_pyIter_zip st.1 h
theorem zapart_new (n:Nat):ZApart (n+4) (n+2) (n+3) n (n+1):=by
 constructor <;> exact (show ∀ a b:Nat,a≠b->a≠b from fun _ _ h=>h) _ _ (by omega)
section
variable {X:Cx}
def iZip (j1 j2:Bool) (K:KC) (ta:TA):TI:=fun σ H R=>ta σ H fun vs H1=>∃ a b,vs=[.ref a,.ref b]/\(∃ xs,Sq j1 K H1 a xs)/\(∃ ys,Sq j2 K H1 b ys)/\R (Itz j1 j2 K a b) H1
theorem pi_zip (j1 j2:Bool) {elts:List Kv} {kk:Nat} {pp:KB} {a b:Kv} {ta:TA} {p pos:KB} (hg:Gl X "zip") (hm:X.mg "zip"=none) (ha:PA X [a,b] ta) (hs:Ke [a,b] X.env=[(false,Kz a X.env),(false,Kz b X.env)]:=by rfl) (hs2:Ke [b] X.env=[(false,Kz b X.env)]:=by rfl) :
  PI X (.Tuple elts kk pp) (.Call (.Name "zip" p) [a,b] [] pos) (iZip j1 j2 X.K ta):=by
 intro KJ s σ H R I h
 refine Call_ (jX I hg hm boot_zip (KH (thn (ha pos KJ s σ H _ I h) fun us s1 ⟨vs,H1,I1,r1,q1⟩=>?_) (by rw [hs,hs2]) (by rw [hs2];rfl)))
 obtain ⟨a,b,e,⟨xs,hx⟩,⟨ys,hy⟩,q⟩:=q1
 subst e
 cases r1 with
 | cons r rr =>
  cases rr with
  | cons r' rr =>
   cases rr
   cases r
   cases r'
   obtain ⟨its1,_,p1,_⟩:=I1.seq hx
   obtain ⟨its2,_,p2,_⟩:=I1.seq hy
   refine call_zip_seq p1 p2 fun h' c1 c2 c3 c4 c5 c6 up=>wpAny_pyIter_zip c1 ?_
   have I2:Inv X KJ σ H1 { s1 with heap:=h' }:=I1.kept (t':=s1.toks) up
   refine ⟨s1.heap.objs.size+4,[s1.heap.objs.size+4,s1.heap.objs.size+2,s1.heap.objs.size+3,s1.heap.objs.size,s1.heap.objs.size+1],_,_,H1,rfl,I2,turn_zip (j1:=j1) (j2:=j2) (TI:=s1.heap.objs.size+2) (TO:=s1.heap.objs.size+3) (i1:=s1.heap.objs.size) (i2:=s1.heap.objs.size+1) (zapart_new _),⟨c1,c2,⟨_,_,c3⟩,c4,c5⟩,fun b hb=>?_,q⟩
   have hb':@LE.le Nat instLENat s1.heap.objs.size b:=by
    simp only [Qa,Qi,or_false] at hb
    rcases hb with rfl | rfl | rfl | rfl | rfl
    ·exact Pt _ 4
    ·exact Pt _ 2
    ·exact Pt _ 3
    ·exact Ql _
    ·exact Pt _ 1
   have:=I1.fpOk (H':=H1) hb' (I1.hok.fresh hb')
   exact this
end
end L2
namespace M
open PySem PySem.Spec L2
open PySem.W (Frag)
inductive D where
 | non | bl (b:Bool) | int (i:Int) | str (x:Kw) | tup (xs:List D) | lst (xs:List D) | dict (ks:List Key) (vs:List D)
  | scr (ns:List Int)
  | adr (a:Kc)
  | kset (ks:List (List Int))
  | tk (ns:List Int)
  | pin (a:Kc) (d:D)
def KL (K:KC) (a:Kc) (xs:List V):Prop :=
 ∃ (o:KA) (KP:Array Ka) (n:Nat),K.lookup a=some o/\o.cls=.type "list"/\o.dict=none/\o.data=.seq KP n/\KP.size<=Kg/\zU xs KP.toList
def RL (K:KC) (H:Hp) (B:Kc->Prop) (a:Kc) (xs:List V):Prop:=Rd H a (.lst xs)/\¬ B a
def RS (K:KC) (H:Hp) (a:Kc) (xs:List V):Prop:=(∃ o,H a=some (.frz o (.lst xs)))\/KL K a xs
theorem RS.sq {K:KC} {H:Hp} {a:Kc} {xs:List V} (h:RS K H a xs):SqL K H a xs:=by
 rcases h with h | h
 ·exact .inl (.inr h)
 ·exact .inr h
theorem RL.sq {K:KC} {H:Hp} {B:Kc->Prop} {a:Kc} {xs:List V} (h:RL K H B a xs):SqL K H a xs:=.inl h.1
mutual
def Rep (K:KC) (H:Hp) (B:Kc->Prop):D->V->Prop
 | .non,v=>v=.non
 | .bl b,v=>v=.bl b
 | .int i,v=>v=.int i
 | .str x,v=>v=.str x
 | .tup ds,v=>∃ a xs,v=.ref a/\SqT K H a xs/\zr K H B ds xs
 | .lst ds,v=>∃ a xs,v=.ref a/\RL K H B a xs/\zr K H B ds xs
 | .dict ks ds,v=>∃ a KO,v=.ref a/\(H a=some (.dK KO)/\¬ B a)/\KO.map (·.1)=ks/\zr K H B ds (KO.map (·.2))
 | .scr ns,v=>∃ a,v=.ref a/\RS K H a (ns.map V.int)
 | .adr a,v=>v=.ref a
 | .kset _,v=>∃ a,v=.ref a
 | .tk ns,v=>∃ a,v=.ref a/\H a=some (.tup (ns.map V.int))
 | .pin a d,v=>v=.ref a/\Rep K H B d v
def zr (K:KC) (H:Hp) (B:Kc->Prop):List D->List V->Prop
 | [],vs=>vs=[]
 | d::ds,vs=>∃ v r,vs=v::r/\Rep K H B d v/\zr K H B ds r
end
mutual
def D.flat:D->Bool
 | .tup ds=>Yi ds
 | .lst _=>false
 | .dict _ _=>false
 | .kset _=>false
 | .pin _ d=>d.flat
 | _=>true
def Yi:List D->Bool
 | []=>true
 | d::ds=>d.flat&&Yi ds
end
section
variable {K:KC} {H H':Hp} {B B':Kc->Prop}
theorem SqT.same {a:Kc} {xs:List V} (e:zO H H') (h:SqT K H a xs):SqT K H' a xs:=by
 rcases h with (h | ⟨o,h⟩) | h
 ·exact .inl (.inl (e _ _ h))
 ·exact .inl (.inr ⟨o,e _ _ h⟩)
 ·exact .inr h
theorem Rd.same {a:Kc} {u:HO} (e:zO H H') (h:Rd H a u):Rd H' a u:=by
 rcases h with h | ⟨o,h⟩
 ·exact .inl (e _ _ h)
 ·exact .inr ⟨o,e _ _ h⟩
structure Goes (H H':Hp) (B B':Kc->Prop):Prop where
 tup:∀ a xs,Rd H a (.tup xs)->Rd H' a (.tup xs)
 lst:∀ a xs,Rd H a (.lst xs)->¬ B a->Rd H' a (.lst xs)/\¬ B' a
 dct:∀ a KO,H a=some (.dK KO)->¬ B a->H' a=some (.dK KO)/\¬ B' a
 frz:∀ a o u,H a=some (.frz o u)->H' a=some (.frz o u)
 tkt:∀ a xs,H a=some (.tup xs)->H' a=some (.tup xs)
mutual
theorem Rep.goes (g:Goes H H' B B'):∀ (d:D) (v:V),Rep K H B d v->Rep K H' B' d v
 | .non,v,h=>by simpa [Rep] using h
 | .bl b,v,h=>by simpa [Rep] using h
 | .int i,v,h=>by simpa [Rep] using h
 | .str x,v,h=>by simpa [Rep] using h
 | .tup ds,v,h=>by
  simp only [Rep] at h ⊢
  obtain ⟨a,xs,e,hq,hr⟩:=h
  refine ⟨a,xs,e,?_,zr.goes g ds xs hr⟩
  rcases hq with hq | hq
  ·exact .inl (g.tup a xs hq)
  ·exact .inr hq
 | .lst ds,v,h=>by
  simp only [Rep] at h ⊢
  obtain ⟨a,xs,e,hq,hr⟩:=h
  exact ⟨a,xs,e,g.lst a xs hq.1 hq.2,zr.goes g ds xs hr⟩
 | .dict ks ds,v,h=>by
  simp only [Rep] at h ⊢
  obtain ⟨a,KO,e,⟨hq,hb⟩,hk,hr⟩:=h
  exact ⟨a,KO,e,g.dct a KO hq hb,hk,zr.goes g ds _ hr⟩
 | .scr ns,v,h=>by
  simp only [Rep] at h ⊢
  obtain ⟨a,e,hq⟩:=h
  refine ⟨a,e,?_⟩
  rcases hq with ⟨o,hq⟩ | hq
  ·exact .inl ⟨o,g.frz a o _ hq⟩
  ·exact .inr hq
 | .adr a,v,h=>by simpa [Rep] using h
 | .kset ks,v,h=>by simpa [Rep] using h
 | .tk ns,v,h=>by
  simp only [Rep] at h ⊢
  obtain ⟨a,e,q⟩:=h
  exact ⟨a,e,g.tkt a _ q⟩
 | .pin a d,v,h=>by
  simp only [Rep] at h ⊢
  exact ⟨h.1,Rep.goes g d v h.2⟩
theorem zr.goes (g:Goes H H' B B'):∀ (ds:List D) (vs:List V),zr K H B ds vs->zr K H' B' ds vs
 | [],vs,h=>by simpa [zr] using h
 | d::ds,vs,h=>by
  simp only [zr] at h ⊢
  obtain ⟨v,r,e,h1,h2⟩:=h
  exact ⟨v,r,e,Rep.goes g d v h1,zr.goes g ds r h2⟩
end
theorem Goes.less (h:∀ a,B' a->B a) (e:zO H H'):Goes H H' B B' :=
 ⟨fun _ _ q=>Rd.same e q,fun a _ q n=>⟨Rd.same e q,fun z=>n (h a z)⟩,fun a _ q n=>⟨e _ _ q,fun z=>n (h a z)⟩,fun _ _ _ q=>e _ _ q,fun _ _ q=>e _ _ q⟩
theorem Goes.same (e:zO H H'):Goes H H' B B:=.less (fun _ z=>z) e
theorem Goes.fresh {a:Kc} (hn:H a=none) (e:zO H H'):Goes H H' B (fun b=>B b\/b=a) :=
  ⟨fun _ _ q=>Rd.same e q,fun b xs q n=>⟨Rd.same e q,fun z=>z.elim n fun z=>by subst z;rcases q with q | ⟨o,q⟩ <;> (rw [hn] at q;cases q)⟩,
   fun b _ q n=>⟨e _ _ q,fun z=>z.elim n fun z=>by subst z;rw [hn] at q;cases q⟩,fun _ _ _ q=>e _ _ q,fun _ _ q=>e _ _ q⟩
theorem Goes.write {a:Kc} {o u:HO} (hB:B a) (ha:H a=some u) (hm:Mut (some u)):Goes H (upd H a o) B B:=by
 have nt:∀ b w,H b=some w->(¬ ∃ z:Mut (some w),True)->b≠a:=fun b w q z e=>by subst e;rw [ha] at q;cases q;exact z ⟨hm,trivial⟩
 refine ⟨fun b xs q=>?_,fun b xs q n=>?_,fun b KO q n=>?_,fun b ob w q=>by rw [zh (nt b _ q fun ⟨z,_⟩=>z)];exact q,fun b xs q=>by rw [zh (nt b _ q fun ⟨z,_⟩=>z)];exact q⟩
 ·rcases q with q | ⟨ob,q⟩
  ·exact .inl (by rw [zh (nt b _ q fun ⟨z,_⟩=>z)];exact q)
  ·exact .inr ⟨ob,by rw [zh (nt b _ q fun ⟨z,_⟩=>z)];exact q⟩
 ·have hne:b≠a:=fun e=>n (by rw [e];exact hB)
  refine ⟨?_,n⟩
  rcases q with q | ⟨ob,q⟩
  ·exact .inl (by rw [zh hne];exact q)
  ·exact .inr ⟨ob,by rw [zh hne];exact q⟩
 ·have hne:b≠a:=fun e=>n (by rw [e];exact hB)
  exact ⟨by rw [zh hne];exact q,n⟩
mutual
theorem Rep.flat:∀ (d:D) (v:V),d.flat=true->Rep K H B d v->Rep K H B' d v
 | .non,v,_,h=>by simpa [Rep] using h
 | .bl b,v,_,h=>by simpa [Rep] using h
 | .int i,v,_,h=>by simpa [Rep] using h
 | .str x,v,_,h=>by simpa [Rep] using h
 | .tup ds,v,f,h=>by
  simp only [Rep] at h ⊢
  simp only [D.flat] at f
  obtain ⟨a,xs,e,hq,hr⟩:=h
  exact ⟨a,xs,e,hq,zr.flat ds xs f hr⟩
 | .lst ds,v,f,h=>by simp [D.flat] at f
 | .dict ks ds,v,f,h=>by simp [D.flat] at f
 | .scr ns,v,f,h=>by simpa [Rep] using h
 | .adr a,v,f,h=>by simpa [Rep] using h
 | .kset ks,v,f,h=>by simp [D.flat] at f
 | .tk ns,v,f,h=>by simpa [Rep] using h
 | .pin a d,v,f,h=>by
  simp only [Rep] at h ⊢
  simp only [D.flat] at f
  exact ⟨h.1,Rep.flat d v f h.2⟩
theorem zr.flat:∀ (ds:List D) (vs:List V),Yi ds=true->zr K H B ds vs->zr K H B' ds vs
 | [],vs,_,h=>by simpa [zr] using h
 | d::ds,vs,f,h=>by
  simp only [zr] at h ⊢
  simp only [Yi,QC] at f
  obtain ⟨v,r,e,h1,h2⟩:=h
  exact ⟨v,r,e,Rep.flat d v f.1 h1,zr.flat ds r f.2 h2⟩
end
theorem zr.length:∀ {ds:List D} {vs:List V},zr K H B ds vs->vs.length=ds.length
 | [],vs,h=>by simp only [zr] at h;subst h;rfl
 | d::ds,vs,h=>by
  simp only [zr] at h
  obtain ⟨v,r,e,h1,h2⟩:=h
  subst e
  simp [zr.length h2]
theorem zr.get:∀ {ds:List D} {vs:List V} {i:Nat} {d:D},zr K H B ds vs->ds[i]?=some d->∃ v,vs[i]?=some v/\Rep K H B d v
 | [],vs,i,d,h,e=>by simp at e
 | d::ds,vs,0,d',h,e=>by
  simp only [zr] at h
  obtain ⟨v,r,ev,h1,h2⟩:=h
  simp at e;subst e;subst ev
  exact ⟨v,rfl,h1⟩
 | d::ds,vs,i+1,d',h,e=>by
  simp only [zr] at h
  obtain ⟨v,r,ev,h1,h2⟩:=h
  subst ev
  obtain ⟨v',q1,q2⟩:=zr.get (i:=i) (d:=d') h2 (by simpa using e)
  exact ⟨v',by simpa using q1,q2⟩
theorem zr.append:∀ {ds es:List D} {vs ws:List V},zr K H B ds vs->zr K H B es ws->zr K H B (ds++es) (vs++ws)
 | [],es,vs,ws,h,h'=>by simp only [zr] at h;subst h;exact h'
 | d::ds,es,vs,ws,h,h'=>by
  simp only [zr] at h
  obtain ⟨v,r,ev,h1,h2⟩:=h
  subst ev
  simp only [QF,zr]
  exact ⟨v,r++ws,rfl,h1,zr.append h2 h'⟩
theorem zr.nil:zr K H B [] []:=by simp [zr]
theorem zr.cons {d:D} {ds:List D} {v:V} {vs:List V} (h:Rep K H B d v) (h':zr K H B ds vs):zr K H B (d::ds) (v::vs):=by
 simp only [zr];exact ⟨v,vs,rfl,h,h'⟩
theorem zr.one {d:D} {v:V} (h:Rep K H B d v):zr K H B [d] [v]:=.cons h .nil
theorem zr.set:∀ {ds:List D} {vs:List V} {d:D} {v:V} (i:Nat),zr K H B ds vs->Rep K H B d v->zr K H B (ds.set i d) (vs.set i v)
 | [],vs,d,v,i,h,_=>by simp only [zr] at h;subst h;simp [zr]
 | d'::ds,vs,d,v,0,h,h'=>by
  simp only [zr] at h
  obtain ⟨v',r,ev,h1,h2⟩:=h
  subst ev
  exact .cons h' h2
 | d'::ds,vs,d,v,i+1,h,h'=>by
  simp only [zr] at h
  obtain ⟨v',r,ev,h1,h2⟩:=h
  subst ev
  exact .cons h1 (zr.set i h2 h')
theorem zr.take:∀ {ds:List D} {vs:List V} (n:Nat),zr K H B ds vs->zr K H B (ds.take n) (vs.take n)
 | [],vs,n,h=>by simp only [zr] at h;subst h;simp [zr]
 | d::ds,vs,0,h=>by simp [zr]
 | d::ds,vs,n+1,h=>by
  simp only [zr] at h
  obtain ⟨v',r,ev,h1,h2⟩:=h
  subst ev
  exact .cons h1 (zr.take n h2)
theorem zr.drop:∀ {ds:List D} {vs:List V} (n:Nat),zr K H B ds vs->zr K H B (ds.drop n) (vs.drop n)
 | [],vs,n,h=>by simp only [zr] at h;subst h;simp [zr]
 | d::ds,vs,0,h=>h
 | d::ds,vs,n+1,h=>by
  simp only [zr] at h
  obtain ⟨v',r,ev,h1,h2⟩:=h
  subst ev
  exact zr.drop n h2
theorem zr.ints {ns:List Int}:zr K H B (ns.map D.int) (ns.map V.int):=by
 induction ns with
 | nil=>exact .nil
 | cons n r ih=>exact .cons (by simp [Rep]) ih
theorem zr.ints':∀ {ns:List Int} {vs:List V},zr K H B (ns.map D.int) vs->vs=ns.map V.int
 | [],vs,h=>by simpa [zr] using h
 | n::r,vs,h=>by
  simp only [Qk,zr,Rep] at h
  obtain ⟨v,r',e,h1,h2⟩:=h
  subst e;subst h1
  rw [zr.ints' h2];rfl
end
abbrev Ev:=List (Option D)
def Bl (Ua:Kc->Prop) (os:List Nat) (σ:St) (a:Kc):Prop:=Ua a\/∃ i,i∈os/\σ[i]?=some (some (.ref a))
def BB (st:Bool) (Ua:Kc->Prop) (os:List Nat) (σ:St):Kc->Prop:=match st with | true=>Bl Ua os σ | false=>Ua
def Own (K:KC) (H:Hp) (B:Kc->Prop):HO->D->Prop
 | .lst xs,.lst ds=>zr K H B ds xs
 | .dK KO,.dict ks ds=>KO.map (·.1)=ks/\zr K H B ds (KO.map (·.2))
 | .dT KO,.kset ks=>KO=ks.map fun k=>(k.map Sum.inl,V.bl true)
 | _,_=>False
theorem Own.goes {K:KC} {H H':Hp} {B B':Kc->Prop} (g:Goes H H' B B') {o:HO} {d:D} (h:Own K H B o d):Own K H' B' o d:=by
 cases o <;> cases d <;> simp only [Own] at h ⊢
 ·exact zr.goes g _ _ h
 ·exact ⟨h.1,zr.goes g _ _ h.2⟩
 ·exact h
theorem Own.mut {K:KC} {H:Hp} {B:Kc->Prop} {o:HO} {d:D} (h:Own K H B o d):Mut (some o):=by
 cases o <;> cases d <;> simp only [Own] at h <;> trivial
structure Md (K:KC) (P9:Hp) (Ua:Kc->Prop) (os:List Nat) (σ:St) (H:Hp) (ρ:Ev):Prop where
 grow:zO P9 H
 blk:∀ a,Ua a->∃ o,H a=some o
 len:σ.length=ρ.length
 sh:∀ (i:Nat) d,ρ[i]?=some (some d)->i∉os->∃ v,σ[i]?=some (some v)/\Rep K H (Bl Ua os σ) d v
 own:∀ (i:Nat),i∈os->∃ a o d,σ[i]?=some (some (.ref a))/\ρ[i]?=some (some d)/\H a=some o/\(P9 a=none/\¬ Ua a)/\Own K H (Bl Ua os σ) o d
 sep:∀ (i j:Nat) a,i∈os->j∈os->σ[i]?=some (some (.ref a))->σ[j]?=some (some (.ref a))->i=j
section
variable {K:KC} {P9 H H':Hp} {Ua:Kc->Prop} {os os':List Nat} {σ:St} {ρ:Ev}
theorem Md.up (m:Md K P9 Ua os σ H ρ) (e:zO H H'):Md K P9 Ua os σ H' ρ where
 grow:=m.grow.trans e
 blk:=fun a h=>let ⟨o,q⟩:=m.blk a h;⟨o,e _ _ q⟩
 len:=m.len
 sh:=fun i d q n=>by obtain ⟨v,h1,h2⟩:=m.sh i d q n;exact ⟨v,h1,Rep.goes (.same e) _ _ h2⟩
 own:=fun i hi=>by
  obtain ⟨a,o,d,h1,h2,h3,h4,h5⟩:=m.own i hi
  exact ⟨a,o,d,h1,h2,e _ _ h3,h4,h5.goes (.same e)⟩
 sep:=m.sep
theorem Md.tracked (m:Md K P9 Ua os σ H ρ) {a:Kc} (h:Bl Ua os σ a):∃ o,H a=some o:=by
 rcases h with h | ⟨i,hi,e⟩
 ·exact m.blk a h
 ·obtain ⟨a',o,d,h1,_,h3,_⟩:=m.own i hi
  rw [e] at h1;cases h1
  exact ⟨o,h3⟩
theorem Md.ntracked (m:Md K P9 Ua os σ H ρ) {a:Kc} (h:H a=none):¬ Bl Ua os σ a:=fun z=>by
 obtain ⟨o,q⟩:=m.tracked z;rw [h] at q;cases q
theorem Md.freeze (m:Md K P9 Ua os σ H ρ) (hs:∀ i∈os',i∈os):Md K P9 Ua os' σ H ρ:=by
 have less:∀ a,Bl Ua os' σ a->Bl Ua os σ a:=fun a z=>z.elim .inl fun ⟨i,h1,h2⟩=>.inr ⟨i,hs i h1,h2⟩
 have g:Goes H H (Bl Ua os σ) (Bl Ua os' σ):=.less less (.refl H)
 refine ⟨m.grow,m.blk,m.len,fun i d q n=>?_,fun i hi=>?_,fun i j a h1 h2=>m.sep i j a (hs i h1) (hs j h2)⟩
 ·by_cases hi:i∈os
  ·obtain ⟨a,o,d',h1,h2,h3,h4,h5⟩:=m.own i hi
   rw [q] at h2;cases h2
   refine ⟨_,h1,?_⟩
   have nb:¬ Bl Ua os' σ a:=fun z=>by
    rcases z with z | ⟨j,hj,e⟩
    ·exact h4.2 z
    ·exact n ((m.sep i j a hi (hs j hj) h1 e)▸hj)
   cases o <;> cases d <;> simp only [Own] at h5
   ·simp only [Rep];exact ⟨a,_,rfl,⟨.inl h3,nb⟩,zr.goes g _ _ h5⟩
   ·simp only [Rep];exact ⟨a,_,rfl,⟨h3,nb⟩,h5.1,zr.goes g _ _ h5.2⟩
   ·simp only [Rep];exact ⟨a,rfl⟩
  ·obtain ⟨v,h1,h2⟩:=m.sh i d q hi
   exact ⟨v,h1,Rep.goes g _ _ h2⟩
 ·obtain ⟨a,o,d,h1,h2,h3,h4,h5⟩:=m.own i (hs i hi)
  exact ⟨a,o,d,h1,h2,h3,h4,h5.goes g⟩
theorem zf {α:Type} {l:List α} {i j:Nat} {x:α} (h:j≠i):(l.set i x)[j]?=l[j]?:=by
 rw [List.getElem?_set];simp [Ne.symm h]
theorem yD {α:Type} {l:List α} {i:Nat} {x y:α} (h:(l.set i x)[i]?=some y):y=x:=by
 rw [List.getElem?_set] at h
 by_cases hi:i<l.length
 ·simp [hi] at h;exact h.symm
 ·simp [hi] at h
theorem zK {α:Type} {l:List α} {i:Nat} {x:α} (h:i<l.length):(l.set i x)[i]?=some x:=by simp [h]
theorem Md.put (m:Md K P9 Ua os σ H ρ) {i:Nat} {v:V} {d:D} (hs:∀ j∈os',j∈os/\j≠i) (hs2:∀ j∈os,j∈os'\/j=i) (h:Rep K H (Bl Ua os σ) d v):Md K P9 Ua os' (σ.set i (some v)) H (ρ.set i (some d)):=by
 have less:∀ a,Bl Ua os' (σ.set i (some v)) a->Bl Ua os σ a:=fun a z=>z.elim .inl fun ⟨j,h1,h2⟩=>.inr ⟨j,(hs j h1).1,by rw [zf (hs j h1).2] at h2;exact h2⟩
 have g:Goes H H (Bl Ua os σ) (Bl Ua os' (σ.set i (some v))):=.less less (.refl H)
 refine ⟨m.grow,m.blk,by rw [Qu,Qu];exact m.len,fun j e q n=>?_,fun j hj=>?_,fun j k a h1 h2=>?_⟩
 ·by_cases hj:j=i
  ·subst hj
   have:=yD q
   cases this
   have hi:j<ρ.length:=by have:=(Qs.mp q).1;rwa [Qu] at this
   exact ⟨v,zK (by rw [m.len];exact hi),Rep.goes g _ _ h⟩
  ·rw [zf hj] at q
   obtain ⟨w',h1,h2⟩:=m.sh j e q (fun z=>(hs2 j z).elim n hj)
   exact ⟨w',by rw [zf hj];exact h1,Rep.goes g _ _ h2⟩
 ·obtain ⟨a,o,e,h1,h2,h3,h4,h5⟩:=m.own j (hs j hj).1
  exact ⟨a,o,e,by rw [zf (hs j hj).2];exact h1,by rw [zf (hs j hj).2];exact h2,h3,h4,h5.goes g⟩
 ·rw [zf (hs j h1).2,zf (hs k h2).2]
  exact m.sep j k a (hs j h1).1 (hs k h2).1
theorem Md.putNew (m:Md K P9 Ua os σ H ρ) {i:Nat} {a:Kc} {o:HO} {d:D} (hi:i<ρ.length) (hs:∀ j∈os',j=i\/(j∈os/\j≠i)) (hs2:∀ j∈os,j∈os'\/j=i) (hm:i∈os') (e:zO H H') (hn:H a=none) (ho:H' a=some o)
  (h:Own K H' (fun b=>Bl Ua os σ b\/b=a) o d):Md K P9 Ua os' (σ.set i (some (.ref a))) H' (ρ.set i (some d)):=by
 have hil:i<σ.length:=by rw [m.len];exact hi
 have less:∀ b,Bl Ua os' (σ.set i (some (.ref a))) b->Bl Ua os σ b\/b=a:=fun b z=>by
  rcases z with z | ⟨j,h1,h2⟩
  ·exact .inl (.inl z)
  ·rcases hs j h1 with rfl | ⟨q1,q2⟩
   ·rw [zK hil] at h2;cases h2;exact .inr rfl
   ·rw [zf q2] at h2;exact .inl (.inr ⟨j,q1,h2⟩)
 have g:Goes H H' (Bl Ua os σ) (Bl Ua os' (σ.set i (some (.ref a)))):=by
  have g1:=Goes.fresh (B:=Bl Ua os σ) hn e
  exact ⟨g1.tup,fun b xs q n=>⟨(g1.lst b xs q n).1,fun z=>(g1.lst b xs q n).2 (less b z)⟩,fun b xs q n=>⟨(g1.dct b xs q n).1,fun z=>(g1.dct b xs q n).2 (less b z)⟩,g1.frz,g1.tkt⟩
 have h0:P9 a=none/\¬ Ua a:=⟨m.grow.free hn,fun z=>by obtain ⟨u,q⟩:=m.blk a z;rw [hn] at q;cases q⟩
 refine ⟨m.grow.trans e,fun b h=>(let ⟨u,q⟩:=m.blk b h;⟨u,e _ _ q⟩),by rw [Qu,Qu];exact m.len,fun j c q n=>?_,fun j hj=>?_,fun j k b h1 h2=>?_⟩
 ·have hj:j≠i:=fun z=>n (z▸hm)
  rw [zf hj] at q
  obtain ⟨w',h1,h2⟩:=m.sh j c q (fun z=>(hs2 j z).elim n hj)
  exact ⟨w',by rw [zf hj];exact h1,Rep.goes g _ _ h2⟩
 ·rcases hs j hj with rfl | ⟨q1,q2⟩
  ·exact ⟨a,o,d,zK hil,zK hi,ho,h0,h.goes (.less less (.refl H'))⟩
  ·obtain ⟨b,u,c,h1,h2,h3,h4,h5⟩:=m.own j q1
   exact ⟨b,u,c,by rw [zf q2];exact h1,by rw [zf q2];exact h2,e _ _ h3,h4,h5.goes g⟩
 ·have nown:∀ l,l∈os->σ[l]?=some (some (.ref a))->False:=fun l hl q=>by
   obtain ⟨b,u,c,h1,h2,h3,_⟩:=m.own l hl
   rw [q] at h1;cases h1
   rw [hn] at h3;cases h3
  intro e1 e2
  rcases hs j h1 with rfl | ⟨q1,q2⟩
  ·rcases hs k h2 with rfl | ⟨q3,q4⟩
   ·rfl
   ·rw [zK hil] at e1;cases e1
    rw [zf q4] at e2
    exact (nown k q3 e2).elim
  ·rcases hs k h2 with rfl | ⟨q3,q4⟩
   ·rw [zK hil] at e2;cases e2
    rw [zf q2] at e1
    exact (nown j q1 e1).elim
   ·rw [zf q2] at e1;rw [zf q4] at e2
    exact m.sep j k b q1 q3 e1 e2
theorem Md.write (m:Md K P9 Ua os σ H ρ) {i:Nat} {a:Kc} {o:HO} {d:D} (hi:i∈os) (hs:σ[i]?=some (some (.ref a)))
  (h:Own K H (Bl Ua os σ) o d):Md K P9 Ua os σ (upd H a o) (ρ.set i (some d)):=by
 obtain ⟨a',o',d',h1,h2,h3,h4,h5⟩:=m.own i hi
 rw [hs] at h1;cases h1
 have hB:Bl Ua os σ a:=.inr ⟨i,hi,hs⟩
 have g:Goes H (upd H a o) (Bl Ua os σ) (Bl Ua os σ):=.write hB h3 h5.mut
 have hil:i<ρ.length:=(Qs.mp h2).1
 refine ⟨fun b u q=>?_,fun b hb=>?_,by rw [Qu];exact m.len,fun j c q n=>?_,fun j hj=>?_,m.sep⟩
 rotate_left
 ·by_cases z:b=a
  ·subst z;exact ⟨_,zm⟩
  ·rw [zh z];exact m.blk b hb
 rotate_left
 rotate_left
 ·by_cases hb:b=a
  ·subst hb;rw [h4.1] at q;cases q
  ·rw [zh hb];exact m.grow _ _ q
 ·have hj:j≠i:=fun z=>n (z▸hi)
  rw [zf hj] at q
  obtain ⟨w',q1,q2⟩:=m.sh j c q n
  exact ⟨w',q1,Rep.goes g _ _ q2⟩
 ·by_cases hji:j=i
  ·subst hji
   exact ⟨a,o,d,hs,zK hil,zm,h4,h.goes g⟩
  ·obtain ⟨b,u,c,q1,q2,q3,q4,q5⟩:=m.own j hj
   have hb:b≠a:=fun z=>hji (m.sep j i a hj hi (z▸q1) hs)
   exact ⟨b,u,c,q1,by rw [zf hji];exact q2,by rw [zh hb];exact q3,q4,q5.goes g⟩
theorem Md.get (m:Md K P9 Ua os σ H ρ) {i:Nat} {d:D} (q:ρ[i]?=some (some d)):∃ v,σ[i]?=some (some v)/\Rep K H Ua d v:=by
 obtain ⟨v,h1,h2⟩:=(m.freeze (os':=[]) (fun _ z=>nomatch z)).sh i d q (by simp)
 exact ⟨v,h1,Rep.goes (.less (fun a z=>.inl z) (.refl H)) _ _ h2⟩
def jM (H:Hp) (os:List Nat) (σ:St):Hp:=fun a=>open Classical in if ∃ i,i∈os/\σ[i]?=some (some (.ref a)) then none else H a
theorem unown_of {a:Kc} {o:HO} (h:jM H os σ a=some o):H a=some o/\¬ ∃ i,i∈os/\σ[i]?=some (some (.ref a)):=by
 unfold jM at h
 split at h
 ·cases h
 ·rename_i z;exact ⟨h,z⟩
theorem Y1 {a:Kc} (h:¬ ∃ i,i∈os/\σ[i]?=some (some (.ref a))):jM H os σ a=H a:=by
 unfold jM;rw [KR h]
theorem unown_own {a:Kc} (h:∃ i,i∈os/\σ[i]?=some (some (.ref a))):jM H os σ a=none:=by
 unfold jM;rw [KQ h]
theorem Md.sub (m:Md K P9 Ua os σ H ρ):zO P9 (jM H os σ):=fun a o q=>by
 have:¬ ∃ i,i∈os/\σ[i]?=some (some (.ref a)):=fun ⟨i,hi,e⟩=>by
  obtain ⟨a',o',d,h1,_,_,h4,_⟩:=m.own i hi
  rw [e] at h1;cases h1
  rw [h4.1] at q;cases q
 rw [Y1 this];exact m.grow _ _ q
theorem Md.deep (m:Md K P9 Ua os σ H ρ):Md K (jM H os σ) Ua os σ H ρ :=
 ⟨fun a o q=>(unown_of q).1,m.blk,m.len,m.sh,fun i hi=>by
  obtain ⟨a,o,d,h1,h2,h3,h4,h5⟩:=m.own i hi
  exact ⟨a,o,d,h1,h2,h3,⟨unown_own ⟨i,hi,h1⟩,h4.2⟩,h5⟩,m.sep⟩
theorem Md.shallow {H₁:Hp} (m:Md K H₁ Ua os σ H ρ) (e:zO P9 H₁):Md K P9 Ua os σ H ρ :=
 ⟨e.trans m.grow,m.blk,m.len,m.sh,fun i hi=>by
  obtain ⟨a,o,d,h1,h2,h3,h4,h5⟩:=m.own i hi
  exact ⟨a,o,d,h1,h2,h3,⟨e.free h4.1,h4.2⟩,h5⟩,m.sep⟩
theorem Md.goDown (m:Md K P9 Ua os σ H ρ):Goes H (jM H os σ) (Bl Ua os σ) Ua:=by
 have nt:∀ a xs,Rd H a (.tup xs)->¬ ∃ i,i∈os/\σ[i]?=some (some (.ref a)):=fun a xs q ⟨i,hi,e⟩=>by
  obtain ⟨a',o',d,h1,_,h3,_,h5⟩:=m.own i hi
  rw [e] at h1;cases h1
  rcases q with q | ⟨ob,q⟩ <;> (rw [q] at h3;cases h3;cases d <;> simp only [Own] at h5)
 refine ⟨fun a xs q=>?_,fun a xs q n=>?_,fun a KO q n=>?_,fun a ob w q=>?_,fun a xs q=>(Y1 (H:=H) (nt a xs (.inl q))).trans q⟩
 rotate_left 3
 ·refine (Y1 (H:=H) ?_).trans q
  rintro ⟨i,hi,e⟩
  obtain ⟨a',o',d,h1,_,h3,_,h5⟩:=m.own i hi
  rw [e] at h1;cases h1
  rw [q] at h3;cases h3;cases d <;> simp only [Own] at h5
 ·have z:=Y1 (H:=H) (nt a xs q)
  rcases q with q | ⟨ob,q⟩
  ·exact .inl (z.trans q)
  ·exact .inr ⟨ob,z.trans q⟩
 ·have z:=Y1 (H:=H) (fun z=>n (.inr z))
  refine ⟨?_,fun b=>n (.inl b)⟩
  rcases q with q | ⟨ob,q⟩
  ·exact .inl (z.trans q)
  ·exact .inr ⟨ob,z.trans q⟩
 ·exact ⟨(Y1 (H:=H) (fun z=>n (.inr z))).trans q,fun b=>n (.inl b)⟩
theorem Md.goUp (m:Md K P9 Ua os σ H ρ):Goes P9 H Ua (Bl Ua os σ):=by
 have nb:∀ a o,P9 a=some o->¬ Ua a->¬ Bl Ua os σ a:=fun a o q n z=>z.elim n fun ⟨i,hi,e⟩=>by
  obtain ⟨a',o',d,h1,_,_,h4,_⟩:=m.own i hi
  rw [e] at h1;cases h1
  rw [h4.1] at q;cases q
 refine ⟨fun a xs q=>Rd.same m.grow q,fun a xs q n=>⟨Rd.same m.grow q,?_⟩,fun a KO q n=>⟨m.grow _ _ q,nb a _ q n⟩,fun a o u q=>m.grow _ _ q,fun a xs q=>m.grow _ _ q⟩
 rcases q with q | ⟨ob,q⟩ <;> exact nb a _ q n
theorem Md.upB (m:Md K P9 Ua os σ H ρ) {a:Kc} {o u:HO} (hB:Ua a) (h0:P9 a=none) (ha:H a=some u) (hm:Mut (some u)):Md K P9 Ua os σ (upd H a o) ρ:=by
 have g:Goes H (upd H a o) (Bl Ua os σ) (Bl Ua os σ):=.write (.inl hB) ha hm
 refine ⟨fun b v q=>?_,fun b hb=>?_,m.len,fun i d q n=>?_,fun i hi=>?_,m.sep⟩
 ·by_cases hb:b=a
  ·subst hb;rw [h0] at q;cases q
  ·rw [zh hb];exact m.grow _ _ q
 ·by_cases z:b=a
  ·subst z;exact ⟨_,zm⟩
  ·rw [zh z];exact m.blk b hb
 ·obtain ⟨v,h1,h2⟩:=m.sh i d q n
  exact ⟨v,h1,Rep.goes g _ _ h2⟩
 ·obtain ⟨b,w',d,h1,h2,h3,h4,h5⟩:=m.own i hi
  have hne:b≠a:=fun z=>h4.2 (by rw [z];exact hB)
  exact ⟨b,w',d,h1,h2,by rw [zh hne];exact h3,h4,h5.goes g⟩
end
def EOk (K:KC) (st:Bool) (os:List Nat) (t:TE) (f:Ev->Option D):Prop :=
 ∀ (P9:Hp) (Ua:Kc->Prop) (σ:St) (H:Hp) (ρ:Ev) (d:D) (Q:VK),Md K P9 Ua os σ H ρ->f ρ=some d->(∀ v H',zO H H'->Rep K H' (BB st Ua os σ) d v->Q v H')->t σ H Q
def FOk (K:KC) (os:List Nat) (t:TE) (f:Ev->Option D):Prop :=
 ∀ (P9:Hp) (Ua:Kc->Prop) (σ:St) (H:Hp) (ρ:Ev) (d:D) (Q:VK),Md K P9 Ua os σ H ρ->f ρ=some d->(∀ a o H',zO H H'->H a=none->H' a=some o->Own K H' (fun b=>Bl Ua os σ b\/b=a) o d->Q (.ref a) H')->t σ H Q
def COk (K:KC) (k:Bool) (os:List Nat) (t:TE) (f:Ev->Option (List D)):Prop :=
 ∀ (P9:Hp) (Ua:Kc->Prop) (σ:St) (H:Hp) (ρ:Ev) (ds:List D) (Q:VK),Md K P9 Ua os σ H ρ->f ρ=some ds->(∀ a xs H',zO H H'->Sq k K H' a xs->zr K H' (Bl Ua os σ) ds xs->Q (.ref a) H')->t σ H Q
def TOk (K:KC) (os:List Nat) (t:TT) (f:Ev->Option Bool):Prop :=
 ∀ (P9:Hp) (Ua:Kc->Prop) (σ:St) (H:Hp) (ρ:Ev) (b:Bool) (Q:Bool->Hp->Prop),Md K P9 Ua os σ H ρ->f ρ=some b->(∀ H',zO H H'->Q b H')->t σ H Q
def AOk (K:KC) (st:Bool) (os:List Nat) (t:TA) (f:Ev->Option (List D)):Prop :=
 ∀ (P9:Hp) (Ua:Kc->Prop) (σ:St) (H:Hp) (ρ:Ev) (ds:List D) (Q:List V->Hp->Prop),Md K P9 Ua os σ H ρ->f ρ=some ds->(∀ vs H',zO H H'->zr K H' (BB st Ua os σ) ds vs->Q vs H')->t σ H Q
structure SE (X:Cx) (st:Bool) (os:List Nat) (e:Kv) (t:TE) (f:Ev->Option D):Prop where
 pe:PE X e t
 ok:EOk X.K st os t f
structure SF (X:Cx) (os:List Nat) (e:Kv) (t:TE) (f:Ev->Option D):Prop where
 pe:PE X e t
 ok:FOk X.K os t f
structure SC (X:Cx) (k:Bool) (os:List Nat) (e:Kv) (t:TE) (f:Ev->Option (List D)):Prop where
 pe:PE X e t
 ok:COk X.K k os t f
structure SB (X:Cx) (os:List Nat) (e:Kv) (t:TT) (f:Ev->Option Bool):Prop where
 pt:PT X e t
 ok:TOk X.K os t f
structure SW (X:Cx) (os:List Nat) (e:Kv) (t:TT) (f:Ev->Option Bool):Prop where
 pw:PW X e t
 ok:TOk X.K os t f
structure SA (X:Cx) (st:Bool) (os:List Nat) (es:List Kv) (t:TA) (f:Ev->Option (List D)):Prop where
 pa:PA X es t
 ok:AOk X.K st os t f
section
variable {K:KC} {P9 H H':Hp} {Ua:Kc->Prop} {os:List Nat} {σ:St} {ρ:Ev} {st:Bool}
theorem Md.bb (m:Md K P9 Ua os σ H ρ) (st:Bool):∀ a,BB st Ua os σ a->∃ o,H a=some o:=fun a h=>by
 cases st with
 | true=>exact m.tracked h
 | false=>exact m.tracked (.inl h)
theorem bb_le (st:Bool):∀ a,BB st Ua os σ a->Bl Ua os σ a:=fun a h=>by
 cases st with
 | true=>exact h
 | false=>exact .inl h
theorem Rep.bb {d:D} {v:V} (h:Rep K H (Bl Ua os σ) d v):Rep K H (BB st Ua os σ) d v:=Rep.goes (.less (bb_le st) (.refl H)) _ _ h
theorem Rep.up {B:Kc->Prop} {d:D} {v:V} (e:zO H H') (h:Rep K H B d v):Rep K H' B d v:=Rep.goes (.same e) _ _ h
theorem zr.up {B:Kc->Prop} {d:List D} {v:List V} (e:zO H H') (h:zr K H B d v):zr K H' B d v:=zr.goes (.same e) _ _ h
theorem Own.rep {B:Kc->Prop} {a:Kc} {o:HO} {d:D} (h:Own K H (fun b=>B b\/b=a) o d) (ha:H a=some o) (nb:¬ B a):Rep K H B d (.ref a):=by
 have g:Goes H H (fun b=>B b\/b=a) B:=.less (fun _ z=>.inl z) (.refl H)
 cases o <;> cases d <;> simp only [Own] at h
 ·simp only [Rep];exact ⟨a,_,rfl,⟨.inl ha,nb⟩,zr.goes g _ _ h⟩
 ·simp only [Rep];exact ⟨a,_,rfl,⟨ha,nb⟩,h.1,zr.goes g _ _ h.2⟩
 ·simp only [Rep];exact ⟨a,rfl⟩
theorem zB {a:Kc} {o:HO} (h:H a=none):zO H (upd H a o):=fun b u q=>by
 rw [zh (fun z=>by subst z;rw [h] at q;cases q)];exact q
end
def asK:Bool->D->Option (List D)
 | true,.lst ds=>some ds
 | true,.scr ns=>some (ns.map .int)
 | false,.tup ds=>some ds
 | _,_=>none
def asB:D->Option Bool
 | .bl b=>some b
 | _=>none
def zc (i:Nat):Ev->Option D:=fun ρ=>ρ[i]?.join
def fC (d:D):Ev->Option D:=fun _=>some d
def f1 (g:D->Option D) (fa:Ev->Option D):Ev->Option D:=fun ρ=>(fa ρ).bind g
def f2 (g:D->D->Option D) (fa fb:Ev->Option D):Ev->Option D:=fun ρ=>(fa ρ).bind fun x=>(fb ρ).bind fun y=>g x y
def zk (k:Bool) (fa:Ev->Option D):Ev->Option (List D):=fun ρ=>(fa ρ).bind (asK k)
def yw (fa:Ev->Option D):Ev->Option D:=fun ρ=>(fa ρ).bind fun d=>if d.flat then some d else none
def zw (fa:Ev->Option D):Ev->Option Bool:=fun ρ=>(fa ρ).bind asB
def jB (fa fb:Ev->Option Bool):Ev->Option Bool:=fun ρ=>(fa ρ).bind fun c=>if c then fb ρ else some false
def fOr (fa fb:Ev->Option Bool):Ev->Option Bool:=fun ρ=>(fa ρ).bind fun c=>if c then some true else fb ρ
def jd (fa:Ev->Option Bool):Ev->Option Bool:=fun ρ=>(fa ρ).map (!·)
def yH (fa fb:Ev->Option D):Ev->Option D:=fun ρ=>((fa ρ).bind asB).bind fun c=>if c then fb ρ else some (.bl false)
def fOrV (fa fb:Ev->Option D):Ev->Option D:=fun ρ=>((fa ρ).bind asB).bind fun c=>if c then some (.bl true) else fb ρ
def fNotV (fa:Ev->Option D):Ev->Option D:=fun ρ=>((fa ρ).bind asB).map fun c=>.bl (!c)
def fIf (fc:Ev->Option Bool) (fa fb:Ev->Option D):Ev->Option D:=fun ρ=>(fc ρ).bind fun c=>if c then fa ρ else fb ρ
def zi:Ev->Option (List D):=fun _=>some []
def za (fa:Ev->Option D) (fr:Ev->Option (List D)):Ev->Option (List D):=fun ρ=>(fa ρ).bind fun x=>(fr ρ).map (x::·)
def gk (ds:List D):Option D:=if ds.length<=Kg then some (.lst ds) else none
def wW (ds:List D):Option D:=if ds.length<=Kg then some (.tup ds) else none
def Za (f:Ev->Option (List D)):Ev->Option D:=fun ρ=>(f ρ).bind gk
def ZO (f:Ev->Option (List D)):Ev->Option D:=fun ρ=>(f ρ).bind wW
def fA (g:List D->Option D) (f:Ev->Option (List D)):Ev->Option D:=fun ρ=>(f ρ).bind g
theorem ze {α β:Type} {o:Option α} {g:α->Option β} {y:β} (h:o.bind g=some y):∃ x,o=some x/\g x=some y:=by
 cases o with
 | none=>cases h
 | some x=>exact ⟨x,rfl,h⟩
theorem map_some {α β:Type} {o:Option α} {g:α->β} {y:β} (h:o.map g=some y):∃ x,o=some x/\g x=y:=by
 cases o with
 | none=>cases h
 | some x=>exact ⟨x,rfl,by simpa using h⟩
section
variable {X:Cx} {st:Bool} {os:List Nat} {e a b c:Kv} {t ta tb tc:TE} {tA tB':TT} {f fa fb fc:Ev->Option D} {ga gb:Ev->Option Bool} {pos:KB}
theorem SF.se (h:SF X os e t f):SE X st os e t f:=⟨h.pe,fun P9 Ua σ H ρ d Q m q k=>h.ok P9 Ua σ H ρ d Q m q fun a o H' s hn ho hw =>
 k _ _ s (Rep.bb (hw.rep ho (m.ntracked hn)))⟩
theorem SE.flat (h:SE X false os e t f):SE X true os e t (yw f):=⟨h.pe,fun P9 Ua σ H ρ d Q m q k=>by
 obtain ⟨x,h1,h2⟩:=ze q
 split at h2
 ·cases h2
  rename_i hf
  exact h.ok P9 Ua σ H ρ _ Q m h1 fun v H' s r=>k v H' s (Rep.flat _ _ hf r)
 ·cases h2⟩
theorem SE.seq {k:Bool} (h:SE X true os e t f):SC X k os e t (zk k f):=⟨h.pe,fun P9 Ua σ H ρ ds Q m q kk=>by
 obtain ⟨x,h1,h2⟩:=ze q
 refine h.ok P9 Ua σ H ρ _ Q m h1 fun v H' s r=>?_
 cases k with
 | true =>
  cases x <;> simp only [asK] at h2 <;> cases h2
  ·simp only [Rep] at r
   obtain ⟨a,xs,rfl,hl,hr⟩:=r
   exact kk a xs H' s hl.sq hr
  ·simp only [Rep] at r
   obtain ⟨a,rfl,hl⟩:=r
   exact kk a _ H' s hl.sq .ints
 | false =>
  cases x <;> simp only [asK] at h2 <;> cases h2
  simp only [Rep] at r
  obtain ⟨a,xs,rfl,hl,hr⟩:=r
  exact kk a xs H' s hl hr⟩
theorem SF.seq (h:SF X os e t f):SC X true os e t (zk true f):=SE.seq (SF.se h)
theorem zb (i:Nat) {x:Kw} (hi:i∉os:=by decide) (hN:X.N[i]?=some x:=by rfl) (hv:Vis X.env.scope x:=by first | exact Or.inl rfl | exact Or.inr (Or.inl rfl) | exact Or.inr (Or.inr rfl)) (hd:(x == ("__debug__":Kw))=false:=by decide)
  (hcd:(x == ("__classdict__":Kw))=false:=by decide):SE X st os (.Name x pos) (Zn i) (zc i):=⟨pv i hN hv hd hcd,fun P9 Ua σ H ρ d Q m q k=>by
 have q':ρ[i]?=some (some d):=by
  unfold zc at q
  cases z:ρ[i]? with
  | none=>rw [z] at q;cases q
  | some o=>rw [z] at q;cases o <;> simp at q;rw [q]
 obtain ⟨v,h1,h2⟩:=m.sh i d q' hi
 exact ⟨v,h1,k v H (.refl H) (Rep.bb h2)⟩⟩
theorem JG (i:Nat) {x:Kw} (hN:X.N[i]?=some x:=by rfl) (hv:Vis X.env.scope x:=by first | exact Or.inl rfl | exact Or.inr (Or.inl rfl) | exact Or.inr (Or.inr rfl)) (hd:(x == ("__debug__":Kw))=false:=by decide)
  (hcd:(x == ("__classdict__":Kw))=false:=by decide):SE X false os (.Name x pos) (Zn i) (zc i):=⟨pv i hN hv hd hcd,fun P9 Ua σ H ρ d Q m q k=>by
 have q':ρ[i]?=some (some d):=by
  unfold zc at q
  cases z:ρ[i]? with
  | none=>rw [z] at q;cases q
  | some o=>rw [z] at q;cases o <;> simp at q;rw [q]
 obtain ⟨v,h1,h2⟩:=m.get q'
 exact ⟨v,h1,k v H (.refl H) h2⟩⟩
theorem sc_own (i:Nat) {x:Kw} (hi:i∈os:=by decide) (hN:X.N[i]?=some x:=by rfl) (hv:Vis X.env.scope x:=by first | exact Or.inl rfl | exact Or.inr (Or.inl rfl) | exact Or.inr (Or.inr rfl)) (hd:(x == ("__debug__":Kw))=false:=by decide)
  (hcd:(x == ("__classdict__":Kw))=false:=by decide):SC X true os (.Name x pos) (Zn i) (zk true (zc i)):=⟨pv i hN hv hd hcd,fun P9 Ua σ H ρ ds Q m q k=>by
 obtain ⟨a,o,d,h1,h2,h3,h4,h5⟩:=m.own i hi
 simp only [zk,zc,h2,Option.join,oB] at q
 cases o <;> cases d <;> simp only [Own] at h5 <;> simp only [id,oB,asK] at q <;> cases q
 exact ⟨_,h1,k a _ H (.refl H) (.inl (.inl h3)) h5⟩⟩
theorem zg {i:Int} {j p}:SE X st os (.Constant (.int i) j p) (tC (.int i)) (fC (.int i)):=⟨ZC,fun P9 Ua σ H ρ d Q m q k=>by cases q;exact k _ H (.refl H) (by simp [Rep])⟩
theorem YI {i:Bool} {j p}:SE X st os (.Constant (.bool i) j p) (tC (.bl i)) (fC (.bl i)):=⟨pe_bl,fun P9 Ua σ H ρ d Q m q k=>by cases q;exact k _ H (.refl H) (by simp [Rep])⟩
theorem zA {i:Kw} {j p}:SE X st os (.Constant (.str i) j p) (tC (.str i)) (fC (.str i)):=⟨Yy,fun P9 Ua σ H ρ d Q m q k=>by cases q;exact k _ H (.refl H) (by simp [Rep])⟩
theorem se_non {j p}:SE X st os (.Constant .none j p) (tC .non) (fC .non):=⟨pe_non,fun P9 Ua σ H ρ d Q m q k=>by cases q;exact k _ H (.refl H) (by simp [Rep])⟩
theorem se_globI {x:Kw} {i:Int} {tk:Tok} (hg:Gl X x) (hm:X.mg x=some (.int i tk)) (hd:(x == ("__debug__":Kw))=false:=by decide):SE X st os (.Name x pos) (tC (.int i)) (fC (.int i)) :=
 ⟨pe_glob hg hm ⟨_,rfl⟩ hd,fun P9 Ua σ H ρ d Q m q k=>by cases q;exact k _ H (.refl H) (by simp [Rep])⟩
def ROk (K:KC) (r:R2) (g:D->D->Option D):Prop:=∀ (H:Hp) (B:Kc->Prop) (x y:V) (d1 d2 d:D) (Q:VK),(∀ a,B a->∃ o,H a=some o)->Rep K H B d1 x->Rep K H B d2 y->g d1 d2=some d ->
 (∀ v H',zO H H'->Rep K H' B d v->Q v H')->r x y H Q
theorem EOk.op {r:R2} {g:D->D->Option D} (hr:ROk X.K r g) (ha:EOk X.K st os ta fa) (hb:EOk X.K st os tb fb):EOk X.K st os (tOp r ta tb) (f2 g fa fb):=fun P9 Ua σ H ρ d Q m q k=>by
 obtain ⟨x,h1,h2⟩:=ze q
 obtain ⟨y,h3,h4⟩:=ze h2
 refine ha P9 Ua σ H ρ x _ m h1 fun v H1 s1 r1=>?_
 refine hb P9 Ua σ H1 ρ y _ (m.up s1) h3 fun u H2 s2 r2=>?_
 exact hr H2 _ v u x y d Q ((m.up (s1.trans s2)).bb st) (r1.up s2) r2 h4 fun w' H3 s3 r3=>k w' H3 ((s1.trans s2).trans s3) r3
theorem zC {op:Operator} {r:R2} {g:D->D->Option D} (ho:OpR X (binaryOp op) r) (hr:ROk X.K r g) (ha:SE X st os a ta fa) (hb:SE X st os b tb fb):SE X st os (.BinOp a op b pos) (tOp r ta tb) (f2 g fa fb) :=
 ⟨pe_op ho ha.pe hb.pe,EOk.op hr ha.ok hb.ok⟩
theorem jm {op:CmpOp} {r:R2} {g:D->D->Option D} (ho:OpR X (Km op) r) (hr:ROk X.K r g) (ha:SE X false os a ta fa) (hb:SE X false os b tb fb) (hm:behindInMarks op b=false):SE X false os (.Compare a [op] [b] pos) (tOp r ta tb) (f2 g fa fb) :=
 ⟨YM ho ha.pe hb.pe hm,EOk.op hr ha.ok hb.ok⟩
theorem EOk.test (h:EOk X.K false os t f):TOk X.K os (Y2 t) (zw f):=fun P9 Ua σ H ρ b Q m q k=>by
 obtain ⟨x,h1,h2⟩:=ze q
 refine h P9 Ua σ H ρ x _ m h1 fun v H' s r=>?_
 cases x <;> simp only [asB] at h2 <;> cases h2
 simp only [Rep] at r
 exact ⟨_,r,k H' s⟩
theorem zH {op:CmpOp} {r:R2} {g:D->D->Option D} (ho:OpR X (Km op) r) (hr:ROk X.K r g) (ha:SE X false os a ta fa) (hb:SE X false os b tb fb) (hm:behindInMarks op b=false):SB X os (.Compare a [op] [b] pos) (Y2 (tOp r ta tb)) (zw (f2 g fa fb)) :=
 ⟨YL ho ha.pe hb.pe hm,EOk.test (EOk.op hr ha.ok hb.ok)⟩
def y2 (g g':D->D->Option D) (fa fb fc:Ev->Option D):Ev->Option D:=fun ρ=>(fa ρ).bind fun x=>(fb ρ).bind fun y=>((g x y).bind asB).bind fun c=>if c then (fc ρ).bind fun z=>g' y z else some (.bl false)
theorem EOk.chain {r r':R2} {g g':D->D->Option D} (hr:ROk X.K r g) (hr':ROk X.K r' g') (ha:EOk X.K false os ta fa) (hb:EOk X.K false os tb fb) (hc:EOk X.K false os tc fc):EOk X.K false os (Wx r r' ta tb tc) (y2 g g' fa fb fc):=fun P9 Ua σ H ρ d Q m q k=>by
 obtain ⟨x,h1,h2⟩:=ze q
 obtain ⟨y,h3,h4⟩:=ze h2
 obtain ⟨cc,h5,h6⟩:=ze h4
 obtain ⟨z,h7,h8⟩:=ze h5
 refine ha P9 Ua σ H ρ x _ m h1 fun v H1 s1 r1=>?_
 refine hb P9 Ua σ H1 ρ y _ (m.up s1) h3 fun u H2 s2 r2=>?_
 refine hr H2 _ v u x y z _ ((m.up (s1.trans s2)).bb false) (r1.up s2) r2 h7 fun w' H3 s3 r3=>?_
 cases z <;> simp only [asB] at h8 <;> cases h8
 simp only [Rep] at r3
 refine ⟨_,r3,?_⟩
 cases cc with
 | true =>
  rw [KQ rfl] at h6 ⊢
  obtain ⟨z,h9,h10⟩:=ze h6
  refine hc P9 Ua σ H3 ρ z _ (m.up ((s1.trans s2).trans s3)) h9 fun w2 H4 s4 r4=>?_
  exact hr' H4 _ u w2 y z d Q ((m.up (((s1.trans s2).trans s3).trans s4)).bb false) (r2.up (s3.trans s4)) r4 h10 fun w3 H5 s5 r5=>k w3 H5 ((((s1.trans s2).trans s3).trans s4).trans s5) r5
 | false =>
  rw [KR Qh] at h6 ⊢
  cases h6
  exact k _ H3 ((s1.trans s2).trans s3) (by simp [Rep])
theorem sb_chain {op op':CmpOp} {r r':R2} {g g':D->D->Option D} (ho:OpR X (Km op) r) (hr:ROk X.K r g) (ho':OpR X (Km op') r') (hr':ROk X.K r' g') (ha:SE X false os a ta fa) (hb:SE X false os b tb fb) (hc:SE X false os c tc fc)
  (hm:lastMarks [op,op'] [b,c]=false:=by with_unfolding_all rfl):SB X os (.Compare a [op,op'] [b,c] pos) (Y2 (Wx r r' ta tb tc)) (zw (y2 g g' fa fb fc)):=⟨pt_chain ho ho' ha.pe hb.pe hc.pe hm,EOk.test (EOk.chain hr hr' ha.ok hb.ok hc.ok)⟩
theorem se_chain {op op':CmpOp} {r r':R2} {g g':D->D->Option D} (ho:OpR X (Km op) r) (hr:ROk X.K r g) (ho':OpR X (Km op') r') (hr':ROk X.K r' g') (ha:SE X false os a ta fa) (hb:SE X false os b tb fb) (hc:SE X false os c tc fc)
  (hm:lastMarks [op,op'] [b,c]=false:=by with_unfolding_all rfl):SE X false os (.Compare a [op,op'] [b,c] pos) (Wx r r' ta tb tc) (y2 g g' fa fb fc):=⟨pe_chain ho ho' ha.pe hb.pe hc.pe hm,EOk.chain hr hr' ha.ok hb.ok hc.ok⟩
def UOk (K:KC) (r:V->Hp->VK->Prop) (g:D->Option D):Prop:=∀ (H:Hp) (B:Kc->Prop) (x:V) (d1 d:D) (Q:VK),(∀ a,B a->∃ o,H a=some o)->Rep K H B d1 x->g d1=some d ->
 (∀ v H',zO H H'->Rep K H' B d v->Q v H')->r x H Q
theorem se_un {op:UnaryOp} {r:V->Hp->VK->Prop} {g:D->Option D} (ho:UnR X (unaryOp op) r) (hr:UOk X.K r g) (ha:SE X st os a ta fa):SE X st os (.UnaryOp op a pos) (tUn r ta) (f1 g fa) :=
 ⟨JN ho ha.pe,fun P9 Ua σ H ρ d Q m q k=>by
  obtain ⟨x,h1,h2⟩:=ze q
  refine ha.ok P9 Ua σ H ρ x _ m h1 fun v H1 s1 r1=>?_
  exact hr H1 _ v x d Q ((m.up s1).bb st) r1 h2 fun w' H3 s3 r3=>k w' H3 (s1.trans s3) r3⟩
theorem yr (h:SE X false os e t f) (he:∀ whole,isTrue e X.env whole=(do let v <- whole;standAt e.pos;holding [v] (truthy v)):=by intro _;rfl):SB X os e (tB t) (zw f):=⟨pt_val h.pe he,EOk.test h.ok⟩
theorem yW (h:SB X os a tA ga):SB X os (.UnaryOp .Not a pos) (tNot tA) (jd ga):=⟨pt_not h.pt,fun P9 Ua σ H ρ b Q m q k=>by
 obtain ⟨x,h1,h2⟩:=map_some q
 subst h2
 exact h.ok P9 Ua σ H ρ x _ m h1 fun H' s=>k H' s⟩
theorem SW.sb (h:SW X os e tA ga):SB X os e tA ga:=⟨h.pw.pt,h.ok⟩
theorem YH (h:SB X os a tA ga):SW X os (.BoolOp .And [a] pos) tA ga:=⟨pw_and1 h.pt,h.ok⟩
theorem YR (h:SB X os a tA ga):SW X os (.BoolOp .Or [a] pos) tA ga:=⟨pw_or1 h.pt,h.ok⟩
theorem jO {Zg:List Kv} (ha:SB X os a tA ga) (hb:SW X os (.BoolOp .And (b::Zg) pos) tB' gb):SW X os (.BoolOp .And (a::b::Zg) pos) (tAnd tA tB') (jB ga gb):=⟨pw_and ha.pt hb.pw,fun P9 Ua σ H ρ b Q m q k=>by
 obtain ⟨x,h1,h2⟩:=ze q
 refine ha.ok P9 Ua σ H ρ x _ m h1 fun H' s=>?_
 cases x with
 | true=>rw [KQ rfl] at h2 ⊢;exact hb.ok P9 Ua σ H' ρ b Q (m.up s) h2 fun H2 s2=>k H2 (s.trans s2)
 | false=>rw [KR Qh] at h2 ⊢;cases h2;exact k H' s⟩
theorem jN {Zg:List Kv} (ha:SB X os a tA ga) (hb:SW X os (.BoolOp .Or (b::Zg) pos) tB' gb):SW X os (.BoolOp .Or (a::b::Zg) pos) (tOr tA tB') (fOr ga gb):=⟨pw_or ha.pt hb.pw,fun P9 Ua σ H ρ b Q m q k=>by
 obtain ⟨x,h1,h2⟩:=ze q
 refine ha.ok P9 Ua σ H ρ x _ m h1 fun H' s=>?_
 cases x with
 | true=>rw [KQ rfl] at h2 ⊢;cases h2;exact k H' s
 | false=>rw [KR Qh] at h2 ⊢;exact hb.ok P9 Ua σ H' ρ b Q (m.up s) h2 fun H2 s2=>k H2 (s.trans s2)⟩
theorem YT {op} (h:SE X st os a t f):SE X st os (.BoolOp op [a] pos) t f:=⟨pe_one h.pe,h.ok⟩
theorem yV {Zg:List Kv} (ha:SE X st os a ta fa) (hb:SE X st os (.BoolOp .And (b::Zg) pos) tb fb):SE X st os (.BoolOp .And (a::b::Zg) pos) (tAndV ta tb) (yH fa fb):=⟨pe_and ha.pe hb.pe,fun P9 Ua σ H ρ d Q m q k=>by
 obtain ⟨x,h1,h2⟩:=ze q
 obtain ⟨y,h3,h4⟩:=ze h1
 refine ha.ok P9 Ua σ H ρ y _ m h3 fun v H' s r=>?_
 cases y <;> simp only [asB] at h4 <;> cases h4
 simp only [Rep] at r
 refine ⟨_,r,?_⟩
 cases x with
 | true=>rw [KQ rfl] at h2 ⊢;exact hb.ok P9 Ua σ H' ρ d Q (m.up s) h2 fun v H2 s2=>k v H2 (s.trans s2)
 | false=>rw [KR Qh] at h2 ⊢;cases h2;exact k _ H' s (by simp [Rep])⟩
theorem se_not (ha:SE X st os a ta fa):SE X st os (.UnaryOp .Not a pos) (tNotV ta) (fNotV fa):=⟨pe_not ha.pe,fun P9 Ua σ H ρ d Q m q k=>by
 obtain ⟨x,h1,h2⟩:=map_some q
 subst h2
 obtain ⟨y,h3,h4⟩:=ze h1
 refine ha.ok P9 Ua σ H ρ y _ m h3 fun v H' s r=>?_
 cases y <;> simp only [asB] at h4 <;> cases h4
 simp only [Rep] at r
 exact ⟨_,r,k _ H' s (by simp [Rep])⟩⟩
theorem se_if (hc:SB X os c tA ga) (ha:SE X st os a ta fa) (hb:SE X st os b tb fb):SE X st os (.IfExp c a b pos) (tIf tA ta tb) (fIf ga fa fb):=⟨pe_ifExp hc.pt ha.pe hb.pe,fun P9 Ua σ H ρ d Q m q k=>by
 obtain ⟨x,h1,h2⟩:=ze q
 refine hc.ok P9 Ua σ H ρ x _ m h1 fun H' s=>?_
 cases x with
 | true=>rw [KQ rfl] at h2 ⊢;exact ha.ok P9 Ua σ H' ρ d Q (m.up s) h2 fun v H2 s2=>k v H2 (s.trans s2)
 | false=>rw [KR Qh] at h2 ⊢;exact hb.ok P9 Ua σ H' ρ d Q (m.up s) h2 fun v H2 s2=>k v H2 (s.trans s2)⟩
variable {es:List Kv} {tl:TA} {fl:Ev->Option (List D)}
theorem zj:SA X st os [] zW zi:=⟨zz,fun P9 Ua σ H ρ ds Q m q k=>by cases q;exact k [] H (.refl H) .nil⟩
theorem zd (ha:SE X st os e t f) (hr:SA X st os es tl fl) (hs:Ke (e::es) X.env=(false,Kz e X.env)::Ke es X.env:=by rfl):SA X st os (e::es) (zD t tl) (za f fl):=⟨zv ha.pe hr.pa hs,fun P9 Ua σ H ρ ds Q m q k=>by
 obtain ⟨x,h1,h2⟩:=ze q
 obtain ⟨y,h3,h4⟩:=map_some h2
 subst h4
 refine ha.ok P9 Ua σ H ρ x _ m h1 fun v H1 s1 r1=>?_
 refine hr.ok P9 Ua σ H1 ρ y _ (m.up s1) h3 fun vs H2 s2 r2=>?_
 exact k _ H2 (s1.trans s2) (.cons (r1.up s2) r2)⟩
theorem ya {x1} (h:SA X st os es tl fl):SE X st os (.Tuple es x1 pos) (Wv tl) (ZO fl):=⟨jr h.pa,fun P9 Ua σ H ρ d Q m q k=>by
 obtain ⟨ds,h1,h2⟩:=ze q
 unfold wW at h2
 split at h2
 ·cases h2
  rename_i hl
  refine h.ok P9 Ua σ H ρ ds _ m h1 fun vs H1 s1 r1=>⟨by rw [r1.length];exact hl,fun p hp=>?_⟩
  refine k _ _ (s1.trans (zB hp)) ?_
  simp only [Rep]
  exact ⟨p,vs,rfl,.inl (.inl zm),r1.up (zB hp)⟩
 ·cases h2⟩
theorem Zh (h:SA X true os es tl fl):SF X os (.List es pos) (ji tl) (Za fl):=⟨yn h.pa,fun P9 Ua σ H ρ d Q m q k=>by
 obtain ⟨ds,h1,h2⟩:=ze q
 unfold gk at h2
 split at h2
 ·cases h2
  rename_i hl
  refine h.ok P9 Ua σ H ρ ds _ m h1 fun vs H1 s1 r1=>⟨by rw [r1.length];exact hl,fun p hp=>?_⟩
  exact k p _ _ (s1.trans (zB hp)) (s1.free hp) zm (zr.goes (.fresh hp (zB hp)) _ _ r1)
 ·cases h2⟩
def dIx (ds:List D) (d:D):Option D:=match d with | .int i=>atI ds i | _=>none
def fIx (fa:Ev->Option (List D)) (fb:Ev->Option D):Ev->Option D:=fun ρ=>(fa ρ).bind fun ds=>(fb ρ).bind fun i=>dIx ds i
theorem zr.atI {K:KC} {H:Hp} {B:Kc->Prop} {ds:List D} {vs:List V} {i:Int} {d:D} (h:zr K H B ds vs) (e:L2.atI ds i=some d):∃ v,L2.atI vs i=some v/\Rep K H B d v:=by
 unfold L2.atI at e ⊢
 rw [h.length]
 cases z:ixN ds.length i with
 | none=>rw [z] at e;cases e
 | some j =>
  rw [z] at e
  exact h.get e
theorem yC {ca:Ev->Option (List D)} (ha:SC X true os a ta ca) (hb:SE X true os b tb fb) (hs:PlainIx b:=by intro _ _;rfl) {K':KC} (hK:X.K=K':=by rfl):SE X st os (.Subscript a b pos) (tOp (rIxL K') ta tb) (fIx ca fb):=by
 subst hK
 exact ⟨Y6 Ys ha.pe hb.pe hs,fun P9 Ua σ H ρ d Q m q k=>by
 obtain ⟨ds,h1,h2⟩:=ze q
 obtain ⟨y,h3,h4⟩:=ze h2
 refine ha.ok P9 Ua σ H ρ ds _ m h1 fun p xs H1 s1 hq r1=>?_
 refine hb.ok P9 Ua σ H1 ρ y _ (m.up s1) h3 fun u H2 s2 r2=>?_
 cases y <;> simp only [dIx] at h4 <;> try (cases h4)
 simp only [Rep] at r2
 obtain ⟨v,q1,q2⟩:=(r1.up s2).atI h4
 exact ⟨p,xs,_,v,rfl,r2,s2.seq hq,q1,k v H2 (s1.trans s2) (Rep.bb q2)⟩⟩
theorem zS {ca:Ev->Option (List D)} (ha:SC X false os a ta ca) (hb:SE X true os b tb fb) (hs:PlainIx b:=by intro _ _;rfl) {K':KC} (hK:X.K=K':=by rfl):SE X st os (.Subscript a b pos) (tOp (rIxT K') ta tb) (fIx ca fb):=by
 subst hK
 exact ⟨Y6 ix_tup ha.pe hb.pe hs,fun P9 Ua σ H ρ d Q m q k=>by
 obtain ⟨ds,h1,h2⟩:=ze q
 obtain ⟨y,h3,h4⟩:=ze h2
 refine ha.ok P9 Ua σ H ρ ds _ m h1 fun p xs H1 s1 hq r1=>?_
 refine hb.ok P9 Ua σ H1 ρ y _ (m.up s1) h3 fun u H2 s2 r2=>?_
 cases y <;> simp only [dIx] at h4 <;> try (cases h4)
 simp only [Rep] at r2
 obtain ⟨v,q1,q2⟩:=(r1.up s2).atI h4
 exact ⟨p,xs,_,v,rfl,r2,SqT.same s2 hq,q1,k v H2 (s1.trans s2) (Rep.bb q2)⟩⟩
structure SO (X:Cx) (os:List Nat) (e:Option Kv) (t:TO) (f:Ev->Option (Option Int)):Prop where
 po:PO X e t
 ok:∀ (P9:Hp) (Ua:Kc->Prop) (σ:St) (H:Hp) (ρ:Ev) (d:Option Int) (Q:Option Int->Hp->Prop),Md X.K P9 Ua os σ H ρ->f ρ=some d->(∀ H',zO H H'->Q d H')->t σ H Q
def asI:D->Option Int
 | .int i=>some i
 | _=>none
def fNo:Ev->Option (Option Int):=fun _=>some none
def yv (f:Ev->Option D):Ev->Option (Option Int):=fun ρ=>(f ρ).bind fun d=>(asI d).map some
theorem Yr:SO X os none w6 fNo:=⟨po_none,fun P9 Ua σ H ρ d Q m q k=>by cases q;exact k H (.refl H)⟩
theorem Yq (h:SE X false os e t f):SO X os (some e) (tPart t) (yv f):=⟨po_some h.pe,fun P9 Ua σ H ρ d Q m q k=>by
 obtain ⟨x,h1,h2⟩:=ze q
 obtain ⟨i,h3,h4⟩:=map_some h2
 subst h4
 refine h.ok P9 Ua σ H ρ x _ m h1 fun v H' s r=>?_
 cases x <;> simp only [asI] at h3 <;> cases h3
 simp only [Rep] at r
 exact ⟨_,r,k H' s⟩⟩
def cutD (ds:List D) (lo hi:Option Int):List D:=(ds.drop (HT.sIx ds.length 0 lo)).take (HT.sIx ds.length ds.length hi - HT.sIx ds.length 0 lo)
theorem zr.cut {K:KC} {H:Hp} {B:Kc->Prop} {ds:List D} {vs:List V} {lo hi:Option Int} (h:zr K H B ds vs):zr K H B (cutD ds lo hi) (Jh vs lo hi):=by
 unfold cutD Jh
 rw [h.length]
 exact (h.drop _).take _
def wn (g:List D->D) (fa:Ev->Option (List D)) (fl fu:Ev->Option (Option Int)):Ev->Option D:=fun ρ=>(fa ρ).bind fun ds=>(fl ρ).bind fun lo=>(fu ρ).bind fun hi=>some (g (cutD ds lo hi))
theorem We {ca:Ev->Option (List D)} {lo hi:Option Kv} {t1 t2:TO} {g1 g2:Ev->Option (Option Int)} {p2:KB} (ha:SC X true os a ta ca) (hl:SO X os lo t1 g1) (hu:SO X os hi t2 g2) {K':KC} (hK:X.K=K':=by rfl) :
  SF X os (.Subscript a (.Slice lo hi none p2) pos) (tSl (rSlL K') ta t1 t2) (wn .lst ca g1 g2):=by
 subst hK
 exact ⟨JO sl_list ha.pe hl.po hu.po,fun P9 Ua σ H ρ d Q m q k=>by
 obtain ⟨ds,h1,h2⟩:=ze q
 obtain ⟨l,h3,h4⟩:=ze h2
 obtain ⟨u,h5,h6⟩:=ze h4
 cases h6
 refine ha.ok P9 Ua σ H ρ ds _ m h1 fun p xs H1 s1 hq r1=>?_
 refine hl.ok P9 Ua σ H1 ρ l _ (m.up s1) h3 fun H2 s2=>?_
 refine hu.ok P9 Ua σ H2 ρ u _ (m.up (s1.trans s2)) h5 fun H3 s3=>?_
 refine ⟨p,xs,rfl,(s2.trans s3).seq hq,fun p' hp=>?_⟩
 exact k p' _ _ (((s1.trans s2).trans s3).trans (zB hp)) ((s1.trans (s2.trans s3)).free hp) zm (zr.goes (.fresh hp (zB hp)) _ _ (zr.cut (r1.up (s2.trans s3))))⟩
end
end M
namespace L2
open PySem PySem.Spec PyProof.Rows
section
variable {X:Cx}
theorem W9 {k:Bool} {KJ:List (Kc×KA)} {s:Kb} {σ:St} {H:Hp} {p:Kc} {xs:List V} {E:Ka->Kb->Prop} {R:Ka->Kb->Prop} (hc:X.calm=true) (I:Inv X KJ σ H s) (hq:Sq k X.K H p xs)
  (h:∀ (KP:List Ka) (s₂:Kb) (fp wr:List Kc) (S:Nat->Kl->Prop),zU xs KP->Walks X.prog X.w X.A.in1 s.heap.objs.size fp wr KP.toArray.size (fun i v=>KP.toArray[i]?=some v) S->S 0 s₂.heap->(∀ b∈fp,b<s₂.heap.objs.size) ->
   (∀ h' tk,(∀ b o,b∉wr->s₂.heap.get? b=some o->h'.get? b=some o)->Inv X KJ σ H { s₂ with heap:=h',toks:=tk })->R (.ref s.heap.objs.size) s₂) :
  Ko (Ky X.prog X.w) X.A.in1 (pyIter (.ref p)) R E s:=by
 obtain ⟨KP,r,pl,hz⟩:=I.seq hq
 have hh:X.A.in1.handled=none:=I.ok.hd hc
 have hlt:p<s.heap.objs.size:=pl.lt
 have hne:p≠s.heap.objs.size:=QE hlt
 have old:∀ (ob:KA) (h':Kl),(∀ b o,b∉[s.heap.objs.size]->(s.heap.push ob).get? b=some o->h'.get? b=some o)->∀ b o,s.heap.get? b=some o->h'.get? b=some o:=fun ob h' hk b o e =>
  hk b o (fun hm=>by
   have:b=s.heap.objs.size:=by simpa using hm
   exact absurd (this▸Qr e) (QV _)) (Qd _ e)
 cases k with
 | true =>
  refine wpAny_pyIter_list pl (h KP _ [s.heap.objs.size,p] [s.heap.objs.size] _ r (Walks.list hh _ p hne KP.toArray) ⟨⟨_,Qo _ rfl,rfl,rfl⟩,Heap.IsList.at pl fun o e=>Qd _ e⟩ ?_ fun h' tk hk=>I.kept (old _ h' hk))
  intro b hb
  rw [QG]
  rcases Qa.mp hb with rfl | hb
  ·exact Ps _
  ·have:b=p:=by simpa using hb
   subst this;exact Nat.lt_succ_of_lt hlt
 | false =>
  refine P6 pl (h KP _ [s.heap.objs.size,p] [s.heap.objs.size] _ r (Walks.tuple hh _ p hne KP.toArray) ⟨⟨_,Qo _ rfl,rfl,rfl⟩,Heap.IsTuple.at pl fun o e=>Qd _ e⟩ ?_ fun h' tk hk=>I.kept (old _ h' hk))
  intro b hb
  rw [QG]
  rcases Qa.mp hb with rfl | hb
  ·exact Ps _
  ·have:b=p:=by simpa using hb
   subst this;exact Nat.lt_succ_of_lt hlt
theorem Wq {ns:List Int} {KP:List Ka} (r:zU (ns.map V.int) KP) {i:Nat} {v:Ka} (h:KP.toArray[i]?=some v):∃ t,v=.int (ns.getD i 0) t:=by
 have hl:=r.length
 rw [Qe] at hl
 have h':KP[i]?=some v:=by simpa using h
 have hi:i<ns.length:=by have:=(Qs.mp h').1;omega
 obtain ⟨u,h1,h2⟩:=r.get (i:=i) (x:=.int ns[i]) (by simp [hi])
 rw [h'] at h1;cases h1
 obtain ⟨t,rfl⟩:=h2
 exact ⟨t,by simp [List.getD,hi]⟩
theorem WR (val:Nat->Int) (a:Int):∀ n,preSum (fun i=>if i=0 then a else val (i - 1)) (n+1)=a+preSum val n
 | 0=>by simp [preSum]
 | n+1=>by rw [preSum,WR val a n,preSum];simp;omega
theorem wA:∀ (ns:List Int),preSum (fun i=>ns.getD i 0) ns.length=ns.sum
 | []=>rfl
 | a::r=>by
  have e:(fun i=>(a::r).getD i 0)=fun i=>if i=0 then a else r.getD (i - 1) 0:=by
   funext i;cases i <;> simp [List.getD]
  rw [e,Qg,WR (fun j=>r.getD j 0) a,wA r,P5]
theorem call_sumI (k:Bool) (hc:X.calm=true):Yp X (.builtin "sum") (fun xs H Q=>∃ (p:Kc) (ns:List Int),xs=[.ref p]/\Sq k X.K H p (ns.map V.int)/\Q (.int ns.sum) H):=by
 intro KJ s σ H xs us Q I r h
 obtain ⟨p,ns,rfl,hq,q⟩:=h
 obtain ⟨u,rfl,ru⟩:=JC r
 cases ru
 refine call_sum_walkG (W9 hc I hq fun KP s₂ fp wr S rv W st hfp fin=>?_)
 refine ⟨_,fp,wr,_,_,S,fun i=>ns.getD i 0,rfl,W,st,hfp,fun i v hv=>Wq rv hv,fun h' tk t' hk=>?_⟩
 have hl:KP.toArray.size=ns.length:=by have:=rv.length;simpa using this.symm
 rw [hl,wA]
 exact ⟨.int ns.sum,H,fin h' tk hk,⟨_,rfl⟩,q⟩
theorem range_all {α:Type} (ns:List α) (p:α->Bool) (d:α):(List.range ns.length).all (fun i=>p (ns.getD i d))=ns.all p:=by
 induction ns with
 | nil=>rfl
 | cons a r ih =>
  rw [Qg,List.range_succ_eq_map,PL,List.all_map,PL,<- ih]
  congr 1
theorem vals_bl {ns:List Bool} {KP:List Ka} (r:zU (ns.map V.bl) KP) {i:Nat} {v:Ka} (h:KP.toArray[i]?=some v):v=.bool (ns.getD i false):=by
 have hl:=r.length
 rw [Qe] at hl
 have h':KP[i]?=some v:=by simpa using h
 have hi:i<ns.length:=by have:=(Qs.mp h').1;omega
 obtain ⟨u,h1,h2⟩:=r.get (i:=i) (x:=.bl ns[i]) (by simp [hi])
 rw [h'] at h1;cases h1
 cases h2
 simp [List.getD,hi]
theorem truthOf_bl {A:Kj} {KP:List Ka} {ns:List Bool} (r:zU (ns.map V.bl) KP):TruthOf X.prog X.w A (fun i v=>KP.toArray[i]?=some v) (fun i=>ns.getD i false):=fun i v s Q E hv hq=>by
 cases vals_bl r hv
 exact QS hq
theorem call_allB (k:Bool) (hc:X.calm=true):Yp X (.builtin "all") (fun xs H Q=>∃ (p:Kc) (ns:List Bool),xs=[.ref p]/\Sq k X.K H p (ns.map V.bl)/\Q (.bl (ns.all id)) H):=by
 intro KJ s σ H xs us Q I r h
 obtain ⟨p,ns,rfl,hq,q⟩:=h
 obtain ⟨u,rfl,ru⟩:=JC r
 cases ru
 refine call_all_walk (W9 hc I hq fun KP s₂ fp wr S rv W st hfp fin=>?_)
 refine ⟨_,fp,wr,_,_,S,_,rfl,W,st,truthOf_bl rv,fun h' tk hk=>?_⟩
 have hl:KP.toArray.size=ns.length:=by have:=rv.length;simpa using this.symm
 rw [hl,show ((List.range ns.length).all fun i=>ns.getD i false)=ns.all id from range_all ns id false]
 exact ⟨.bl _,H,fin h' tk hk,rfl,q⟩
def maxI (ns:List Int):Int:=ns.foldl (fun a b=>if a<b then b else a) (ns.headD 0)
theorem maxI_pre (ns:List Int):∀ m,m<ns.length->argBest (fun i j=>decide (ns.getD i 0 > ns.getD j 0)) m<ns.length/\ns.getD (argBest (fun i j=>decide (ns.getD i 0 > ns.getD j 0)) m) 0=(ns.take (m+1)).foldl (fun a b=>if a<b then b else a) (ns.headD 0)
 | 0,h=>by
  cases ns with
  | nil=>simp at h
  | cons a r=>simp [argBest,List.getD]
 | m+1,h=>by
  obtain ⟨h1,h2⟩:=maxI_pre ns m (by omega)
  have e:ns.take (m+1+1)=ns.take (m+1)++[ns[m+1]]:=by rw [List.take_succ_eq_append_getElem h]
  have g:ns.getD (m+1) 0=ns[m+1]:=by simp [List.getD,h]
  rw [e,List.foldl_append,<- h2]
  simp only [argBest,List.foldl_cons,List.foldl_nil,<- g]
  generalize argBest (fun i j=>decide (ns.getD i 0 > ns.getD j 0)) m=q at h1 h2 ⊢
  by_cases c:ns.getD (m+1) 0 > ns.getD q 0
  ·have c':ns.getD q 0<ns.getD (m+1) 0:=c
   simp only [c,c',decide_true,if_true];exact ⟨h,trivial⟩
  ·have c':¬ ns.getD q 0<ns.getD (m+1) 0:=c
   simp only [c,c',decide_false,if_false,PJ];exact ⟨h1,trivial⟩
def jF:List String:=["int","bool","str","list","tuple","dict"]
theorem YG:∀ T∈jF,typeOf (.type T)=pure (.type "type"):=by
 intro T h
 simp only [jF,Qa,Qi,or_false] at h
 rcases h with rfl | rfl | rfl | rfl | rfl | rfl <;> rfl
theorem sub_tab:∀ Tx∈("NoneType"::jF),∀ T∈jF,isSubtype (.type Tx) (.type T)=pure (Tx == T||(Tx == "bool"&&T == "int")):=by
 intro Tx hx T h
 rw [isSubtype_type]
 simp only [jF,Qa,Qi,or_false] at h hx
 rcases hx with rfl | rfl | rfl | rfl | rfl | rfl | rfl <;> rcases h with rfl | rfl | rfl | rfl | rfl | rfl <;> kernel_rfl
def TyN (K:KC) (H:Hp) (x:V) (n:String):Prop:=match x with
 | .non=>n="NoneType"
 | .bl _=>n="bool"
 | .int _=>n="int"
 | .str _=>n="str"
 | .ref p=>(n="list"/\∃ xs,SqL K H p xs)\/(n="tuple"/\∃ xs,SqT K H p xs)\/(n="dict"/\∃ KO,H p=some (.dK KO))
 | _=>False
theorem call_isi:Yp X (.builtin "isinstance") (fun xs H Q=>∃ x T n,xs=[x,.ty T]/\T∈jF/\TyN X.K H x n/\Q (.bl (n == T||(n == "bool"&&T == "int"))) H):=by
 intro KJ s σ H xs us Q I r h
 obtain ⟨x,T,n,rfl,hT,hn,q⟩:=h
 obtain ⟨u,u',rfl,ru,ru'⟩:=vals2 r
 obtain rfl:u'=Value.type T:=ru'
 have fin:∀ tk,EP X KJ σ Q (.bool (n == T||(n == "bool"&&T == "int"))) { s with toks:=tk }:=fun tk=>⟨.bl _,H,I.tok tk,rfl,q⟩
 have nm:n∈("NoneType"::jF):=by
  cases x with
  | non=>cases (show n=_ from hn);decide
  | bl b=>cases (show n=_ from hn);decide
  | int b=>cases (show n=_ from hn);decide
  | str b=>cases (show n=_ from hn);decide
  | ref p=>rcases hn with ⟨rfl,_⟩ | ⟨rfl,_⟩ | ⟨rfl,_⟩ <;> decide
  | _=>exact (show False from hn).elim
 have hs:=sub_tab n nm T hT
 have ty:s.TypeIs u n:=by
  cases x with
  | non=>cases (show n=_ from hn);cases ru;exact PySem.typeIs_none s
  | bl b=>cases (show n=_ from hn);cases ru;exact PySem.typeIs_bool s b
  | int b=>cases (show n=_ from hn);obtain ⟨t,rfl⟩:=ru;exact typeIs_int s b t
  | str b=>cases (show n=_ from hn);obtain ⟨t,rfl⟩:=ru;exact typeIs_str s b t
  | ref p =>
   cases ru
   rcases hn with ⟨rfl,xs,hq⟩ | ⟨rfl,xs,hq⟩ | ⟨rfl,KO,hk⟩
   ·obtain ⟨KP,_,pl,_⟩:=I.list hq;exact pl.isList.typeIs
   ·obtain ⟨KP,_,pl,_⟩:=I.tuple hq;exact pl.typeIs
   ·obtain ⟨_,_,_,_,o,_,_,e,ex,_⟩:=I.hok p _ hk;exact ⟨o,e,ex.1⟩
  | _=>exact (show False from hn).elim
 cases hb:(n == T||(n == "bool"&&T == "int")) with
 | true =>
  rw [hb] at hs
  have f:=fin s.toks
  rw [hb] at f
  exact call_isinstance (isinstance_true (YG T hT) hs) ⟨ty,f⟩
 | false =>
  rw [hb] at hs
  have f:=fin (s.toks+1)
  rw [hb] at f
  have hne:(Value.type n == Value.type T)=false:=by
   have e:(n == T)=false:=by cases z:(n == T) <;> simp [z] at hb ⊢
   have e':n≠T:=by simpa using e
   exact beq_eq_false_iff_ne.mpr fun z=>e' (by injection z)
  cases x with
  | non=>cases (show n=_ from hn);cases ru;exact call_isinstance (isinstance_false_none hne (YG T hT) hs) f
  | bl b=>cases (show n=_ from hn);cases ru;exact call_isinstance (isinstance_false_bool hne (YG T hT) hs) f
  | int b=>cases (show n=_ from hn);obtain ⟨t,rfl⟩:=ru;exact call_isinstance (isinstance_false_int hne (YG T hT) hs) f
  | str b=>cases (show n=_ from hn);obtain ⟨t,rfl⟩:=ru;exact call_isinstance (isinstance_false_str hne (YG T hT) hs) f
  | ref p =>
   cases ru
   rcases hn with ⟨rfl,_⟩ | ⟨rfl,_⟩ | ⟨rfl,_⟩
   ·obtain ⟨o,e,c⟩:=ty;exact call_isinstance (isinstance_false_list hne (YG T hT) hs) ⟨⟨o,e,c⟩,f⟩
   ·obtain ⟨o,e,c⟩:=ty;exact call_isinstance (isinstance_false_tuple hne (YG T hT) hs) ⟨⟨o,e,c⟩,f⟩
   ·obtain ⟨o,e,c⟩:=ty;exact call_isinstance (isinstance_false_dict hne (YG T hT) hs) ⟨⟨o,e,c⟩,f⟩
  | _=>exact (show False from hn).elim
def rCatS:R2:=fun x y H Q=>∃ l b xs zs,x=.ref l/\y=.ref b/\Rd H l (.lst xs)/\Rd H b (.lst zs)/\xs.length+zs.length<=Kg/\∀ p,H p=none->Q (.ref p) (upd H p (.lst (xs++zs)))
theorem op_catS:OpR X (binaryOp .Add) rCatS:=by
 intro KJ s σ H x y v u Q I rx ry h
 obtain ⟨l,b,xs,zs,rfl,rfl,hH,hB,hz,q⟩:=h
 cases rx
 cases ry
 obtain ⟨z,KP,n,r,e⟩:=hH.ok I.hok
 obtain ⟨z2,its2,n2,r2,e2⟩:=hB.ok I.hok
 have hl:=r.length
 have hl2:=r2.length
 refine PySem.P.add_list e e2 ?_ (by rw [Qp,Qp];omega)
 have ea:KP.toArray++its2.toArray=(KP++its2).toArray:=by simp
 rw [ea]
 exact ⟨.ref _,_,I.lnew (t':=s.toks) (r.append r2) (by rw [Qf];omega),rfl,q _ I.fresh⟩
theorem yN:OpR X (binaryOp .Mult) (rI IntMulOk fun i j=>.int (i*j)):=opI fun _ _ _ _ _ _ _ hc q=>mul_int q hc
def CDivB (i j:Int):Prop:=j≠0
theorem op_fdivP (hr:Room 34 X.A):OpR X (binaryOp .FloorDiv) (rI CDivB fun i j=>.int (i.fdiv j)):=by
 intro KJ s σ H x y v u Q I rx ry h
 obtain ⟨i,j,rfl,rfl,hc,q⟩:=h
 obtain ⟨t,rfl⟩:=rx
 obtain ⟨t',rfl⟩:=ry
 refine floordiv_int hc ⟨.int (i.fdiv j),H,I.tok _,⟨_,rfl⟩,q⟩ (.inr ?_)
 obtain ⟨e,l,h1,h2,h3,h4,h5⟩:=I.ok.top
 exact PylongRoom.of I.nolimit (by have:=hr.dp;show X.A.depth+100<_;omega) (SeerAt.of (I.mod.seer.keeps I.bk) I.ok.tree (by rw [I.ok.frames,h1]) h2 h3 h4 h5)
end
end L2
namespace M
open PySem PySem.Spec L2
open PySem.W (Frag)
def dI (g:Int->Int->D):D->D->Option D
 | .int i,.int j=>some (g i j)
 | _,_=>none
def dIc (C:Int->Int->Prop) (g:Int->Int->D):D->D->Option D
 | .int i,.int j=>open Classical in if C i j then some (g i j) else none
 | _,_=>none
section
variable {K:KC}
theorem WO {g:Int->Int->V} {g':Int->Int->D} (h:∀ H B i j,Rep K H B (g' i j) (g i j)):ROk K (rI0 g) (dI g'):=fun H B x y d1 d2 d Q hB r1 r2 e k=>by
 cases d1 <;> cases d2 <;> simp only [dI] at e <;> cases e
 simp only [Rep] at r1 r2
 exact ⟨_,_,r1,r2,k _ H (.refl H) (h _ _ _ _)⟩
theorem rok_I {C:Int->Int->Prop} {g:Int->Int->V} {g':Int->Int->D} (h:∀ H B i j,Rep K H B (g' i j) (g i j)):ROk K (rI C g) (dIc C g'):=fun H B x y d1 d2 d Q hB r1 r2 e k=>by
 cases d1 <;> cases d2 <;> simp only [dIc] at e <;> try (cases e;done)
 split at e
 ·rename_i hc
  cases e
  simp only [Rep] at r1 r2
  exact ⟨_,_,r1,r2,hc,k _ H (.refl H) (h _ _ _ _)⟩
 ·cases e
theorem Zz {H:Hp} {B:Kc->Prop} {i:Int}:Rep K H B (.int i) (.int i):=by simp [Rep]
theorem YU {H:Hp} {B:Kc->Prop} {i:Bool}:Rep K H B (.bl i) (.bl i):=by simp [Rep]
abbrev yo:=dI fun i j=>.int (i+j)
abbrev wu:=dI fun i j=>.int (i - j)
abbrev jD:=dIc IntMulOk fun i j=>.int (i*j)
abbrev wv:=dIc CDiv fun i j=>.int (i / j)
abbrev dDivP:=dIc CDivB fun i j=>.int (i.fdiv j)
abbrev Yu:=dIc (fun _ j=>0<j) fun i j=>.int (i % j)
abbrev dLt:=dI fun i j=>.bl (decide (i<j))
abbrev dLe:=dI fun i j=>.bl (decide (i<=j))
abbrev dGt:=dI fun i j=>.bl (decide (j<i))
theorem ZI:ROk K (rI0 fun i j=>.int (i+j)) yo:=WO fun _ _ _ _=>Zz
theorem jn:ROk K (rI0 fun i j=>.int (i - j)) wu:=WO fun _ _ _ _=>Zz
theorem yL:ROk K (rI IntMulOk fun i j=>.int (i*j)) jD:=rok_I fun _ _ _ _=>Zz
theorem Ya:ROk K (rI CDiv fun i j=>.int (i / j)) wv:=rok_I fun _ _ _ _=>Zz
theorem rok_divP:ROk K (rI CDivB fun i j=>.int (i.fdiv j)) dDivP:=rok_I fun _ _ _ _=>Zz
theorem ZH:ROk K (rI (fun _ j=>0<j) fun i j=>.int (i % j)) Yu:=rok_I fun _ _ _ _=>Zz
theorem rok_lt:ROk K (rI0 fun i j=>.bl (decide (i<j))) dLt:=WO fun _ _ _ _=>YU
theorem J6:ROk K (rI0 fun i j=>.bl (decide (i<=j))) dLe:=WO fun _ _ _ _=>YU
theorem jQ:ROk K (rI0 fun i j=>.bl (decide (j<i))) dGt:=WO fun _ _ _ _=>YU
def eqS:D->D->Option Bool
 | .int i,.int j=>some (decide (i=j))
 | .bl i,.bl j=>some (decide (i=j))
 | .str i,.str j=>some (decide (i=j))
 | .non,.non=>some true
 | .non,.int _=>some false | .int _,.non=>some false | .non,.bl _=>some false | .bl _,.non=>some false | .non,.str _=>some false | .str _,.non=>some false
 | .int _,.str _=>some false | .str _,.int _=>some false | .bl _,.str _=>some false | .str _,.bl _=>some false
 | _,_=>none
def Ze (x y:D):Option D:=(eqS x y).map .bl
def je (x y:D):Option D:=(eqS x y).map fun b=>.bl (!b)
theorem eqS_v {H:Hp} {B:Kc->Prop} {d1 d2:D} {x y:V} {b:Bool} (r1:Rep K H B d1 x) (r2:Rep K H B d2 y) (e:eqS d1 d2=some b):scal x y=true/\decide (x=y)=b:=by
 cases d1 <;> cases d2 <;> simp only [eqS] at e <;> cases e <;> simp only [Rep] at r1 r2 <;> subst r1 <;> subst r2 <;> simp [scal]
theorem zQ:ROk K rEq Ze:=fun H B x y d1 d2 d Q hB r1 r2 e k=>by
 obtain ⟨b,h1,rfl⟩:=map_some e
 obtain ⟨h2,h3⟩:=eqS_v r1 r2 h1
 exact ⟨h2,k _ H (.refl H) (by rw [h3];exact YU)⟩
theorem jo:ROk K rNe je:=fun H B x y d1 d2 d Q hB r1 r2 e k=>by
 obtain ⟨b,h1,rfl⟩:=map_some e
 obtain ⟨h2,h3⟩:=eqS_v r1 r2 h1
 exact ⟨h2,k _ H (.refl H) (by rw [h3];exact YU)⟩
def JV:D->Bool
 | .non=>true
 | _=>false
def dIsN (x y:D):Option D:=if JV y then some (.bl (JV x)) else none
def dNotN (x y:D):Option D:=if JV y then some (.bl (!JV x)) else none
def wX:D->Option D
 | .int i=>some (.int (-i))
 | _=>none
theorem JD:UOk K (rU fun i=>.int (-i)) wX:=fun H B x d1 d Q hB r e k=>by
 cases d1 <;> simp only [wX] at e <;> cases e
 simp only [Rep] at r
 exact ⟨_,r,k _ H (.refl H) Zz⟩
def truD:D->Option Bool
 | .non=>some false
 | .bl b=>some b
 | .int i=>some (i != 0)
 | .lst ds=>some (!ds.isEmpty)
 | .tup ds=>some (!ds.isEmpty)
 | .dict ks _=>some (!ks.isEmpty)
 | .scr ns=>some (!ns.isEmpty)
 | .str _=>none
 | .adr _=>none
 | .kset _=>none
 | .tk _=>none
 | .pin _ _=>none
theorem zr.isEmpty {H:Hp} {B:Kc->Prop} {ds:List D} {vs:List V} (h:zr K H B ds vs):vs.isEmpty=ds.isEmpty:=by
 have:=h.length
 cases vs <;> cases ds <;> simp_all
end
def fTru (f:Ev->Option D):Ev->Option Bool:=fun ρ=>(f ρ).bind truD
section
variable {X:Cx} {st:Bool} {os:List Nat} {e a b c:Kv} {es:List Kv} {t ta tb tc:TE} {tl:TA} {f fa fb fc:Ev->Option D} {fl:Ev->Option (List D)} {pos p:KB} {x:Kw}
def Yl (fa fb:Ev->Option (List D)):Ev->Option D:=fun ρ=>(fa ρ).bind fun x=>(fb ρ).bind fun y=>gk (x++y)
def asL:D->Option (List D)
 | .lst ds=>some ds
 | _=>none
structure SL (X:Cx) (os:List Nat) (e:Kv) (t:TE) (f:Ev->Option (List D)):Prop where
 pe:PE X e t
 ok:∀ (P9:Hp) (Ua:Kc->Prop) (σ:St) (H:Hp) (ρ:Ev) (ds:List D) (Q:VK),Md X.K P9 Ua os σ H ρ->f ρ=some ds->(∀ a xs H',zO H H'->Rd H' a (.lst xs)->zr X.K H' (Bl Ua os σ) ds xs->Q (.ref a) H')->t σ H Q
def fL (f:Ev->Option D):Ev->Option (List D):=fun ρ=>(f ρ).bind asL
theorem SE.sl (h:SE X true os e t f):SL X os e t (fL f):=⟨h.pe,fun P9 Ua σ H ρ ds Q m q k=>by
 obtain ⟨x,h1,h2⟩:=ze q
 cases x <;> simp only [asL] at h2 <;> cases h2
 refine h.ok P9 Ua σ H ρ _ Q m h1 fun v H' s r=>?_
 simp only [Rep] at r
 obtain ⟨a,xs,rfl,hl,hr⟩:=r
 exact k a xs H' s hl.1 hr⟩
theorem SF.sl (h:SF X os e t f):SL X os e t (fL f):=SE.sl (SF.se h)
variable {la lb:Ev->Option (List D)}
theorem YS (ha:SL X os a ta la) (hb:SL X os b tb lb):SF X os (.BinOp a .Add b pos) (tOp rCatS ta tb) (Yl la lb):=⟨pe_op op_catS ha.pe hb.pe,fun P9 Ua σ H ρ d Q m q k=>by
 obtain ⟨x,h1,h2⟩:=ze q
 obtain ⟨y,h3,h4⟩:=ze h2
 unfold gk at h4
 split at h4
 ·rename_i hl
  cases h4
  refine ha.ok P9 Ua σ H ρ x _ m h1 fun p1 xs H1 s1 hq1 r1=>?_
  refine hb.ok P9 Ua σ H1 ρ y _ (m.up s1) h3 fun p2 ys H2 s2 hq2 r2=>?_
  refine ⟨p1,p2,xs,ys,rfl,rfl,Rd.same s2 hq1,hq2,by rw [r1.length,r2.length,<- Qf];exact hl,fun p' hp=>?_⟩
  exact k p' _ _ ((s1.trans s2).trans (zB hp)) ((s1.trans s2).free hp) zm (zr.goes (.fresh hp (zB hp)) _ _ ((r1.up s2).append r2))
 ·cases h4⟩
def spM (K:KC) (m:List D->Option D):Sp:=fun vs H Q _=>∃ (B:Kc->Prop) (ds:List D) (d:D),(∀ a,B a->∃ o,H a=some o)/\zr K H B ds vs/\m ds=some d/\∀ v H',zO H H'->Rep K H' B d v->Q v H'
theorem se_call {k:Nat} {fn:Kc} {fd:Kh} {ps:List Kw} {m:List D->Option D} (F:FnOk X.prog X.w X.K X.mg X.base CX0 k fn fd ps (spM X.K m)) (hr:Room k X.A) (hg:Gl X x) (hm:X.mg x=some (.ref fn)) (hk:keepIn X.K (.ref fn)=true) (hb:YQ X.K fd ps [])
  (ha:SA X st os (e::es) tl fl) (hdb:(x == ("__debug__":Kw))=false:=by decide) (he:Ke (e::es) X.env=(false,Kz e X.env)::Ke es X.env:=by rfl) (hpl:(Kq pos (Ke es X.env)).any (·.1)=false:=by rfl) {K':KC} (hK:X.K=K':=by rfl) :
  SE X st os (.Call (.Name x p) (e::es) [] pos) (wz (spM K' m) [] E0 tl) (fA m fl):=by
 subst hK
 exact ⟨Wk F hr hg hm hk hb .nil WU ha.pa hdb he hpl,fun P9 Ua σ H ρ d Q M q kk=>by
 obtain ⟨ds,h1,h2⟩:=ze q
 refine ha.ok P9 Ua σ H ρ ds _ M h1 fun vs H1 s1 r1=>?_
 refine ⟨BB st Ua os σ,ds,d,(M.up s1).bb st,by rw [QT];exact r1,h2,fun v H' s2 r2=>kk v H' (s1.trans s2) r2⟩⟩
def CaOk (K:KC) (r:List V->Hp->VK->Prop) (g:List D->Option D):Prop:=∀ (H:Hp) (B:Kc->Prop) (xs:List V) (ds:List D) (d:D) (Q:VK),(∀ a,B a->∃ o,H a=some o)->zr K H B ds xs->g ds=some d->(∀ v H',zO H H'->Rep K H' B d v->Q v H')->r xs H Q
theorem EOk.call {r:List V->Hp->VK->Prop} {g:List D->Option D} (hr:CaOk X.K r g) (ha:AOk X.K st os tl fl):EOk X.K st os (tCB r tl) (fA g fl):=fun P9 Ua σ H ρ d Q m q k=>by
 obtain ⟨ds,h1,h2⟩:=ze q
 refine ha P9 Ua σ H ρ ds _ m h1 fun vs H1 s1 r1=>?_
 exact hr H1 _ vs ds d Q ((m.up s1).bb st) r1 h2 fun v H' s2 r2=>k v H' (s1.trans s2) r2
theorem WK {id:String} {r:List V->Hp->VK->Prop} {g:List D->Option D} (hc:Yp X (.builtin id) r) (hr:CaOk X.K r g) (hg:Gl X x) (hm:X.mg x=none) (hv:bootBuiltins x=some (.builtin id)) (ha:SA X st os (e::es) tl fl) (hn:x≠"__name__":=by decide) (hdb:(x == ("__debug__":Kw))=false:=by decide)
  (he:Ke (e::es) X.env=(false,Kz e X.env)::Ke es X.env:=by rfl) (hpl:(Kq pos (Ke es X.env)).any (·.1)=false:=by rfl):SE X st os (.Call (.Name x p) (e::es) [] pos) (tCB r tl) (fA g fl):=⟨ZW hc hg hm hv ha.pa hn hdb he hpl,EOk.call hr ha.ok⟩
theorem j7 {T:String} {r:List V->Hp->VK->Prop} {g:List D->Option D} (hc:Yp X (.type T) r) (hr:CaOk X.K r g) (hg:Gl X x) (hm:X.mg x=none) (hv:bootBuiltins x=some (.type T)) (ha:SA X st os (e::es) tl fl) (hn:x≠"__name__":=by decide) (hdb:(x == ("__debug__":Kw))=false:=by decide)
  (he:Ke (e::es) X.env=(false,Kz e X.env)::Ke es X.env:=by rfl) (hpl:(Kq pos (Ke es X.env)).any (·.1)=false:=by rfl):SE X st os (.Call (.Name x p) (e::es) [] pos) (tCB r tl) (fA g fl):=⟨pe_callTy hc hg hm hv ha.pa hn hdb he hpl,EOk.call hr ha.ok⟩
def gAbs:List D->Option D
 | [.int i]=>some (.int (if i<0 then -i else i))
 | _=>none
def gInt:List D->Option D
 | [.int i]=>some (.int i)
 | [.bl k]=>some (.int (if k then 1 else 0))
 | _=>none
def gMax2:List D->Option D
 | [.int i,.int j]=>some (.int (if j > i then j else i))
 | _=>none
theorem JK {K:KC} {H:Hp} {B:Kc->Prop} {d:D} {vs:List V} (h:zr K H B [d] vs):∃ v,vs=[v]/\Rep K H B d v:=by
 simp only [zr] at h
 obtain ⟨v,r,rfl,h1,rfl⟩:=h
 exact ⟨v,rfl,h1⟩
theorem reps2 {K:KC} {H:Hp} {B:Kc->Prop} {d d':D} {vs:List V} (h:zr K H B [d,d'] vs):∃ v v',vs=[v,v']/\Rep K H B d v/\Rep K H B d' v':=by
 simp only [zr] at h
 obtain ⟨v,r,rfl,h1,v',r',rfl,h2,rfl⟩:=h
 exact ⟨v,v',rfl,h1,h2⟩
theorem caok_int {K:KC}:CaOk K (fun xs H Q=>(∃ i,xs=[.int i]/\Q (.int i) H)\/∃ k,xs=[.bl k]/\Q (.int (if k then 1 else 0)) H) gInt:=fun H B xs ds d Q hB r e k=>by
 unfold gInt at e
 split at e <;> cases e
 ·obtain ⟨v,rfl,h1⟩:=JK r
  simp only [Rep] at h1
  subst h1
  exact .inl ⟨_,rfl,k _ H (.refl H) Zz⟩
 ·obtain ⟨v,rfl,h1⟩:=JK r
  simp only [Rep] at h1
  subst h1
  exact .inr ⟨_,rfl,k _ H (.refl H) Zz⟩
theorem caok_max2 {K:KC}:CaOk K (fun xs H Q=>∃ i j,xs=[.int i,.int j]/\Q (.int (if j > i then j else i)) H) gMax2:=fun H B xs ds d Q hB r e k=>by
 unfold gMax2 at e
 split at e <;> cases e
 obtain ⟨v,v',rfl,h1,h2⟩:=reps2 r
 simp only [Rep] at h1 h2
 subst h1;subst h2
 exact ⟨_,_,rfl,k _ H (.refl H) Zz⟩
def tyD:D->String
 | .non=>"NoneType" | .bl _=>"bool" | .int _=>"int" | .str _=>"str" | .lst _=>"list" | .tup _=>"tuple" | .dict _ _=>"dict" | .scr _=>"list" | .adr _=>"" | .kset _=>"" | .tk _=>"" | .pin _ d=>tyD d
def dIsi (T:String) (d:D):D:=.bl (tyD d == T||(tyD d == "bool"&&T == "int"))
def yu (T:String):D->Option D
 | .adr _=>none
 | .kset _=>none
 | .tk _=>none
 | .pin _ d=>yu T d
 | d=>some (dIsi T d)
def Plain:D->Prop
 | .adr _=>False
 | .kset _=>False
 | .tk _=>False
 | .pin _ d=>Plain d
 | _=>True
theorem gIsi_ {T:String}:∀ {d d':D},yu T d=some d'->Plain d/\d'=dIsi T d
 | .non,d',h | .bl _,d',h | .int _,d',h | .str _,d',h | .tup _,d',h | .lst _,d',h | .dict _ _,d',h | .scr _,d',h=>by simp only [yu] at h;cases h;exact ⟨trivial,rfl⟩
 | .adr _,d',h | .kset _,d',h | .tk _,d',h=>by simp only [yu] at h;cases h
 | .pin _ d,d',h=>by
  simp only [yu] at h
  obtain ⟨h1,h2⟩:=gIsi_ h
  exact ⟨h1,h2⟩
theorem tyN {K:KC} {H:Hp} {B:Kc->Prop}:∀ {d:D} {v:V},Plain d->Rep K H B d v->TyN K H v (tyD d)
 | .non,v,_,r=>by simp only [Rep] at r;subst r;rfl
 | .bl _,v,_,r=>by simp only [Rep] at r;subst r;rfl
 | .int _,v,_,r=>by simp only [Rep] at r;subst r;rfl
 | .str _,v,_,r=>by simp only [Rep] at r;subst r;rfl
 | .tup _,v,_,r=>by simp only [Rep] at r;obtain ⟨a,xs,rfl,hq,hr⟩:=r;exact .inr (.inl ⟨rfl,xs,hq⟩)
 | .lst _,v,_,r=>by simp only [Rep] at r;obtain ⟨a,xs,rfl,hq,hr⟩:=r;exact .inl ⟨rfl,xs,hq.sq⟩
 | .dict _ _,v,_,r=>by simp only [Rep] at r;obtain ⟨a,KO,rfl,hq,hk,hr⟩:=r;exact .inr (.inr ⟨rfl,KO,hq.1⟩)
 | .scr _,v,_,r=>by simp only [Rep] at r;obtain ⟨a,rfl,hq⟩:=r;exact .inl ⟨rfl,_,hq.sq⟩
 | .adr _,v,h,_=>h.elim
 | .kset _,v,h,_=>h.elim
 | .tk _,v,h,_=>h.elim
 | .pin _ d,v,h,r=>by simp only [Rep] at r;exact tyN (d:=d) h r.2
theorem yK {y:Kw} {T:String} {p':KB} (hg:Gl X "isinstance") (hm:X.mg "isinstance"=none) (hg2:Gl X y) (hm2:X.mg y=none) (hv2:bootBuiltins y=some (.type T)) (hT:T∈jF) (ha:SE X false os a ta fa) (hn:y≠"__name__":=by decide) (hdb:(y == ("__debug__":Kw))=false:=by decide)
  (h1:Ke [a,.Name y p'] X.env=(false,Kz a X.env)::Ke [.Name y p'] X.env:=by rfl) (h2:Ke [.Name y p'] X.env=(false,Kz (.Name y p') X.env)::Ke [] X.env:=by rfl) (hpl:(Kq pos (Ke [.Name y p'] X.env)).any (·.1)=false:=by rfl) {K':KC} (hK:X.K=K':=by rfl) :
  SE X st os (.Call (.Name "isinstance" p) [a,.Name y p'] [] pos) (tCB (fun xs H Q=>∃ x T n,xs=[x,.ty T]/\T∈jF/\TyN K' H x n/\Q (.bl (n == T||(n == "bool"&&T == "int"))) H) (zD ta (zD (tC (.ty T)) zW))) (f1 (yu T) fa):=by
 subst hK
 exact
 ⟨ZW call_isi hg hm PyProof.Rows.boot_isinstance (zv ha.pe (zv (pe_bltn (v:=.ty T) hg2 hm2 hv2 rfl hn hdb) zz h2) h1) (by decide) (by decide) h1 hpl,fun P9 Ua σ H ρ d Q m q k=>by
  obtain ⟨x,h1,h2⟩:=ze q
  obtain ⟨h3,rfl⟩:=gIsi_ h2
  refine ha.ok P9 Ua σ H ρ x _ m h1 fun v H1 s1 r1=>?_
  exact ⟨v,T,tyD x,rfl,hT,tyN h3 r1,k _ H1 s1 YU⟩⟩
theorem EOk.callC {k:Bool} {r:List V->Hp->VK->Prop} {g:List D->Option D} {ca:Ev->Option (List D)}
  (hr:∀ (H:Hp) (B:Kc->Prop) (q:Kc) (xs:List V) (ds:List D) (d:D) (Q:VK),Sq k X.K H q xs->zr X.K H B ds xs->g ds=some d->(∀ v H',zO H H'->Rep X.K H' B d v->Q v H')->r [.ref q] H Q)
  (ha:COk X.K k os ta ca):EOk X.K st os (tCB r (zD ta zW)) (fA g ca):=fun P9 Ua σ H ρ d Q m q kk=>by
 obtain ⟨ds,h1,h2⟩:=ze q
 refine ha P9 Ua σ H ρ ds _ m h1 fun a xs H1 s1 hq r1=>?_
 exact hr H1 (Bl Ua os σ) a xs ds d Q hq r1 h2 fun v H' s2 r2=>kk v H' (s1.trans s2) (Rep.bb r2)
variable {ca:Ev->Option (List D)} {k:Bool}
def yP (ds:List D):Option D:=some (.int ds.length)
theorem Yk (hg:Gl X "len") (hm:X.mg "len"=none) (ha:SC X k os a ta ca) (h1:Ke [a] X.env=(false,Kz a X.env)::Ke [] X.env:=by rfl) (hpl:(Kq pos (Ke [] X.env)).any (·.1)=false:=by rfl) {K':KC} (hK:X.K=K':=by rfl) :
  SE X st os (.Call (.Name "len" p) [a] [] pos) (tCB (fun xs H Q=>∃ p ys,xs=[.ref p]/\(SqL K' H p ys\/SqT K' H p ys)/\Q (.int ys.length) H) (zD ta zW)) (fA yP ca):=by
 subst hK
 exact
 ⟨ZW ZK hg hm PySem.boot_len (zv ha.pe zz h1) (by decide) (by decide) h1 hpl,EOk.callC (k:=k) (fun H B q xs ds d Q hq r e kk=>by
  cases e
  refine ⟨q,xs,rfl,?_,kk _ H (.refl H) (by rw [r.length];exact Zz)⟩
  cases k with
  | true=>exact .inl hq
  | false=>exact .inr hq) ha.ok⟩
def Jm:List D->Option (List Int)
 | []=>some []
 | .int i::r=>(Jm r).map (i::·)
 | _::_=>none
def Jx:List D->Option (List Bool)
 | []=>some []
 | .bl i::r=>(Jx r).map (i::·)
 | _::_=>none
theorem wk (ns:List Int):Jm (ns.map .int)=some ns:=by
 induction ns with
 | nil=>rfl
 | cons n r ih=>simp [Jm,ih]
theorem gx (ns:List Bool):Jx (ns.map .bl)=some ns:=by
 induction ns with
 | nil=>rfl
 | cons n r ih=>simp [Jx,ih]
theorem JQ:∀ {ds:List D} {ns:List Int},Jm ds=some ns->ds=ns.map .int
 | [],ns,h=>by simp only [Jm] at h;cases h;rfl
 | d::r,ns,h=>by
  cases d <;> simp only [Jm] at h <;> try (cases h;done)
  obtain ⟨ms,h1,rfl⟩:=map_some h
  rw [JQ h1];rfl
theorem of_boolsD:∀ {ds:List D} {ns:List Bool},Jx ds=some ns->ds=ns.map .bl
 | [],ns,h=>by simp only [Jx] at h;cases h;rfl
 | d::r,ns,h=>by
  cases d <;> simp only [Jx] at h <;> try (cases h;done)
  obtain ⟨ms,h1,rfl⟩:=map_some h
  rw [of_boolsD h1];rfl
theorem zr.bls:∀ {K:KC} {H:Hp} {B:Kc->Prop} {ns:List Bool} {vs:List V},zr K H B (ns.map D.bl) vs->vs=ns.map V.bl
 | K,H,B,[],vs,h=>by simpa [zr] using h
 | K,H,B,n::r,vs,h=>by
  simp only [Qk,zr,Rep] at h
  obtain ⟨v,r',e,h1,h2⟩:=h
  subst e;subst h1
  rw [zr.bls h2];rfl
def gg (ds:List D):Option D:=(Jm ds).map fun ns=>.int ns.sum
def jc (ds:List D):Option D:=(Jx ds).map fun ns=>.bl (ns.all id)
theorem se_sum (hc:X.calm=true) (hg:Gl X "sum") (hm:X.mg "sum"=none) (ha:SC X k os a ta ca) (h1:Ke [a] X.env=(false,Kz a X.env)::Ke [] X.env:=by rfl) (hpl:(Kq pos (Ke [] X.env)).any (·.1)=false:=by rfl) {K':KC} (hK:X.K=K':=by rfl) :
  SE X st os (.Call (.Name "sum" p) [a] [] pos) (tCB (fun xs H Q=>∃ (p:Kc) (ns:List Int),xs=[.ref p]/\Sq k K' H p (ns.map V.int)/\Q (.int ns.sum) H) (zD ta zW)) (fA gg ca):=by
 subst hK
 exact
 ⟨ZW (call_sumI k hc) hg hm PyProof.Rows.boot_sum (zv ha.pe zz h1) (by decide) (by decide) h1 hpl,EOk.callC (k:=k) (fun H B q xs ds d Q hq r e kk=>by
  obtain ⟨ns,h1,rfl⟩:=map_some e
  rw [JQ h1] at r
  rw [r.ints'] at hq
  exact ⟨q,ns,rfl,hq,kk _ H (.refl H) Zz⟩) ha.ok⟩
theorem boot_all':bootBuiltins "all"=some (.builtin "all"):=by decide +kernel
theorem JH (hc:X.calm=true) (hg:Gl X "all") (hm:X.mg "all"=none) (ha:SC X k os a ta ca) (h1:Ke [a] X.env=(false,Kz a X.env)::Ke [] X.env:=by rfl) (hpl:(Kq pos (Ke [] X.env)).any (·.1)=false:=by rfl) {K':KC} (hK:X.K=K':=by rfl) :
  SE X st os (.Call (.Name "all" p) [a] [] pos) (tCB (fun xs H Q=>∃ (p:Kc) (ns:List Bool),xs=[.ref p]/\Sq k K' H p (ns.map V.bl)/\Q (.bl (ns.all id)) H) (zD ta zW)) (fA jc ca):=by
 subst hK
 exact
 ⟨ZW (call_allB k hc) hg hm boot_all' (zv ha.pe zz h1) (by decide) (by decide) h1 hpl,EOk.callC (k:=k) (fun H B q xs ds d Q hq r e kk=>by
  obtain ⟨ns,h1,rfl⟩:=map_some e
  rw [of_boolsD h1] at r
  rw [r.bls] at hq
  exact ⟨q,ns,rfl,hq,kk _ H (.refl H) YU⟩) ha.ok⟩
def jA (ds:List D):Option D:=some (.tup ds)
theorem WJ (hg:Gl X "tuple") (hm:X.mg "tuple"=none) (ha:SC X true os a ta ca) (h1:Ke [a] X.env=(false,Kz a X.env)::Ke [] X.env:=by rfl) (hpl:(Kq pos (Ke [] X.env)).any (·.1)=false:=by rfl) {K':KC} (hK:X.K=K':=by rfl) :
  SE X st os (.Call (.Name "tuple" p) [a] [] pos) (tCB (fun xs H Q=>∃ p ys,xs=[.ref p]/\((SqL K' H p ys/\∀ l,H l=none->Q (.ref l) (upd H l (.tup ys)))\/(SqT K' H p ys/\Q (.ref p) H))) (zD ta zW)) (fA jA ca):=by
 subst hK
 exact
 ⟨pe_callTy call_tuple_of hg hm PyProof.Rows.boot_tuple (zv ha.pe zz h1) (by decide) (by decide) h1 hpl,EOk.callC (k:=true) (fun H B q xs ds d Q hq r e kk=>by
  cases e
  refine ⟨q,xs,rfl,.inl ⟨hq,fun l hl=>kk _ _ (zB hl) ?_⟩⟩
  simp only [Rep]
  exact ⟨l,xs,rfl,.inl (.inl zm),r.up (zB hl)⟩) ha.ok⟩
end
def SqS (k:Bool) (K:KC) (H:Hp) (B:Kc->Prop) (a:Kc) (xs:List V):Prop:=match k with
 | true=>RL K H B a xs\/RS K H a xs
 | false=>SqT K H a xs
def Cn (s k:Bool) (K:KC) (H:Hp) (B:Kc->Prop) (a:Kc) (xs:List V):Prop:=match s with
 | true=>SqS k K H B a xs
 | false=>Sq k K H a xs
theorem Cn.sq {s k:Bool} {K:KC} {H:Hp} {B:Kc->Prop} {a:Kc} {xs:List V} (h:Cn s k K H B a xs):Sq k K H a xs:=by
 cases s with
 | false=>exact h
 | true =>
  cases k with
  | true=>exact h.elim RL.sq RS.sq
  | false=>exact h
theorem Cn.mv {k:Bool} {K:KC} {H H':Hp} {B B':Kc->Prop} {a:Kc} {xs:List V} (g:Goes H H' B B') (h:Cn true k K H B a xs):Cn true k K H' B' a xs:=by
 cases k with
 | true =>
  rcases h with h | h
  ·exact .inl (g.lst a xs h.1 h.2)
  ·rcases h with ⟨o,h⟩ | h
   ·exact .inr (.inl ⟨o,g.frz a o _ h⟩)
   ·exact .inr (.inr h)
 | false =>
  rcases h with h | h
  ·exact .inl (g.tup a xs h)
  ·exact .inr h
theorem Sq.same {k:Bool} {K:KC} {H H':Hp} {a:Kc} {xs:List V} (e:zO H H') (h:Sq k K H a xs):Sq k K H' a xs:=by
 cases k with
 | true=>exact e.seq h
 | false=>exact SqT.same e h
theorem Cn.up {s k:Bool} {K:KC} {H H':Hp} {B:Kc->Prop} {a:Kc} {xs:List V} (e:zO H H') (h:Cn s k K H B a xs):Cn s k K H' B a xs:=by
 cases s with
 | false=>exact Sq.same e h
 | true=>exact Cn.mv (.same e) h
structure SN (X:Cx) (s k:Bool) (os:List Nat) (e:Kv) (t:TE) (f:Ev->Option (List D)):Prop where
 pe:PE X e t
 ok:∀ (P9:Hp) (Ua:Kc->Prop) (σ:St) (H:Hp) (ρ:Ev) (ds:List D) (Q:VK),Md X.K P9 Ua os σ H ρ->f ρ=some ds->(∀ a xs H',zO H H'->Cn s k X.K H' (Bl Ua os σ) a xs->zr X.K H' (Bl Ua os σ) ds xs->Q (.ref a) H')->t σ H Q
def Mv (H':Hp) (ok:Hp->(Kc->Prop)->Prop):Prop:=∀ n,H' n=none->∀ Ha Hb Ba Bb,Goes Ha Hb Ba Bb->(∀ b o,b≠n->Ha b=some o->Hb b=some o)->ok Ha Ba->ok Hb Bb
theorem Cn.split {s k:Bool} {K:KC} {H:Hp} {B:Kc->Prop} {a:Kc} {xs:List V} (h:Cn s k K H B a xs):∃ P:Hp->(Kc->Prop)->Prop,P H B/\(∀ H B,P H B->Sq k K H a xs)/\Mv H P/\(s=true->∀ Ha Hb Ba Bb,Goes Ha Hb Ba Bb->P Ha Ba->P Hb Bb):=by
 cases s with
 | true=>exact ⟨fun H B=>Cn true k K H B a xs,h,fun H B q=>q.sq,fun n hn Ha Hb Ba Bb g _ q=>q.mv g,fun _ Ha Hb Ba Bb g q=>q.mv g⟩
 | false =>
  have h':Sq k K H a xs:=h
  cases k with
  | true =>
   rcases h' with h' | h'
   ·refine ⟨fun H _=>Rd H a (.lst xs),h',fun H B q=>.inl q,fun n hn Ha Hb Ba Bb g kp q=>?_,fun z=>by cases z⟩
    have hne:a≠n:=fun e=>by subst e;rcases h' with h' | ⟨o,h'⟩ <;> (rw [hn] at h';cases h')
    rcases q with q | ⟨o,q⟩
    ·exact .inl (kp _ _ hne q)
    ·exact .inr ⟨o,kp _ _ hne q⟩
   ·exact ⟨fun _ _=>True,trivial,fun _ _ _=>.inr h',fun _ _ _ _ _ _ _ _ _=>trivial,fun z=>by cases z⟩
  | false =>
   rcases h' with h' | h'
   ·refine ⟨fun H _=>Rd H a (.tup xs),h',fun H B q=>.inl q,fun n hn Ha Hb Ba Bb g kp q=>g.tup _ _ q,fun z=>by cases z⟩
   ·exact ⟨fun _ _=>True,trivial,fun _ _ _=>.inr h',fun _ _ _ _ _ _ _ _ _=>trivial,fun z=>by cases z⟩
structure IW (K:KC) (J:It) (ds:List D) (ok:Hp->(Kc->Prop)->Prop):Prop where
 go:∀ H B (i:Nat) d,ok H B->ds[i]?=some d->J.go i H
 yld:∀ H B (i:Nat) d x H',ok H B->ds[i]?=some d->J.yld i H x H'->zO H H'/\Rep K H' B d x
 stop:∀ H B (i:Nat),ok H B->ds.length<=i->J.stop i H
def IOk (K:KC) (s:Bool) (os:List Nat) (wi:TI) (fi:Ev->Option (List D)):Prop :=
 ∀ (P9:Hp) (Ua:Kc->Prop) (σ:St) (H:Hp) (ρ:Ev) (ds:List D) (R:It->Hp->Prop),Md K P9 Ua os σ H ρ->fi ρ=some ds ->
  (∀ (J:It) (H':Hp) (ok:Hp->(Kc->Prop)->Prop),zO H H'->IW K J ds ok->Mv H' ok->(s=true->∀ H H' B B',Goes H H' B B'->ok H B->ok H' B')->ok H' (Bl Ua os σ)->R J H')->wi σ H R
structure SI (X:Cx) (s:Bool) (os:List Nat) (tg iter:Kv) (wi:TI) (fi:Ev->Option (List D)):Prop where
 pi:PI X tg iter wi
 ok:IOk X.K s os wi fi
section
variable {X:Cx} {s k:Bool} {os:List Nat} {e a b tg:Kv} {t ta tb:TE} {f fa fb:Ev->Option D} {fl ca cb:Ev->Option (List D)} {pos p:KB}
theorem SE.sn (h:SE X true os e t f):SN X true k os e t (zk k f):=⟨h.pe,fun P9 Ua σ H ρ ds Q m q kk=>by
 obtain ⟨x,h1,h2⟩:=ze q
 refine h.ok P9 Ua σ H ρ _ Q m h1 fun v H' s r=>?_
 cases k with
 | true =>
  cases x <;> simp only [asK] at h2 <;> cases h2
  ·simp only [Rep] at r
   obtain ⟨a,xs,rfl,hl,hr⟩:=r
   exact kk a xs H' s (.inl hl) hr
  ·simp only [Rep] at r
   obtain ⟨a,rfl,hl⟩:=r
   exact kk a _ H' s (.inr hl) .ints
 | false =>
  cases x <;> simp only [asK] at h2 <;> cases h2
  simp only [Rep] at r
  obtain ⟨a,xs,rfl,hl,hr⟩:=r
  exact kk a xs H' s hl hr⟩
theorem SC.sn (h:SC X k os e t fl):SN X false k os e t fl:=⟨h.pe,fun P9 Ua σ H ρ ds Q m q kk=>h.ok P9 Ua σ H ρ ds Q m q fun a xs H' s hq r=>kk a xs H' s hq r⟩
theorem Z9 (h:SN X s true os e t fl) {K':KC} (hK:X.K=K':=by rfl):SI X s os tg e (iList K' t) fl:=by
 subst hK
 exact ⟨pi_list h.pe,fun P9 Ua σ H ρ ds R m q kk=>by
 refine h.ok P9 Ua σ H ρ ds _ m q fun a xs H1 s1 hc r=>⟨a,rfl,⟨xs,hc.sq⟩,?_⟩
 obtain ⟨P,p0,psq,pmv,pst⟩:=hc.split
 refine kk _ H1 (fun H B=>P H B/\zr X.K H B ds xs) s1 ⟨fun H B i d ok e=>?_,fun H B i d x H' ok e y=>?_,fun H B i ok hl=>?_⟩ (fun n hn Ha Hb Ba Bb g kp ok=>⟨pmv n hn _ _ _ _ g kp ok.1,zr.goes g _ _ ok.2⟩) (fun hs H H' B B' g ok=>⟨pst hs _ _ _ _ g ok.1,zr.goes g _ _ ok.2⟩) ⟨p0,r⟩
 ·obtain ⟨v,h1,h2⟩:=ok.2.get e
  exact ⟨xs,v,psq _ _ ok.1,h1⟩
 ·obtain ⟨rfl,h1⟩:=y
  obtain ⟨v,h2,h3⟩:=ok.2.get e
  have:=h1 xs (psq _ _ ok.1)
  rw [h2] at this;cases this
  exact ⟨.refl _,h3⟩
 ·exact ⟨xs,psq _ _ ok.1,by rw [ok.2.length];exact hl⟩⟩
theorem J4 (h:SN X s false os e t fl) {K':KC} (hK:X.K=K':=by rfl):SI X s os tg e (iTup K' t) fl:=by
 subst hK
 exact ⟨pi_tup h.pe,fun P9 Ua σ H ρ ds R m q kk=>by
 refine h.ok P9 Ua σ H ρ ds _ m q fun a xs H1 s1 hc r=>⟨a,rfl,⟨xs,hc.sq⟩,?_⟩
 obtain ⟨P,p0,psq,pmv,pst⟩:=hc.split
 refine kk _ H1 (fun H B=>P H B/\zr X.K H B ds xs) s1 ⟨fun H B i d ok e=>?_,fun H B i d x H' ok e y=>?_,fun H B i ok hl=>?_⟩ (fun n hn Ha Hb Ba Bb g kp ok=>⟨pmv n hn _ _ _ _ g kp ok.1,zr.goes g _ _ ok.2⟩) (fun hs H H' B B' g ok=>⟨pst hs _ _ _ _ g ok.1,zr.goes g _ _ ok.2⟩) ⟨p0,r⟩
 ·obtain ⟨v,h1,h2⟩:=ok.2.get e
  exact ⟨xs,v,psq _ _ ok.1,h1⟩
 ·obtain ⟨rfl,h1⟩:=y
  obtain ⟨v,h2,h3⟩:=ok.2.get e
  have:=h1 xs (psq _ _ ok.1)
  rw [h2] at this;cases this
  exact ⟨.refl _,h3⟩
 ·exact ⟨xs,psq _ _ ok.1,by rw [ok.2.length];exact hl⟩⟩
def yX (lo:Int) (n:Nat):List D:=(List.range n).map fun i=>.int (lo+(i:Nat))
theorem iw_range {K:KC} (lo:Int) (n:Nat):IW K (Itr lo n) (yX lo n) (fun _ _=>True):=by
 have hl:(yX lo n).length=n:=by simp [yX]
 refine ⟨fun H B i d _ e=>?_,fun H B i d x H' _ e y=>?_,fun H B i _ h=>?_⟩
 ·have:=(Qs.mp e).1
  rw [hl] at this;exact this
 ·obtain ⟨rfl,rfl⟩:=y
  have hi:i<n:=by have:=(Qs.mp e).1;rw [hl] at this;exact this
  simp [yX,hi] at e
  subst e
  exact ⟨.refl _,Zz⟩
 ·rw [hl] at h;exact h
def wL (fa:Ev->Option D):Ev->Option (List D):=fun ρ=>(fa ρ).bind fun d=>(asI d).bind fun j=>if -(2 ^ 62)<=j/\j<2 ^ 62 then some (yX 0 j.toNat) else none
theorem asI_v {K:KC} {H:Hp} {B:Kc->Prop} {d:D} {v:V} {i:Int} (r:Rep K H B d v) (e:asI d=some i):v=.int i:=by
 cases d <;> simp only [asI] at e <;> cases e
 simpa [Rep] using r
theorem si_range1 (hg:Gl X "range") (hm:X.mg "range"=none) (ha:SE X false os a ta fa) (h1:Ke [a] X.env=(false,Kz a X.env)::Ke [] X.env:=by rfl) (hs:Ke [a] X.env=[(false,Kz a X.env)]:=by rfl) :
  SI X s os tg (.Call (.Name "range" p) [a] [] pos) (iRng1 (zD ta zW)) (wL fa):=⟨pi_range1 hg hm (zv ha.pe zz h1) hs,fun P9 Ua σ H ρ ds R m q kk=>by
 obtain ⟨x,h1,h2⟩:=ze q
 obtain ⟨j,h3,h4⟩:=ze h2
 split at h4
 ·cases h4
  rename_i hb
  refine ha.ok P9 Ua σ H ρ x _ m h1 fun v H1 s1 r=>?_
  have:=asI_v r h3
  subst this
  exact ⟨j,rfl,hb.1,hb.2,kk _ H1 _ s1 (iw_range 0 _) (fun _ _ _ _ _ _ _ _ _=>trivial) (fun _ _ _ _ _ _ _=>trivial) trivial⟩
 ·cases h4⟩
def zipD (xs ys:List D):List D:=List.zipWith (fun x y=>.tup [x,y]) xs ys
def fZip (ca cb:Ev->Option (List D)):Ev->Option (List D):=fun ρ=>(ca ρ).bind fun xs=>(cb ρ).map fun ys=>zipD xs ys
theorem si_zip {j1 j2:Bool} {elts:List Kv} {kk:Nat} {pp:KB} (hg:Gl X "zip") (hm:X.mg "zip"=none) (ha:SN X s j1 os a ta ca) (hb:SN X s j2 os b tb cb) (h1:Ke [a,b] X.env=(false,Kz a X.env)::Ke [b] X.env:=by rfl) (h2:Ke [b] X.env=(false,Kz b X.env)::Ke [] X.env:=by rfl)
  (hs:Ke [a,b] X.env=[(false,Kz a X.env),(false,Kz b X.env)]:=by rfl) (hs2:Ke [b] X.env=[(false,Kz b X.env)]:=by rfl) {K':KC} (hK:X.K=K':=by rfl) :
  SI X s os (.Tuple elts kk pp) (.Call (.Name "zip" p) [a,b] [] pos) (iZip j1 j2 K' (zD ta (zD tb zW))) (fZip ca cb):=by
 subst hK
 exact ⟨pi_zip j1 j2 hg hm (zv ha.pe (zv hb.pe zz h2) h1) hs hs2,fun P9 Ua σ H ρ ds R m q kk=>by
 obtain ⟨dx,h1,h2⟩:=ze q
 obtain ⟨dy,h3,rfl⟩:=map_some h2
 refine ha.ok P9 Ua σ H ρ dx _ m h1 fun a xs H1 s1 hc1 r1=>?_
 refine hb.ok P9 Ua σ H1 ρ dy _ (m.up s1) h3 fun b ys H2 s2 hc2 r2=>?_
 have hc1':=hc1.up s2
 have r1':=r1.up s2
 refine ⟨a,b,rfl,⟨xs,hc1'.sq⟩,⟨ys,hc2.sq⟩,?_⟩
 obtain ⟨P,p0,psq,pmv,pst⟩:=hc1'.split
 obtain ⟨P2,p02,psq2,pmv2,pst2⟩:=hc2.split
 refine kk _ H2 (fun H B=>(P H B/\zr X.K H B dx xs)/\P2 H B/\zr X.K H B dy ys) (s1.trans s2) ⟨fun H B i d ok e=>?_,fun H B i d x H' ok e y=>?_,fun H B i ok hl=>?_⟩
  (fun n hn Ha Hb Ba Bb g kp ok=>⟨⟨pmv n hn _ _ _ _ g kp ok.1.1,zr.goes g _ _ ok.1.2⟩,pmv2 n hn _ _ _ _ g kp ok.2.1,zr.goes g _ _ ok.2.2⟩) (fun hs H H' B B' g ok=>⟨⟨pst hs _ _ _ _ g ok.1.1,zr.goes g _ _ ok.1.2⟩,pst2 hs _ _ _ _ g ok.2.1,zr.goes g _ _ ok.2.2⟩) ⟨⟨p0,r1'⟩,p02,r2⟩
 ·have:=(Qs.mp e).1
  simp only [zipD,PD] at this
  obtain ⟨u,h5,_⟩:=ok.1.2.get (i:=i) (d:=dx[i]) (by simp [show i<dx.length by omega])
  obtain ⟨v,h6,_⟩:=ok.2.2.get (i:=i) (d:=dy[i]) (by simp [show i<dy.length by omega])
  exact ⟨xs,ys,u,v,psq _ _ ok.1.1,psq2 _ _ ok.2.1,h5,h6⟩
 ·have hi:=(Qs.mp e).1
  simp only [zipD,PD] at hi
  obtain ⟨u,h5,h5'⟩:=ok.1.2.get (i:=i) (d:=dx[i]) (by simp [show i<dx.length by omega])
  obtain ⟨v,h6,h6'⟩:=ok.2.2.get (i:=i) (d:=dy[i]) (by simp [show i<dy.length by omega])
  obtain ⟨q',x1,y1,rfl,hn,rfl,hx,hy⟩:=y
  have e1:=hx xs (psq _ _ ok.1.1)
  have e2:=hy ys (psq2 _ _ ok.2.1)
  rw [h5] at e1;cases e1
  rw [h6] at e2;cases e2
  have e3:d=.tup [dx[i],dy[i]]:=by
   simp only [zipD] at e
   rw [List.getElem?_zipWith] at e
   simp [show i<dx.length by omega,show i<dy.length by omega] at e
   exact e.symm
  subst e3
  refine ⟨zB hn,?_⟩
  simp only [Rep]
  exact ⟨q',_,rfl,.inl (.inl zm),(zr.cons h5' (.one h6')).up (zB hn)⟩
 ·simp only [zipD,PD] at hl
  exact ⟨xs,ys,psq _ _ ok.1.1,psq2 _ _ ok.2.1,by rw [ok.1.2.length,ok.2.2.length];omega⟩⟩
end
def GOk (K:KC) (os:List Nat) (g:TG) (u:D->Ev->Option Ev):Prop:=∀ (P9:Hp) (Ua:Kc->Prop) (σ:St) (H:Hp) (ρ ρ':Ev) (d:D) (v:V) (Q:St->Hp->Prop),Md K P9 Ua os σ H ρ->Rep K H (Bl Ua os σ) d v->u d ρ=some ρ' ->
 (∀ σ',σ'.length=σ.length->(∀ i∈os,σ'[i]?=σ[i]?)->Md K P9 Ua os σ' H ρ'->Q σ' H)->g v σ H Q
structure SG (X:Cx) (os:List Nat) (tg:Kv) (g:TG) (u:D->Ev->Option Ev):Prop where
 pg:PG X tg g
 ok:GOk X.K os g u
structure SGs (X:Cx) (os:List Nat) (ts:List Kv) (g:TGs) (n:Nat) (u:List D->Ev->Option Ev):Prop where
 pg:PGs X ts g
 len:∀ ds ρ ρ',u ds ρ=some ρ'->ds.length=n
 ok:∀ (P9:Hp) (Ua:Kc->Prop) (σ:St) (H:Hp) (ρ ρ':Ev) (ds:List D) (vs:List V) (Q:St->Hp->Prop),Md X.K P9 Ua os σ H ρ->zr X.K H (Bl Ua os σ) ds vs->u ds ρ=some ρ' ->
  (∀ σ',σ'.length=σ.length->(∀ i∈os,σ'[i]?=σ[i]?)->Md X.K P9 Ua os σ' H ρ'->Q σ' H)->g vs σ H Q
def zI (i:Nat):D->Ev->Option Ev:=fun d ρ=>some (ρ.set i (some d))
def uNil:List D->Ev->Option Ev
 | [],ρ=>some ρ
 | _::_,_=>none
def Jk (u:D->Ev->Option Ev) (us:List D->Ev->Option Ev):List D->Ev->Option Ev
 | [],_=>none
 | d::ds,ρ=>(u d ρ).bind fun ρ'=>us ds ρ'
def uTup (us:List D->Ev->Option Ev):D->Ev->Option Ev:=fun d ρ=>(asK false d).bind fun ds=>us ds ρ
def uLst (us:List D->Ev->Option Ev):D->Ev->Option Ev:=fun d ρ=>(asK true d).bind fun ds=>us ds ρ
section
variable {X:Cx} {os:List Nat} {pos:KB}
theorem bl_eq {Ua:Kc->Prop} {σ σ':St} (h:∀ i∈os,σ'[i]?=σ[i]?):Bl Ua os σ'=Bl Ua os σ:=by
 funext a
 unfold Bl
 apply propext
 constructor
 ·rintro (z | ⟨i,hi,e⟩)
  ·exact .inl z
  ·exact .inr ⟨i,hi,by rw [<- h i hi];exact e⟩
 ·rintro (z | ⟨i,hi,e⟩)
  ·exact .inl z
  ·exact .inr ⟨i,hi,by rw [h i hi];exact e⟩
theorem sg_name {i:Nat} {x:Kw} (hN:X.N.Nodup) (hi:X.N[i]?=some x) (hx:Loc X.env.scope x) (ho:i∉os:=by decide) (hf:X.fn x=true\/X.env.scope.names.lookup x=some .local:=by first | exact .inl rfl | exact .inr rfl | assumption):SG X os (.Name x pos) (ZA i) (zI i) :=
 ⟨pg_name hN hi hx hf,fun P9 Ua σ H ρ ρ' d v Q m r e k=>by
  cases e
  refine k _ (by rw [Qu]) (fun j hj=>zf fun z=>ho (z▸hj)) (m.put (fun j hj=>⟨hj,fun z=>ho (z▸hj)⟩) (fun j hj=>.inl hj) r)⟩
theorem sgs_nil:SGs X os [] gNil 0 uNil:=⟨pgs_nil,fun ds ρ ρ' e=>(by cases ds <;> first | rfl | cases e),fun P9 Ua σ H ρ ρ' ds vs Q m r e k=>by
 cases ds with
 | nil=>cases e;simp only [zr] at r;exact ⟨r,k σ rfl (fun _ _=>rfl) m⟩
 | cons a r=>cases e⟩
theorem Y3 {e:Kv} {es:List Kv} {t:TG} {u:TGs} {n:Nat} {f:D->Ev->Option Ev} {fs:List D->Ev->Option Ev} (h1:SG X os e t f) (h2:SGs X os es u n fs)
  (hs:(assignEach (e::es) X.env).map (·.2)=assign e X.env::(assignEach es X.env).map (·.2):=by rfl):SGs X os (e::es) (gCons t u) (n+1) (Jk f fs):=⟨pgs_cons h1.pg h2.pg hs,fun ds ρ ρ' e=>(by
 cases ds with
 | nil=>cases e
 | cons a r =>
  obtain ⟨x,_,q⟩:=ze e
  rw [Qg,h2.len _ _ _ q]),fun P9 Ua σ H ρ ρ' ds vs Q m r e k=>by
 cases ds with
 | nil=>cases e
 | cons d ds =>
  obtain ⟨ρ1,q1,q2⟩:=ze e
  simp only [zr] at r
  obtain ⟨v,vr,rfl,r1,r2⟩:=r
  refine ⟨v,vr,rfl,h1.ok P9 Ua σ H ρ ρ1 d v _ m r1 q1 fun σ1 l1 a1 m1=>?_⟩
  refine h2.ok P9 Ua σ1 H ρ1 ρ' ds vr _ m1 (by rw [bl_eq a1];exact r2) q2 fun σ2 l2 a2 m2=>?_
  exact k σ2 (l2.trans l1) (fun i hi=>(a2 i hi).trans (a1 i hi)) m2⟩
theorem sg_tup {es:List Kv} {k:Nat} {t:TGs} {n:Nat} {fs:List D->Ev->Option Ev} (hc:X.calm=true) (h:SGs X os es t n fs) (hn:(assignEach es X.env).length=n:=by rfl) (hst:(assignEach es X.env).findIdx? (·.1)=none:=by rfl) {K':KC} (hK:X.K=K':=by rfl) :
  SG X os (.Tuple es k pos) (gTup K' n t) (uTup fs):=by
 subst hK
 exact ⟨pg_tup hc h.pg hn hst,fun P9 Ua σ H ρ ρ' d v Q m r e kk=>by
 obtain ⟨ds,q1,q2⟩:=ze e
 cases d <;> simp only [asK] at q1 <;> cases q1
 simp only [Rep] at r
 obtain ⟨a,xs,rfl,hq,hr⟩:=r
 exact ⟨a,xs,rfl,hq,by rw [hr.length,h.len _ _ _ q2],h.ok P9 Ua σ H ρ ρ' ds xs Q m hr q2 kk⟩⟩
end
def Yo (u:D->Ev->Option Ev) (c:Ev->Option Bool) (e:Ev->Option D):List D->Ev->Option (List D)
 | [],_=>some []
 | d::ds,ρ=>(u d ρ).bind fun ρ1=>(c ρ1).bind fun b=>if b then (e ρ1).bind fun x=>(Yo u c e ds ρ1).map (x::·) else Yo u c e ds ρ1
def Zs (k:Nat) (fi:Ev->Option (List D)) (u:D->Ev->Option Ev) (c:Ev->Option Bool) (e:Ev->Option D):Ev->Option D:=fun ρ=>(fi ρ).bind fun ds=>(Yo u c e ds (ρ++List.replicate k none)).bind gk
structure SPF (X:Cx) (os:List Nat) (ifs:List Kv) (t:TT) (f:Ev->Option Bool):Prop where
 pf:PF X ifs t
 ok:TOk X.K os t f
def Z2:Ev->Option Bool:=fun _=>some true
theorem ZU {X:Cx} {os:List Nat}:SPF X os [] tYes Z2:=⟨pf_nil,fun P9 Ua σ H ρ b Q m q k=>by cases q;exact k H (.refl H)⟩
theorem spf_one {X:Cx} {os:List Nat} {c:Kv} {t:TT} {f:Ev->Option Bool} (h:SB X os c t f):SPF X os [c] t f:=⟨pf_one h.pt,h.ok⟩
section
variable {K:KC} {os:List Nat}
theorem yB {α:Type} {l r:List α} {i:Nat} {x:α} (h:l[i]?=some x):(l++r)[i]?=some x:=by
 rw [QM (Qs.mp h).1];exact h
theorem Md.extend {P9 H:Hp} {Ua:Kc->Prop} {σ:St} {ρ:Ev} (m:Md K P9 Ua os σ H ρ) (k:Nat) {D':Kc} (hn:H D'=none) :
  Md K P9 (fun b=>Ua b\/b=D') os (σ++List.replicate k none) (upd H D' (.lst [])) (ρ++List.replicate k none):=by
 have hs:zO H (upd H D' (.lst [])):=zB hn
 have osl:∀ i∈os,(σ++List.replicate k none)[i]?=σ[i]?:=fun i hi=>by
  obtain ⟨a,o,d,h1,_⟩:=m.own i hi
  rw [yB h1,h1]
 have nown:∀ i∈os,σ[i]?≠some (some (.ref D')):=fun i hi e=>by
  obtain ⟨a,o,d,h1,_,h3,_⟩:=m.own i hi
  rw [e] at h1;cases h1;rw [hn] at h3;cases h3
 have less:∀ b,Bl (fun b=>Ua b\/b=D') os (σ++List.replicate k none) b->Bl Ua os σ b\/b=D':=fun b z=>by
  rcases z with (z | z) | ⟨i,hi,e⟩
  ·exact .inl (.inl z)
  ·exact .inr z
  ·rw [osl i hi] at e;exact .inl (.inr ⟨i,hi,e⟩)
 have g:Goes H (upd H D' (.lst [])) (Bl Ua os σ) (Bl (fun b=>Ua b\/b=D') os (σ++List.replicate k none)):=by
  have g1:=Goes.fresh (B:=Bl Ua os σ) hn hs
  exact ⟨g1.tup,fun b xs q n=>⟨(g1.lst b xs q n).1,fun z=>(g1.lst b xs q n).2 (less b z)⟩,fun b xs q n=>⟨(g1.dct b xs q n).1,fun z=>(g1.dct b xs q n).2 (less b z)⟩,g1.frz,g1.tkt⟩
 refine ⟨m.grow.trans hs,fun a z=>?_,by rw [Qf,Qf,m.len];simp,fun i d q n=>?_,fun i hi=>?_,fun i j a h1 h2 e1 e2=>?_⟩
 ·rcases z with z | rfl
  ·obtain ⟨o,q⟩:=m.blk a z;exact ⟨o,hs _ _ q⟩
  ·exact ⟨_,zm⟩
 ·by_cases hl:i<ρ.length
  ·rw [QM hl] at q
   obtain ⟨v,h1,h2⟩:=m.sh i d q n
   exact ⟨v,yB h1,Rep.goes g _ _ h2⟩
  ·rw [QY (by omega),Pl] at q
   split at q <;> cases q
 ·obtain ⟨a,o,d,h1,h2,h3,h4,h5⟩:=m.own i hi
  exact ⟨a,o,d,by rw [osl i hi];exact h1,yB h2,hs _ _ h3,⟨h4.1,fun z=>z.elim h4.2 fun z=>nown i hi (z▸h1)⟩,h5.goes g⟩
 ·rw [osl i h1] at e1;rw [osl j h2] at e2
  exact m.sep i j a h1 h2 e1 e2
theorem fok_comp {s:Bool} {k:Nat} {wi:TI} {g:TG} {tc:TT} {te:TE} {fi:Ev->Option (List D)} {u:D->Ev->Option Ev} {c:Ev->Option Bool} {e:Ev->Option D} (hi:IOk K s os wi fi) (hg:GOk K os g u) (hc:TOk K os tc c) (he:EOk K true os te e) :
  FOk K os (wy k wi g tc te) (Zs k fi u c e):=fun P9 Ua σ H ρ d Q m q kk=>by
 obtain ⟨ds,h1,h2⟩:=ze q
 obtain ⟨es,h3,h4⟩:=ze h2
 unfold gk at h4
 split at h4
 case isFalse=>cases h4
 rename_i hsz
 cases h4
 refine hi P9 Ua σ H ρ ds _ m h1 fun J H1 ok s1 W up _ ok1=>?_
 intro D' hD
 have m1:=m.up s1
 have mE:=m1.extend k hD
 have ok2:ok (upd H1 D' (.lst [])) (fun b=>Bl Ua os σ b\/b=D'):=up D' hD _ _ _ _ (.fresh hD (zB hD)) (fun b o _ q=>zB hD _ _ q) ok1
 refine ⟨fun i mm ys σ' H'=>mm=ds.length - i/\i<=ds.length/\∃ ρ' done Zg,Md K P9 (fun b=>Ua b\/b=D') os σ' H' ρ'/\(∀ j∈os,σ'[j]?=(σ++List.replicate k none)[j]?)/\H' D'=some (.lst ys) /\
  ok H' (fun b=>Bl Ua os σ b\/b=D')/\zO H1 H'/\zr K H' (Bl (fun b=>Ua b\/b=D') os σ') done ys/\Yo u c e (ds.drop i) ρ'=some Zg/\es=done++Zg,⟨ds.length,by simp,Q5 _,_,[],es,mE,fun _ _=>rfl,zm,ok2,zB hD,.nil,by simpa using h3,rfl⟩,?_⟩
 rintro i mm ys σ' H' ⟨rfl,hile,ρ',done,Zg,mM,ag,hDl,okH,sm,rd,hcomp,hes⟩
 refine ⟨hDl,?_⟩
 have hH0:P9 D'=none:=(m.grow.trans s1).free hD
 have osl:∀ j∈os,σ'[j]?=σ[j]?:=fun j hj=>by
  rw [ag j hj]
  obtain ⟨a,o,d,q1,_⟩:=m.own j hj
  rw [yB q1,q1]
 have blE:∀ b,Bl (fun b=>Ua b\/b=D') os σ' b↔(Bl Ua os σ b\/b=D'):=fun b=>by
  constructor
  ·rintro ((z | z) | ⟨j,hj,q⟩)
   ·exact .inl (.inl z)
   ·exact .inr z
   ·rw [osl j hj] at q;exact .inl (.inr ⟨j,hj,q⟩)
  ·rintro ((z | ⟨j,hj,q⟩) | z)
   ·exact .inl (.inl z)
   ·exact .inr ⟨j,hj,by rw [osl j hj];exact q⟩
   ·exact .inl (.inr z)
 have blF:Bl (fun b=>Ua b\/b=D') os σ'=fun b=>Bl Ua os σ b\/b=D':=funext fun b=>propext (blE b)
 by_cases hlt:i<ds.length
 ·right
  have hd:ds[i]?=some ds[i]:=by simp [hlt]
  refine ⟨W.go _ _ i _ okH hd,fun x H2 y=>?_⟩
  obtain ⟨s2,rx⟩:=W.yld _ _ i _ x H2 okH hd y
  rw [Ph hlt] at hcomp
  simp only [Yo] at hcomp
  obtain ⟨ρ1,q1,q2⟩:=ze hcomp
  obtain ⟨bb,q3,q4⟩:=ze q2
  have mM2:=mM.up s2
  have rx':Rep K H2 (Bl (fun b=>Ua b\/b=D') os σ') ds[i] x:=by rw [blF];exact rx
  have okUp:∀ Hb,zO H' Hb->ok Hb (fun b=>Bl Ua os σ b\/b=D'):=fun Hb sb=>up D' hD _ _ _ _ (.same sb) (fun b o _ q=>sb _ _ q) okH
  refine hg P9 _ σ' H2 ρ' ρ1 ds[i] x _ mM2 rx' q1 fun σ3 l3 a3 m3=>?_
  refine hc P9 _ σ3 H2 ρ1 bb _ m3 q3 fun H4 s4=>?_
  have m4:=m3.up s4
  cases bb with
  | true =>
   rw [KQ rfl] at q4 ⊢
   obtain ⟨z,q5,q6⟩:=ze q4
   obtain ⟨rest',q7,rfl⟩:=map_some q6
   refine he P9 _ σ3 H4 ρ1 z _ m4 q5 fun v H5 s5 r5=>?_
   have m5:=m4.up s5
   have hDl5:H5 D'=some (.lst ys):=s5 _ _ (s4 _ _ (s2 _ _ hDl))
   have hlen:ys.length=done.length:=rd.length
   have hlt':ys.length<Kg:=by
    rw [hes] at hsz
    simp only [Qf,Qg] at hsz
    omega
   have ble:Bl (fun b=>Ua b\/b=D') os σ3=Bl (fun b=>Ua b\/b=D') os σ':=bl_eq a3
   have g6:Goes H5 (upd H5 D' (.lst (ys++[v]))) (Bl (fun b=>Ua b\/b=D') os σ3) (Bl (fun b=>Ua b\/b=D') os σ3):=.write (.inl (.inr rfl)) hDl5 trivial
   refine ⟨hDl5,hlt',ds.length - (i+1),by omega,rfl,hlt,ρ1,done++[z],rest',m5.upB (.inr rfl) hH0 hDl5 trivial,fun j hj=>(a3 j hj).trans (ag j hj),zm,?_,?_,?_,q7,?_⟩
   ·have g7:Goes H5 (upd H5 D' (.lst (ys++[v]))) (fun b=>Bl Ua os σ b\/b=D') (fun b=>Bl Ua os σ b\/b=D'):=.write (.inr rfl) hDl5 trivial
    exact up D' hD _ _ _ _ g7 (fun b o hb q=>by rw [zh hb];exact q) (okUp H5 ((s2.trans s4).trans s5))
   ·intro b o q
    by_cases hb:b=D'
    ·subst hb;rw [hD] at q;cases q
    ·rw [zh hb];exact s5 _ _ (s4 _ _ (s2 _ _ (sm _ _ q)))
   ·refine zr.goes g6 _ _ (zr.append ?_ (.one r5))
    rw [ble]
    exact rd.up ((s2.trans s4).trans s5)
   ·rw [hes];simp
  | false =>
   rw [KR Qh] at q4 ⊢
   refine ⟨ds.length - (i+1),by omega,rfl,hlt,ρ1,done,Zg,m4,fun j hj=>(a3 j hj).trans (ag j hj),s4 _ _ (s2 _ _ hDl),okUp H4 (s2.trans s4),sm.trans (s2.trans s4),?_,q4,hes⟩
   rw [bl_eq a3]
   exact rd.up (s2.trans s4)
 ·left
  have hi':i=ds.length:=by omega
  subst hi'
  refine ⟨W.stop _ _ _ okH (Ql _),?_⟩
  rw [Pf] at hcomp
  cases hcomp
  rw [QT] at hes
  subst hes
  refine kk D' _ H' (s1.trans sm) (s1.free hD) hDl ?_
  simp only [Own]
  refine zr.goes ⟨fun _ _ q=>q,fun b xs q n=>⟨q,fun z=>n ((blE b).mpr z)⟩,fun b xs q n=>⟨q,fun z=>n ((blE b).mpr z)⟩,fun _ _ _ q=>q,fun _ _ q=>q⟩ _ _ rd
end
inductive Out where
 | nx (ρ:Ev) | rt (d:D) | bk (ρ:Ev) | ct (ρ:Ev)
def FR (K:KC) (H H':Hp) (B:Kc->Prop) (d:D) (v:V):Prop :=
 (∃ a o,v=.ref a/\H a=none/\H' a=some o/\Own K H' (fun b=>B b\/b=a) o d)\/(d.flat=true/\Rep K H' B d v) \/
 ∃ (b:Kc) (x:Kw) (as:List Kc),v=.ref b/\d=.tup (.str x::as.map fun _=>.lst [])/\as.Nodup/\(∀ a∈as,H a=none/\H' a=some (.lst []))/\H' b=some (.tup (.str x::as.map V.ref))
theorem JJ {K:KC} {H H':Hp} {B:Kc->Prop} (hB:∀ a,B a->∃ o,H a=some o):∀ {as:List Kc},(∀ a∈as,H a=none/\H' a=some (.lst []))->zr K H' B (as.map fun _=>D.lst []) (as.map V.ref)
 | [],_=>.nil
 | a::as,h=>.cons (by
   obtain ⟨h1,h2⟩:=h a Qj
   simp only [Rep]
   exact ⟨a,[],rfl,⟨.inl h2,fun z=>by obtain ⟨o,q⟩:=hB a z;rw [h1] at q;cases q⟩,.nil⟩) (JJ hB fun x hx=>h x (Qc _ hx))
theorem FR.back {K:KC} {P9 H H':Hp} {B:Kc->Prop} {d:D} {v:V} (hs:zO P9 H) (h:FR K H H' B d v):FR K P9 H' B d v:=by
 rcases h with ⟨a,o,e,hn,q⟩ | q | ⟨b,x,as,h1,h2,h3,h4,h5⟩
 ·exact .inl ⟨a,o,e,hs.free hn,q⟩
 ·exact .inr (.inl q)
 ·exact .inr (.inr ⟨b,x,as,h1,h2,h3,fun a ha=>⟨hs.free (h4 a ha).1,(h4 a ha).2⟩,h5⟩)
def RtOk (K:KC) (fr:Bool) (P9 H:Hp) (Ua:Kc->Prop) (d:D) (v:V):Prop:=match fr with
 | true=>FR K P9 H Ua d v
 | false=>Rep K H Ua d v
def EndOk (K:KC) (fr:Bool) (P9:Hp) (Ua:Kc->Prop) (os' ol:List Nat) (E:Ends):Out->Prop
 | .nx ρ=>∀ σ H,Md K P9 Ua os' σ H ρ->E.nx σ H
 | .rt d=>∀ v H,zO P9 H->(∀ a,Ua a->∃ o,H a=some o)->RtOk K fr P9 H Ua d v->E.rt v H
 | .bk ρ=>∀ σ H,Md K P9 Ua ol σ H ρ->E.bk σ H
 | .ct ρ=>∀ σ H,Md K P9 Ua ol σ H ρ->E.ct σ H
def SOk (K:KC) (fr:Bool) (os os' ol:List Nat) (t:TS) (m:Ev->Option Out):Prop :=
 ∀ (P9:Hp) (Ua:Kc->Prop) (σ:St) (H:Hp) (ρ:Ev) (o:Out) (E:Ends),Md K P9 Ua os σ H ρ->m ρ=some o->EndOk K fr P9 Ua os' ol E o->t E σ H
structure SS (X:Cx) (fr:Bool) (os os' ol:List Nat) (st:Kx) (t:TS) (m:Ev->Option Out):Prop where
 ps:PS X st t
 ok:SOk X.K fr os os' ol t m
structure SSs (X:Cx) (fr:Bool) (os os' ol:List Nat) (st:List Kx) (t:TS) (m:Ev->Option Out):Prop where
 ps:PSs X st t
 ok:SOk X.K fr os os' ol t m
def zV:Ev->Option Out:=fun ρ=>some (.nx ρ)
def zE (m1 m2:Ev->Option Out):Ev->Option Out:=fun ρ=>(m1 ρ).bind fun o=>match o with
 | .nx ρ'=>m2 ρ'
 | o=>some o
def zR (f:Ev->Option D):Ev->Option Out:=fun ρ=>(f ρ).map .rt
def mRetN:Ev->Option Out:=fun _=>some (.rt .non)
def Zj (i:Nat) (f:Ev->Option D):Ev->Option Out:=fun ρ=>(f ρ).map fun d=>.nx (ρ.set i (some d))
def mNew (i:Nat) (f:Ev->Option D):Ev->Option Out:=fun ρ=>(f ρ).bind fun d=>if i<ρ.length then some (.nx (ρ.set i (some d))) else none
def mAsg (u:D->Ev->Option Ev) (f:Ev->Option D):Ev->Option Out:=fun ρ=>(f ρ).bind fun d=>(u d ρ).map .nx
def mIf (c:Ev->Option Bool) (m1 m2:Ev->Option Out):Ev->Option Out:=fun ρ=>(c ρ).bind fun b=>if b then m1 ρ else m2 ρ
def mDrop (f:Ev->Option D):Ev->Option Out:=fun ρ=>(f ρ).map fun _=>.nx ρ
def mUpd (i:Nat) (g:List D->D->Option (List D)) (f:Ev->Option D):Ev->Option Out:=fun ρ=>(f ρ).bind fun d=>(ρ[i]?.join).bind fun x=>(asL x).bind fun ds=>(g ds d).map fun ds'=>.nx (ρ.set i (some (.lst ds')))
def yA (ds:List D) (d:D):Option (List D):=if ds.length<Kg then some (ds++[d]) else none
def mSetIx (i:Nat) (f fi:Ev->Option D):Ev->Option Out:=fun ρ=>(f ρ).bind fun d=>(ρ[i]?.join).bind fun x=>(asL x).bind fun ds=>(fi ρ).bind fun k=>(asI k).bind fun k=>(ixN ds.length k).map fun j=>.nx (ρ.set i (some (.lst (ds.set j d))))
def YB (u:D->Ev->Option Ev) (b:Ev->Option Out):List D->Ev->Option Out
 | [],ρ=>some (.nx ρ)
 | d::ds,ρ=>(u d ρ).bind fun ρ1=>(b ρ1).bind fun o=>match o with
  | .nx ρ2=>YB u b ds ρ2
  | .ct ρ2=>YB u b ds ρ2
  | .bk ρ2=>some (.nx ρ2)
  | .rt d=>some (.rt d)
def mFor (fi:Ev->Option (List D)) (u:D->Ev->Option Ev) (b:Ev->Option Out):Ev->Option Out:=fun ρ=>(fi ρ).bind fun ds=>YB u b ds ρ
section
variable {X:Cx} {fr:Bool} {os o1 os' os2 ol:List Nat} {st:Kx} {Zg sts sts2:List Kx} {t u:TS} {m m1 m2:Ev->Option Out} {e a tg:Kv} {te ta:TE} {f fa:Ev->Option D} {pos:KB}
theorem zM:SSs X fr os os ol [] Ww zV:=⟨JM,fun P9 Ua σ H ρ o E m q k=>by cases q;exact k σ H m⟩
theorem zt (h:SS X fr os os' ol st t m):SSs X fr os os' ol [st] t m:=⟨Zf h.ps,h.ok⟩
theorem SOk.seq {K:KC} (h1:SOk K fr os o1 ol t m1) (h2:SOk K fr o1 os' ol u m2):SOk K fr os os' ol (Z8 t u) (zE m1 m2):=fun P9 Ua σ H ρ o E m q k=>by
 obtain ⟨o',q1,q2⟩:=ze q
 refine h1 P9 Ua σ H ρ o' _ m q1 ?_
 cases o' with
 | nx ρ'=>exact fun σ' H' m'=>h2 P9 Ua σ' H' ρ' o E m' q2 k
 | rt d=>cases q2;exact k
 | bk ρ'=>cases q2;exact k
 | ct ρ'=>cases q2;exact k
theorem zl (h1:SS X fr os o1 ol st t m1) (h2:SSs X fr o1 os' ol Zg u m2):SSs X fr os os' ol (st::Zg) (Z8 t u) (zE m1 m2):=⟨zJ h1.ps h2.ps,SOk.seq h1.ok h2.ok⟩
theorem zF (h:SE X false os e te f):SS X false os os' ol (.Return (some e) pos) (tRet te) (zR f):=⟨J9 h.pe,fun P9 Ua σ H ρ o E mm q k=>by
 obtain ⟨d,h1,rfl⟩:=map_some q
 exact h.ok P9 Ua σ H ρ d _ mm h1 fun v H' s r=>k v H' ((mm.up s).grow) (mm.up s).blk r⟩
theorem jP (h:SE X false os e te f):SS X true os os' ol (.Return (some e) pos) (tRet te) (zR (yw f)):=⟨J9 h.pe,fun P9 Ua σ H ρ o E mm q k=>by
 obtain ⟨d,h1,rfl⟩:=map_some q
 obtain ⟨x,h2,h3⟩:=ze h1
 split at h3
 ·rename_i hf
  cases h3
  exact h.ok P9 Ua σ H ρ _ _ mm h2 fun v H' s r=>k v H' ((mm.up s).grow) (mm.up s).blk (.inr (.inl ⟨hf,r⟩))
 ·cases h3⟩
structure SR (X:Cx) (st:Bool) (os:List Nat) (e:Kv) (t:TE) (f:Ev->Option D):Prop where
 pe:PE X e t
 ok:∀ (P9:Hp) (Ua:Kc->Prop) (σ:St) (H:Hp) (ρ:Ev) (d:D) (Q:VK),Md X.K P9 Ua os σ H ρ->f ρ=some d->(∀ v H',zO H H'->FR X.K H H' (BB st Ua os σ) d v->Q v H')->t σ H Q
def isLs:D->Bool
 | .lst _=>true
 | .dict _ _=>true
 | _=>false
def wj:D->Bool
 | .lst ds=>Yi ds
 | .dict _ ds=>Yi ds
 | _=>false
def mNewR (i:Nat) (f:Ev->Option D):Ev->Option Out:=fun ρ=>(f ρ).bind fun d=>if i<ρ.length/\isLs d=true then some (.nx (ρ.set i (some d))) else none
def mNewRW (i:Nat) (f:Ev->Option D):Ev->Option Out:=fun ρ=>(f ρ).bind fun d=>if i<ρ.length/\wj d=true then some (.nx (ρ.set i (some d))) else none
theorem SOk.set {K:KC} {i:Nat} (h:EOk K true os te f) (hs:∀ j∈os',j∈os/\j≠i) (hs2:∀ j∈os,j∈os'\/j=i):SOk K fr os os' ol (yQ te (ZA i)) (Zj i f):=fun P9 Ua σ H ρ o E mm q k=>by
 obtain ⟨d,h1,rfl⟩:=map_some q
 exact h P9 Ua σ H ρ d _ mm h1 fun v H' s r=>k _ H' ((mm.up s).put hs hs2 r)
theorem zY {i:Nat} {x:Kw} {pos':KB} (hN:X.N.Nodup) (hi:X.N[i]?=some x) (hx:Loc X.env.scope x) (h:SE X true os e te f) (hs:∀ j∈os',j∈os/\j≠i:=by decide) (hs2:∀ j∈os,j∈os'\/j=i:=by decide)
  (hsw:Kt e (some (.Name x pos')) pos.line X.env=pure false:=by rfl) (hf:X.fn x=true\/X.env.scope.names.lookup x=some .local:=by first | exact .inl rfl | exact .inr rfl | assumption) :
  SS X fr os os' ol (.Assign [.Name x pos'] e pos) (yQ te (ZA i)) (Zj i f):=⟨yY hN hi hx h.pe hsw hf,SOk.set h.ok hs hs2⟩
theorem SOk.new {K:KC} {i:Nat} (h:FOk K os te f) (hs:∀ j∈os',j=i\/(j∈os/\j≠i)) (hs2:∀ j∈os,j∈os'\/j=i) (hm:i∈os'):SOk K fr os os' ol (yQ te (ZA i)) (mNew i f):=fun P9 Ua σ H ρ o E mm q k=>by
 obtain ⟨d,h1,h2⟩:=ze q
 split at h2
 ·rename_i hi
  cases h2
  exact h P9 Ua σ H ρ d _ mm h1 fun a u H' s hn ho hw=>k _ H' (mm.putNew hi hs hs2 hm s hn ho hw)
 ·cases h2
theorem WC {i:Nat} {x:Kw} {pos':KB} (hN:X.N.Nodup) (hi:X.N[i]?=some x) (hx:Loc X.env.scope x) (h:SF X os e te f) (hs:∀ j∈os',j=i\/(j∈os/\j≠i):=by decide) (hs2:∀ j∈os,j∈os'\/j=i:=by decide) (hm:i∈os':=by decide)
  (hsw:Kt e (some (.Name x pos')) pos.line X.env=pure false:=by rfl) (hf:X.fn x=true\/X.env.scope.names.lookup x=some .local:=by first | exact .inl rfl | exact .inr rfl | assumption) :
  SS X fr os os' ol (.Assign [.Name x pos'] e pos) (yQ te (ZA i)) (mNew i f):=⟨yY hN hi hx h.pe hsw hf,SOk.new h.ok hs hs2 hm⟩
theorem FOk.eok {K:KC} {b:Bool} (h:FOk K os te f):EOk K b os te f:=fun P9 Ua σ H ρ d Q m q k=>h P9 Ua σ H ρ d Q m q fun a o H' s hn ho hw=>k _ _ s (Rep.bb (hw.rep ho (m.ntracked hn)))
theorem ss_setC {i:Nat} (hp:PS X st (yQ te (ZA i))) (h:FOk X.K os te f) (hs:∀ j∈os',j∈os/\j≠i:=by decide) (hs2:∀ j∈os,j∈os'\/j=i:=by decide):SS X fr os os' ol st (yQ te (ZA i)) (Zj i f):=⟨hp,SOk.set h.eok hs hs2⟩
theorem ss_asg {g:TG} {u:D->Ev->Option Ev} (h:SE X true os e te f) (hg:SG X os tg g u) (hs:swapsWithSole [tg] e pos.line X.env=pure false:=by rfl) (hw:swappedStores [tg] e X.env=pure none:=by rfl)
  (h1:(assignEach [tg] X.env).map (·.2)=[assign tg X.env]:=by rfl):SS X fr os os ol (.Assign [tg] e pos) (yQ te g) (mAsg u f):=⟨ps_asg h.pe hg.pg hs hw h1,fun P9 Ua σ H ρ o E mm q k=>by
 obtain ⟨d,h1,h2⟩:=ze q
 obtain ⟨ρ',h3,rfl⟩:=map_some h2
 exact h.ok P9 Ua σ H ρ d _ mm h1 fun v H' s r=>hg.ok P9 Ua σ H' ρ ρ' d v _ (mm.up s) r h3 fun σ' _ _ m'=>k σ' H' m'⟩
theorem Yh {α:Type} {ρ:List (Option α)} {i:Nat} {d:α} (q:ρ[i]?.join=some d):ρ[i]?=some (some d):=by
 cases z:ρ[i]? with
 | none=>rw [z] at q;cases q
 | some o=>rw [z] at q;cases o <;> simp at q;rw [q]
theorem pe_append {i:Nat} {x:Kw} {p apos cpos:KB} (he:PE X e te) (hN:X.N[i]?=some x:=by rfl) (hv:Vis X.env.scope x:=by first | exact Or.inl rfl | exact Or.inr (Or.inl rfl) | exact Or.inr (Or.inr rfl)) (hd:(x == ("__debug__":Kw))=false:=by decide)
  (hcd:(x == ("__classdict__":Kw))=false:=by decide) (hs1:Ke [e] X.env=(false,Kz e X.env)::Ke [] X.env:=by rfl)
  (hbase:Kp (.Name x p) "append" X.env (Kz (.Name x p) X.env)=Kz (.Name x p) X.env:=by rfl)
  (hfew:((Kq cpos (Ke [e] X.env)).all (fun x=>!x.1)&&(Kr cpos (Ks [] X.env)).all (fun x=>x.1.isSome)
   && decide ([e].length+([]:List Keyword).length+(if ([]:List Keyword).isEmpty then 0 else 1)<30))=true:=by rfl)
  (hline:(apos.endLine == cpos.line)=true:=by rfl) (hplain:(Kq cpos (Ke [] X.env)).any (·.1)=false:=by rfl):PE X (.Call (.Attribute (.Name x p) "append" apos) [e] [] cpos) (tBM X.K "list" yk (Zn i) (zD te zW)) :=
 Yz KI PySem.F.slot_list_append PySem.F.type_list_append Z5 (pv i hN hv hd hcd) (zv he zz hs1) hbase hfew hline hs1 hplain
theorem ss_append {i:Nat} {x:Kw} {p apos:KB} (h:SE X true os e te f) (ho:i∈os:=by decide) (hN:X.N[i]?=some x:=by rfl) (hv:Vis X.env.scope x:=by first | exact Or.inl rfl | exact Or.inr (Or.inl rfl) | exact Or.inr (Or.inr rfl)) (hd:(x == ("__debug__":Kw))=false:=by decide)
  (hcd:(x == ("__classdict__":Kw))=false:=by decide) {cpos:KB} (hs1:Ke [e] X.env=(false,Kz e X.env)::Ke [] X.env:=by rfl)
  (hbase:Kp (.Name x p) "append" X.env (Kz (.Name x p) X.env)=Kz (.Name x p) X.env:=by rfl)
  (hfew:((Kq cpos (Ke [e] X.env)).all (fun x=>!x.1)&&(Kr cpos (Ks [] X.env)).all (fun x=>x.1.isSome)
   && decide ([e].length+([]:List Keyword).length+(if ([]:List Keyword).isEmpty then 0 else 1)<30))=true:=by rfl)
  (hline:(apos.endLine == cpos.line)=true:=by rfl) (hplain:(Kq cpos (Ke [] X.env)).any (·.1)=false:=by rfl) (hs:Kt (.Call (.Attribute (.Name x p) "append" apos) [e] [] cpos) none pos.line X.env=pure false:=by rfl) :
  SS X fr os os ol (.Expr (.Call (.Attribute (.Name x p) "append" apos) [e] [] cpos) pos) (ym (tBM X.K "list" yk (Zn i) (zD te zW))) (mUpd i yA f):=⟨zX (pe_append h.pe hN hv hd hcd hs1 hbase hfew hline hplain) hs,fun P9 Ua σ H ρ o E mm q k=>by
 obtain ⟨d,h1,h2⟩:=ze q
 obtain ⟨y,h3,h4⟩:=ze h2
 obtain ⟨ds,h5,h6⟩:=ze h4
 obtain ⟨ds',h7,rfl⟩:=map_some h6
 unfold yA at h7
 split at h7
 case isFalse=>cases h7
 rename_i hl
 cases h7
 cases y <;> simp only [asL] at h5 <;> cases h5
 obtain ⟨a,ob,d',q1,q2,q3,q4,q5⟩:=mm.own i ho
 have h3':=Yh h3
 rw [h3'] at q2;cases q2
 cases ob <;> simp only [Own] at q5
 refine ⟨.ref a,q1,.inl ⟨rfl,_,.inl (.inl q3)⟩,?_⟩
 refine h.ok P9 Ua σ H ρ d _ mm h1 fun v H' s r=>?_
 have m':=mm.up s
 have q5':=zr.up s q5
 refine ⟨a,_,v,rfl,rfl,s _ _ q3,by rw [q5.length];exact hl,k σ _ ?_⟩
 exact m'.write ho q1 (o:=.lst _) (d:=.lst _) (by simp only [Own];exact q5'.append (.one r))⟩
theorem Zm {c:Kv} {a b:List Kx} {tc:TT} {g:Ev->Option Bool} (hc:SB X os c tc g) (ha:SSs X fr os os' ol a t m1) (hb:SSs X fr os os' ol b u m2):SS X fr os os' ol (.If c a b pos) (JE tc t u) (mIf g m1 m2):=⟨jU hc.pt ha.ps hb.ps,fun P9 Ua σ H ρ o E mm q k=>by
 obtain ⟨d,h1,h2⟩:=ze q
 refine hc.ok P9 Ua σ H ρ d _ mm h1 fun H' s=>?_
 cases d with
 | true=>rw [KQ rfl] at h2 ⊢;exact ha.ok P9 Ua σ H' ρ o E (mm.up s) h2 k
 | false=>rw [KR Qh] at h2 ⊢;exact hb.ok P9 Ua σ H' ρ o E (mm.up s) h2 k⟩
theorem EndOk.shallow {K:KC} {fr:Bool} {P9 H₁:Hp} {Ua:Kc->Prop} {os' ol:List Nat} {E:Ends} {o:Out} (hs:zO P9 H₁) (h:EndOk K fr P9 Ua os' ol E o):EndOk K fr H₁ Ua os' ol E o:=by
 cases o with
 | nx ρ=>exact fun σ H m=>h σ H (m.shallow hs)
 | rt d=>exact fun v H s b r=>h v H (hs.trans s) b (by
   cases fr with
   | false=>exact r
   | true =>
    exact FR.back hs r)
 | bk ρ=>exact fun σ H m=>h σ H (m.shallow hs)
 | ct ρ=>exact fun σ H m=>h σ H (m.shallow hs)
theorem Jq {iter:Kv} {body:List Kx} {wi:TI} {g:TG} {tb:TS} {fi:Ev->Option (List D)} {ug:D->Ev->Option Ev} (hc:X.calm=true) (hi:SI X true os tg iter wi fi) (hg:SG X os tg g ug) (hb:SSs X fr os os os body tb m)
  (hp:PassesOwn (Ky X.prog X.w) X.A X.env X.xe:=by exact PassesOwn.never) (hs:∀ x,foldedSetIterable iter X.env x=pure x:=by intro _;rfl):SS X fr os os ol (.For tg iter body [] pos) (tFor wi g tb) (mFor fi ug m):=⟨ps_for hp hc hi.pi hg.pg hb.ps hs,fun P9 Ua σ H ρ o E mm q k=>by
 obtain ⟨ds,h1,h2⟩:=ze q
 refine hi.ok P9 Ua σ H ρ ds _ mm h1 fun J H1 ok s1 W up mv ok1=>?_
 have m1:=mm.up s1
 have mD:=m1.deep
 have okB:=mv rfl _ _ _ _ m1.goDown ok1
 have k':=k.shallow m1.sub
 refine ⟨fun i n σ' H'=>n=ds.length - i/\i<=ds.length/\∃ ρ',Md X.K (jM H1 os σ) Ua os σ' H' ρ'/\YB ug m (ds.drop i) ρ'=some o,⟨ds.length,by simp,Q5 _,ρ,mD,by simpa using h2⟩,?_⟩
 rintro i n σ' H' ⟨rfl,hile,ρ',mM,hf⟩
 have okN:=mv rfl _ _ _ _ mM.goUp okB
 by_cases hlt:i<ds.length
 ·right
  have hd:ds[i]?=some ds[i]:=by simp [hlt]
  rw [Ph hlt] at hf
  simp only [YB] at hf
  obtain ⟨ρ1,q1,q2⟩:=ze hf
  obtain ⟨o',q3,q4⟩:=ze q2
  refine ⟨W.go _ _ i _ okN hd,fun σ2 H2=>∃ ρ2,Md X.K (jM H1 os σ) Ua os σ2 H2 ρ2/\YB ug m (ds.drop (i+1)) ρ2=some o,fun σ2 H2 ⟨ρ2,m2,f2⟩=>⟨ds.length - (i+1),by omega,rfl,hlt,ρ2,m2,f2⟩,fun x H2 y=>?_⟩
  obtain ⟨s2,rx⟩:=W.yld _ _ i _ x H2 okN hd y
  refine hg.ok _ Ua σ' H2 ρ' ρ1 ds[i] x _ (mM.up s2) rx q1 fun σ3 l3 a3 m3=>?_
  refine hb.ok _ Ua σ3 H2 ρ1 o' _ m3 q3 ?_
  cases o' with
  | nx ρ2=>exact fun σ4 H4 m4=>⟨ρ2,m4,q4⟩
  | ct ρ2=>exact fun σ4 H4 m4=>⟨ρ2,m4,q4⟩
  | bk ρ2=>cases q4;exact fun σ4 H4 m4=>k' σ4 H4 m4
  | rt d=>cases q4;exact k'
 ·left
  have hi':i=ds.length:=by omega
  subst hi'
  rw [Pf] at hf
  cases hf
  exact ⟨W.stop _ _ _ okN (Ql _),k' σ' H' mM⟩⟩
end
def Zd (n:Nat) (ds:List D):Ev:=ds.map some++List.replicate (n - ds.length) none
def outD:Out->Option D
 | .nx _=>some .non
 | .rt d=>some d
 | _=>none
def ZE (k n:Nat) (m:Ev->Option Out):List D->Option D:=fun ds=>if ds.length=k then (m (Zd n ds)).bind outD else none
section
variable {P:Ki} {w:Kk} {K:KC} {mg:Kw->Option Ka} {base:Kl}
theorem JT {H:Hp} {B:Kc->Prop} {N:List Kw} {ds:List D} {vs:List V} (hB:∀ a,B a->∃ o,H a=some o) (r:zr K H B ds vs):Md K H B [] (L2.yJ N vs) H (Zd N.length ds):=by
 have hl:=r.length
 refine ⟨.refl H,hB,by simp [L2.yJ,Zd,hl],fun i d q _=>?_,fun i hi=>(nomatch hi),fun i j a hi=>(nomatch hi)⟩
 have hb:Bl B [] (L2.yJ N vs)=B:=by funext a;unfold Bl;apply propext;exact ⟨fun z=>z.elim id fun ⟨i,hi,_⟩=>(nomatch hi),.inl⟩
 rw [hb]
 unfold Zd at q
 unfold L2.yJ
 by_cases hi:i<ds.length
 ·rw [QM (by simpa using hi),QO] at q
  obtain ⟨v,h1,h2⟩:=r.get (i:=i) (d:=ds[i]) (by simp [hi])
  have:d=ds[i]:=by simp [hi] at q;exact q.symm
  subst this
  exact ⟨v,by rw [QM (by simp;omega),QO,h1];rfl,h2⟩
 ·rw [QY (by simp;omega),Pl] at q
  split at q <;> cases q
def spF (K:KC) (m:List D->Option D):Sp:=fun vs H Q _=>∃ (B:Kc->Prop) (ds:List D) (d:D),(∀ a,B a->∃ o,H a=some o)/\zr K H B ds vs/\m ds=some d/\∀ v H',zO H H'->FR K H H' B d v->Q v H'
theorem fn_ok {x qual:Kw} {st:Kx} {f:Kc} {fd:Kh} {N ps:List Kw} {k:Nat} {m:Ev->Option Out} (F:Fun K x qual st f fd) (S:FnScope N ps (zT st))
  (hbody:∀ (cdv:Ka) (A:Kj) (outer:List Env) (s:Kb) (H:Hp) (E:XK),Room k (A.deeper (PyProof.Rows.envOfC qual (zT st) s.heap.objs.size f cdv)) ->
   ∃ t os',SSs (cxOf CX0 P w K mg base N qual (zT st) f cdv A outer s H E).nox false [] os' [] (ZJ st) t m):FnOk P w K mg base CX0 (k+1) f fd ps (spM K (ZE ps.length N.length m)):=by
 refine F.ok S (fun vs H Q E h=>?_) (fun cdv A outer s H vs Q E hr h=>?_)
 ·obtain ⟨B,ds,d,hB,r,q,_⟩:=h
  unfold ZE at q
  split at q
  ·rw [r.length];assumption
  ·cases q
 ·obtain ⟨B,ds,d,hB,r,q,kk⟩:=h
  unfold ZE at q
  split at q
  case isFalse=>cases q
  obtain ⟨o,q1,q2⟩:=ze q
  obtain ⟨t,os',hS⟩:=hbody cdv A outer s H E hr
  refine ⟨t,hS.ps,hS.ok H B (L2.yJ N vs) H (Zd N.length ds) o _ (JT hB r) q1 ?_⟩
  cases o with
  | nx ρ=>simp only [outD] at q2;cases q2;exact fun σ' H' m'=>kk _ H' m'.grow (by simp [Rep])
  | rt d'=>simp only [outD] at q2;cases q2;exact fun v H' s _ r'=>kk v H' s r'
  | bk ρ=>cases q2
  | ct ρ=>cases q2
theorem fn_okF {x qual:Kw} {st:Kx} {f:Kc} {fd:Kh} {N ps:List Kw} {k:Nat} {m:Ev->Option Out} (F:Fun K x qual st f fd) (S:FnScope N ps (zT st))
  (hbody:∀ (cdv:Ka) (A:Kj) (outer:List Env) (s:Kb) (H:Hp) (E:XK),Room k (A.deeper (PyProof.Rows.envOfC qual (zT st) s.heap.objs.size f cdv)) ->
   ∃ t os',SSs (cxOf CX0 P w K mg base N qual (zT st) f cdv A outer s H E).nox true [] os' [] (ZJ st) t m):FnOk P w K mg base CX0 (k+1) f fd ps (spF K (ZE ps.length N.length m)):=by
 refine F.ok S (fun vs H Q E h=>?_) (fun cdv A outer s H vs Q E hr h=>?_)
 ·obtain ⟨B,ds,d,hB,r,q,_⟩:=h
  unfold ZE at q
  split at q
  ·rw [r.length];assumption
  ·cases q
 ·obtain ⟨B,ds,d,hB,r,q,kk⟩:=h
  unfold ZE at q
  split at q
  case isFalse=>cases q
  obtain ⟨o,q1,q2⟩:=ze q
  obtain ⟨t,os',hS⟩:=hbody cdv A outer s H E hr
  refine ⟨t,hS.ps,hS.ok H B (L2.yJ N vs) H (Zd N.length ds) o _ (JT hB r) q1 ?_⟩
  cases o with
  | nx ρ=>simp only [outD] at q2;cases q2;exact fun σ' H' m'=>kk _ H' m'.grow (.inr (.inl ⟨rfl,by simp [Rep]⟩))
  | rt d'=>simp only [outD] at q2;cases q2;exact fun v H' s _ r'=>kk v H' s r'
  | bk ρ=>cases q2
  | ct ρ=>cases q2
theorem sr_call {X:Cx} {st:Bool} {os:List Nat} {e:Kv} {es:List Kv} {tl:TA} {fl:Ev->Option (List D)} {pos p:KB} {x:Kw} {k:Nat} {fn:Kc} {fd:Kh} {ps:List Kw} {m:List D->Option D} (F:FnOk X.prog X.w X.K X.mg X.base CX0 k fn fd ps (spF X.K m)) (hr:Room k X.A) (hg:Gl X x) (hm:X.mg x=some (.ref fn)) (hk:keepIn X.K (.ref fn)=true) (hb:YQ X.K fd ps [])
  (ha:SA X st os (e::es) tl fl) (hdb:(x == ("__debug__":Kw))=false:=by decide) (he:Ke (e::es) X.env=(false,Kz e X.env)::Ke es X.env:=by rfl) (hpl:(Kq pos (Ke es X.env)).any (·.1)=false:=by rfl) :
  SR X st os (.Call (.Name x p) (e::es) [] pos) (wz (spF X.K m) [] E0 tl) (fA m fl):=⟨Wk F hr hg hm hk hb .nil WU ha.pa hdb he hpl,fun P9 Ua σ H ρ d Q M q kk=>by
 obtain ⟨ds,h1,h2⟩:=ze q
 refine ha.ok P9 Ua σ H ρ ds _ M h1 fun vs H1 s1 r1=>?_
 refine ⟨BB st Ua os σ,ds,d,(M.up s1).bb st,by rw [QT];exact r1,h2,fun v H' s2 r2=>kk v H' (s1.trans s2) (r2.back s1)⟩⟩
end
end M
namespace L2
open PySem PySem.Spec PyProof.Rows
section
variable {prog:Ki} {w:Kk} {A:Kj} {E:Ka->Kb->Prop} {s:Kb}
end
section
variable {X:Cx} {pos:KB}
end
end L2
namespace M
open PySem PySem.Spec L2
open PySem.W (Frag)
section
variable {X:Cx} {os:List Nat} {pos:KB}
theorem ww {X:Cx} {scope:Scope} {own N':List Kw} {k:Nat} (h:(decide (scope.kind=.function)&&scope.names.all (fun y=>(!(y.2 == .local)||scope.names.lookup y.1 == some .local)&&(!(y.2 == .cell)||scope.names.lookup y.1 == some .cell) &&
  (!(y.2 == .free)||((X.env.scope.names.lookup y.1 == some .cell||X.env.scope.names.lookup y.1 == some .free)&&!own.contains y.1)))&&decide (N'.length=X.N.length+k) &&
  (List.range X.N.length).all (fun i=>match N'[i]? with | some x=>scope.names.lookup x == none||(X.N[i]? == some x&&scope.names.lookup x == some .free) | none=>true))=true):CompOk X scope own N' k:=by
 simp only [QC,Q8,decide_eq_true_eq,Bool.or_eq_true,Pp,beq_iff_eq,PX] at h
 obtain ⟨⟨⟨h1,h2⟩,h3⟩,h4⟩:=h
 refine ⟨h1,fun y hy e=>?_,fun y hy e=>?_,fun y hy e=>?_,fun y hy e=>?_,h3,fun i x hi e=>?_⟩
 ·rcases (h2 y hy).1.1 with z | z
  ·rw [e] at z;simp at z
  ·exact z
 ·rcases (h2 y hy).1.2 with z | z
  ·rw [e] at z;simp at z
  ·exact z
 ·rcases (h2 y hy).2 with z | z
  ·rw [e] at z;simp at z
  ·exact z.1
 ·rcases (h2 y hy).2 with z | z
  ·rw [e] at z;simp at z
  ·exact z.2
 ·have q:=h4 i hi
  rw [e] at q
  simpa using q
end
theorem law_end {l:PySem.W.OpenLaw} {m:List D->Option D} {K:KC} {H:Hp} {a:Kc} {ns:List Int} (hO:Only H) (hq:SqL K H a (ns.map V.int)) (hm:m [.scr ns]=some (.bl true)) :
  spM K m [.ref a] H (fun v _=>v=.bl true) (fun _ _ _=>False):=by
 refine ⟨fun _=>False,[.scr ns],.bl true,fun _ z=>z.elim,.one ?_,hm,fun v H' _ r=>by simpa [Rep] using r⟩
 simp only [Rep]
 refine ⟨a,rfl,?_⟩
 rcases hq with hq | hq
 ·rcases hq with hq | hq
  ·rcases hO a with z | ⟨o,xs,z⟩ <;> (rw [z] at hq;cases hq)
  ·exact .inl hq
 ·exact .inr hq
section
variable {X:Cx} {fr:Bool} {os os' ol:List Nat} {pos:KB} {s:Bool} {scope:Scope} {own N':List Kw} {k:Nat} {elt target iter:Kv} {ifs:List Kv} {wi:TI} {g:TG} {tc:TT} {te:TE} {fi:Ev->Option (List D)} {u:D->Ev->Option Ev} {cf:Ev->Option Bool} {e:Ev->Option D}
theorem sf_comp (c:CompOk X scope own N' k) (hc:X.calm=true) (hi:SI X s os target iter wi fi) (hg:∀ s₂ H₂ fp C,SG (Zu X scope own N' s₂ H₂ fp C) os target g u) (ht:∀ s₂ H₂ fp C,SPF (Zu X scope own N' s₂ H₂ fp C) os ifs tc cf)
  (he:∀ s₂ H₂ fp C,SE (Zu X scope own N' s₂ H₂ fp C) true os elt te e) (hs:∀ x,foldedSetIterable iter X.env x=pure x:=by intro _;rfl):SF X os (.ListComp elt [⟨target,iter,ifs,0⟩] scope pos) (wy k wi g tc te) (Zs k fi u cf e) :=
 ⟨pe_comp c hc hi.pi (fun a b c d=>(hg a b c d).pg) (fun a b c d=>(ht a b c d).pf) (fun a b c d=>(he a b c d).pe) hs,fok_comp hi.ok (hg X.s₀ X.P9 [] 0).ok (ht X.s₀ X.P9 [] 0).ok (he X.s₀ X.P9 [] 0).ok⟩
theorem WB {i:Nat} {x:Kw} {pos' spos:KB} (hN:X.N.Nodup) (hix:X.N[i]?=some x) (hx:X.env.scope.names.lookup x=some .local) (c:CompOk X scope own N' k) (hc:X.calm=true) (hi:SI X s os target iter wi fi) (hg:∀ s₂ H₂ fp C,SG (Zu X scope own N' s₂ H₂ fp C) os target g u) (ht:∀ s₂ H₂ fp C,SPF (Zu X scope own N' s₂ H₂ fp C) os ifs tc cf)
  (he:∀ s₂ H₂ fp C,SE (Zu X scope own N' s₂ H₂ fp C) true os elt te e) (hsw:Kt (.ListComp elt [⟨target,iter,ifs,0⟩] scope pos) (some (.Name x pos')) spos.line X.env=pure true:=by rfl)
  (h1:∀ j∈os',j∈os/\j≠i:=by decide) (h2:∀ j∈os,j∈os'\/j=i:=by decide) (hs:∀ x,foldedSetIterable iter X.env x=pure x:=by intro _;rfl) :
  SS X fr os os' ol (.Assign [.Name x pos'] (.ListComp elt [⟨target,iter,ifs,0⟩] scope pos) spos) (yQ (wy k wi g tc te) (ZA i)) (Zj i (Zs k fi u cf e)) :=
 ss_setC (ps_setComp hN hix hx c hc hi.pi (fun a b c d=>(hg a b c d).pg) (fun a b c d=>(ht a b c d).pf) (fun a b c d=>(he a b c d).pe) hsw hs) (fok_comp hi.ok (hg X.s₀ X.P9 [] 0).ok (ht X.s₀ X.P9 [] 0).ok (he X.s₀ X.P9 [] 0).ok) h1 h2
end
open PySem L2
section
variable {ρ:Ev} {f fa fb fc:Ev->Option D} {fl ca cb:Ev->Option (List D)} {g g':D->D->Option D} {c c1 c2:Ev->Option Bool} {m m1 m2:Ev->Option Out} {i k n:Nat} {d:D} {ds:List D} {u:D->Ev->Option Ev} {us:List D->Ev->Option Ev} {h:D->Option D} {gl:List D->Option D}
@[simp] theorem fVar_:zc i ρ=ρ[i]?.join:=rfl
@[simp] theorem fC_:fC d ρ=some d:=rfl
@[simp] theorem f1_:f1 h fa ρ=(fa ρ).bind h:=rfl
@[simp] theorem f2_:f2 g fa fb ρ=(fa ρ).bind fun x=>(fb ρ).bind fun y=>g x y:=rfl
@[simp] theorem fSeq_ {b:Bool}:zk b fa ρ=(fa ρ).bind (asK b):=rfl
@[simp] theorem fFlat_:yw fa ρ=(fa ρ).bind fun d=>if d.flat then some d else none:=rfl
@[simp] theorem fTest_:zw fa ρ=(fa ρ).bind asB:=rfl
@[simp] theorem fTru_:fTru fa ρ=(fa ρ).bind truD:=rfl
@[simp] theorem fAnd_:jB c1 c2 ρ=(c1 ρ).bind fun c=>if c then c2 ρ else some false:=rfl
@[simp] theorem fOr_:fOr c1 c2 ρ=(c1 ρ).bind fun c=>if c then some true else c2 ρ:=rfl
@[simp] theorem fNot_:jd c ρ=(c ρ).map (!·):=rfl
@[simp] theorem fAndV_:yH fa fb ρ=((fa ρ).bind asB).bind fun c=>if c then fb ρ else some (.bl false):=rfl
@[simp] theorem fOrV_:fOrV fa fb ρ=((fa ρ).bind asB).bind fun c=>if c then some (.bl true) else fb ρ:=rfl
@[simp] theorem fNotV_:fNotV fa ρ=((fa ρ).bind asB).map fun c=>.bl (!c):=rfl
@[simp] theorem fIf_:fIf c fa fb ρ=(c ρ).bind fun c=>if c then fa ρ else fb ρ:=rfl
@[simp] theorem fChain_:y2 g g' fa fb fc ρ=(fa ρ).bind fun x=>(fb ρ).bind fun y=>((g x y).bind asB).bind fun c=>if c then (fc ρ).bind fun z=>g' y z else some (.bl false):=rfl
@[simp] theorem fNil_:zi ρ=some []:=rfl
@[simp] theorem ZQ:za fa fl ρ=(fa ρ).bind fun x=>(fl ρ).map (x::·):=rfl
@[simp] theorem fLst_:Za fl ρ=(fl ρ).bind gk:=rfl
@[simp] theorem fTup_:ZO fl ρ=(fl ρ).bind wW:=rfl
@[simp] theorem fA_:fA gl fl ρ=(fl ρ).bind gl:=rfl
@[simp] theorem fIx_:fIx fl fb ρ=(fl ρ).bind fun ds=>(fb ρ).bind fun i=>dIx ds i:=rfl
@[simp] theorem fL_:fL fa ρ=(fa ρ).bind asL:=rfl
@[simp] theorem fCat_:Yl ca cb ρ=(ca ρ).bind fun x=>(cb ρ).bind fun y=>gk (x++y):=rfl
@[simp] theorem fNo_:fNo ρ=some none:=rfl
@[simp] theorem fPart_:yv fa ρ=(fa ρ).bind fun d=>(asI d).map some:=rfl
@[simp] theorem fCut_ {w:List D->D} {f1 f2:Ev->Option (Option Int)}:wn w fl f1 f2 ρ=(fl ρ).bind fun ds=>(f1 ρ).bind fun lo=>(f2 ρ).bind fun hi=>some (w (cutD ds lo hi)):=rfl
theorem fRng1_:wL fa ρ=(fa ρ).bind fun d=>(asI d).bind fun j=>if -(2 ^ 62)<=j/\j<2 ^ 62 then some (yX 0 j.toNat) else none:=rfl
@[simp] theorem fZip_:fZip ca cb ρ=(ca ρ).bind fun xs=>(cb ρ).map fun ys=>zipD xs ys:=rfl
@[simp] theorem fComp_ {e:Ev->Option D}:Zs k fl u c e ρ=(fl ρ).bind fun ds=>(Yo u c e ds (ρ++List.replicate k none)).bind gk:=rfl
@[simp] theorem fYes_:Z2 ρ=some true:=rfl
@[simp] theorem uName_:zI i d ρ=some (ρ.set i (some d)):=rfl
@[simp] theorem uTup_:uTup us d ρ=(asK false d).bind fun ds=>us ds ρ:=rfl
@[simp] theorem uLst_:uLst us d ρ=(asK true d).bind fun ds=>us ds ρ:=rfl
@[simp] theorem uNil_:uNil [] ρ=some ρ:=rfl
@[simp] theorem uCons_:Jk u us (d::ds) ρ=(u d ρ).bind fun ρ'=>us ds ρ':=rfl
@[simp] theorem Zk:zV ρ=some (.nx ρ):=rfl
@[simp] theorem mRet_:zR f ρ=(f ρ).map .rt:=rfl
@[simp] theorem mRetN_:mRetN ρ=some (.rt .non):=rfl
@[simp] theorem mSet_:Zj i f ρ=(f ρ).map fun d=>.nx (ρ.set i (some d)):=rfl
@[simp] theorem mNew_:mNew i f ρ=(f ρ).bind fun d=>if i<ρ.length then some (.nx (ρ.set i (some d))) else none:=rfl
@[simp] theorem mAsg_:mAsg u f ρ=(f ρ).bind fun d=>(u d ρ).map .nx:=rfl
@[simp] theorem mIf_:mIf c m1 m2 ρ=(c ρ).bind fun b=>if b then m1 ρ else m2 ρ:=rfl
@[simp] theorem mDrop_:mDrop f ρ=(f ρ).map fun _=>.nx ρ:=rfl
@[simp] theorem W4:mFor fl u m ρ=(fl ρ).bind fun ds=>YB u m ds ρ:=rfl
@[simp] theorem mUpd_ {w:List D->D->Option (List D)}:mUpd i w f ρ=(f ρ).bind fun d=>(ρ[i]?.join).bind fun x=>(asL x).bind fun ds=>(w ds d).map fun ds'=>.nx (ρ.set i (some (.lst ds'))):=rfl
@[simp] theorem mSetIx_ {fi:Ev->Option D}:mSetIx i f fi ρ=(f ρ).bind fun d=>(ρ[i]?.join).bind fun x=>(asL x).bind fun ds=>(fi ρ).bind fun k=>(asI k).bind fun k=>(ixN ds.length k).map fun j=>.nx (ρ.set i (some (.lst (ds.set j d)))):=rfl
@[simp] theorem asK_t {ds:List D}:asK true (.lst ds)=some ds:=rfl
@[simp] theorem asK_s {ns:List Int}:asK true (.scr ns)=some (ns.map .int):=rfl
@[simp] theorem asK_f {ds:List D}:asK false (.tup ds)=some ds:=rfl
@[simp] theorem asL_ {ds:List D}:asL (.lst ds)=some ds:=rfl
@[simp] theorem asB_ {b:Bool}:asB (.bl b)=some b:=rfl
@[simp] theorem asI_ {j:Int}:asI (.int j)=some j:=rfl
@[simp] theorem dI_ {w:Int->Int->D} {a b:Int}:dI w (.int a) (.int b)=some (w a b):=rfl
theorem dIc_ {C:Int->Int->Prop} {w:Int->Int->D} {a b:Int} (hc:C a b):dIc C w (.int a) (.int b)=some (w a b):=by unfold dIc;exact KQ hc
@[simp] theorem y6 {a b:Int} (hc:IntMulOk a b):jD (.int a) (.int b)=some (.int (a*b)):=dIc_ hc
@[simp] theorem yc {a b:Int} (hc:0<b):Yu (.int a) (.int b)=some (.int (a % b)):=dIc_ (C:=fun _ j=>0<j) hc
@[simp] theorem YZ {a b:Int} (h0:0<b) (h1:b<1073741824):wv (.int a) (.int b)=some (.int (a / b)):=dIc_ (C:=CDiv) ⟨h0,h1⟩
theorem dDivP_s {a b:Int} (h:CDivB a b):dDivP (.int a) (.int b)=some (.int (a.fdiv b)):=dIc_ h
@[simp] theorem dNeg_ {a:Int}:wX (.int a)=some (.int (-a)):=rfl
@[simp] theorem jf {a b:Int}:Ze (.int a) (.int b)=some (.bl (decide (a=b))):=rfl
@[simp] theorem dNeS_ {a b:Int}:je (.int a) (.int b)=some (.bl (!decide (a=b))):=rfl
@[simp high] theorem dEqS_self {a:Int}:Ze (.int a) (.int a)=some (.bl true):=by rw [jf,KS rfl]
@[simp high] theorem dNeS_self {a:Int}:je (.int a) (.int a)=some (.bl false):=by rw [dNeS_,KS rfl];rfl
@[simp] theorem dIx_ {a:Int}:dIx ds (.int a)=atI ds a:=rfl
@[simp] theorem gLen_:yP ds=some (.int ds.length):=rfl
@[simp] theorem gTuple_:jA ds=some (.tup ds):=rfl
@[simp] theorem gSum_ {ns:List Int}:gg (ns.map .int)=some (.int ns.sum):=by simp [gg,wk]
@[simp] theorem gIntB {b:Bool}:gInt [.bl b]=some (.int (if b then 1 else 0)):=rfl
@[simp] theorem gIntI {b:Int}:gInt [.int b]=some (.int b):=rfl
@[simp] theorem gAbs_ {b:Int}:gAbs [.int b]=some (.int (if b<0 then -b else b)):=rfl
@[simp] theorem dIsi_i {T:String} {a:Int}:dIsi T (.int a)=.bl ("int" == T||("int" == "bool"&&T == "int")):=rfl
@[simp] theorem flat_int {a:Int}:D.flat (.int a)=true:=rfl
@[simp] theorem flat_bl {a:Bool}:D.flat (.bl a)=true:=rfl
theorem lAppend_ (h:ds.length<Kg):yA ds d=some (ds++[d]):=by unfold yA;exact KQ h
theorem wN (h:ds.length<=Kg):gk ds=some (.lst ds):=by unfold gk;exact KQ h
theorem dTup_ (h:ds.length<=Kg):wW ds=some (.tup ds):=by unfold wW;exact KQ h
theorem yz {n:Nat} (h:n<=1000000):n<=Kg:=QA h (by decide)
theorem w9 {n:Nat} (h:n<=1000000):n<Kg:=Q0 h (by decide)
theorem wD {ds:List D} {d:D} (hl:ds.length=k) (h:m (Zd n ds)=some (.rt d)):ZE k n m ds=some d:=by
 unfold ZE;rw [KQ hl,h];rfl
theorem forD_inv (I:Nat->Ev->Prop):∀ (ds:List D) (i0:Nat) (ρ:Ev),I i0 ρ->(∀ (i:Nat) d ρ,ds[i]?=some d->I (i0+i) ρ->∃ ρ1,u d ρ=some ρ1/\∃ ρ2,m ρ1=some (.nx ρ2)/\I (i0+i+1) ρ2)->∃ ρ',YB u m ds ρ=some (.nx ρ')/\I (i0+ds.length) ρ'
 | [],i0,ρ,h0,_=>⟨ρ,rfl,h0⟩
 | d::ds,i0,ρ,h0,hs=>by
  obtain ⟨ρ1,h1,ρ2,h2,h3⟩:=hs 0 d ρ (by simp) h0
  obtain ⟨ρ',h4,h5⟩:=forD_inv I ds (i0+1) ρ2 h3 fun i d' ρ hd hi=>by
   have:=hs (i+1) d' ρ (by simpa using hd) (by rw [show i0+(i+1)=i0+1+i by omega];exact hi)
   rw [show i0+(i+1)+1=i0+1+i+1 by omega] at this
   exact this
  refine ⟨ρ',?_,by rw [Qg,show i0+(ds.length+1)=i0+1+ds.length by omega];exact h5⟩
  rw [YB,h1,oB,h2,oB]
  exact h4
theorem compD_at {e:Ev->Option D} (I:Ev->Prop) (R:Nat->D->Prop):∀ (ds:List D) (i0:Nat) (ρ:Ev),I ρ->(∀ (i:Nat) d ρ,ds[i]?=some d->I ρ->∃ ρ1,u d ρ=some ρ1/\c ρ1=some true/\(∃ x,e ρ1=some x/\R (i0+i) x)/\I ρ1) ->
  ∃ xs,Yo u c e ds ρ=some xs/\xs.length=ds.length/\∀ (i:Nat) x,xs[i]?=some x->R (i0+i) x
 | [],i0,ρ,_,_=>⟨[],rfl,rfl,fun i x h=>by simp at h⟩
 | d::ds,i0,ρ,h0,hs=>by
  obtain ⟨ρ1,h1,h2,⟨x,h3,h5⟩,h4⟩:=hs 0 d ρ (by simp) h0
  obtain ⟨xs,q1,q2,q3⟩:=compD_at I R ds (i0+1) ρ1 h4 fun i d' ρ hd hi=>by
   have:=hs (i+1) d' ρ (by simpa using hd) hi
   rw [show i0+(i+1)=i0+1+i by omega] at this
   exact this
  refine ⟨x::xs,by rw [Yo,h1,oB,h2,oB,KQ rfl,h3,oB,q1];rfl,by simp [q2],fun i y hy=>?_⟩
  cases i with
  | zero=>simp at hy;subst hy;exact h5
  | succ i=>rw [show i0+(i+1)=i0+1+i by omega];exact q3 i y (by simpa using hy)
theorem WP {lo:Int} {n i:Nat} {d:D} (h:(yX lo n)[i]?=some d):i<n/\d=.int (lo+(i:Nat)):=by
 unfold yX at h
 rw [QO] at h
 by_cases hi:i<n
 ·simp [hi] at h;exact ⟨hi,h.symm⟩
 ·simp [hi] at h
@[simp] theorem YV {lo:Int} {n:Nat}:(yX lo n).length=n:=by simp [yX]
theorem atI_map {ns:List Int} {i:Int} (h0:0<=i) (h1:i<ns.length):atI (ns.map D.int) i=some (.int (ns.getD i.toNat 0)):=by
 have e:=zL (xs:=ns.map D.int) (j:=i.toNat) (v:=.int (ns.getD i.toNat 0)) (by
  rw [QO]
  have hi:i.toNat<ns.length:=by omega
  simp [hi,List.getD])
 rwa [show ((i.toNat:Nat):Int)=i by omega] at e
end
def Wo {α:Type} (o:Option α) (P:α->Prop):Prop:=∃ x,o=some x/\P x
theorem Wo.eq {α:Type} {o:Option α} {y:α} (h:Wo o (·=y)):o=some y:=let ⟨x,e,p⟩:=h;p▸e
section
variable {α β:Type} {P:α->Prop} {Q:β->Prop} {x:α} {o:Option α} {g:α->Option β} {w:α->β}
@[simp] theorem zG:Wo (some x) P↔P x:=⟨fun ⟨y,e,p⟩=>by cases e;exact p,fun p=>⟨x,rfl,p⟩⟩
@[simp] theorem wo_none:Wo (none:Option α) P↔False:=⟨fun ⟨y,e,p⟩=>(by cases e),False.elim⟩
@[simp] theorem wZ:Wo (o.bind g) Q↔Wo o fun x=>Wo (g x) Q:=by
 cases o with
 | none=>simp
 | some x=>simp
@[simp] theorem wo_guard {c:Prop} [Decidable c] {a:Option α}:Wo (if c then a else none) P↔c/\Wo a P:=by
 split <;> simp_all
end
section
variable {P:D->Prop} {R:List D->Prop} {T:Out->Prop} {a b:Int} {ds:List D} {d:D} {ρ:Ev} {m m1 m2:Ev->Option Out}
theorem p62:(2:Int) ^ 62=4611686018427387904:=by decide
@[simp] theorem wo_rng1 {fa:Ev->Option D}:Wo (wL fa ρ) R↔Wo (fa ρ) fun d=>Wo (asI d) fun j=>(-4611686018427387904<=j/\j<4611686018427387904)/\R (yX 0 j.toNat):=by
 rw [fRng1_,wZ,<- p62]
 simp only [wZ,wo_guard,zG]
def Then (m:Ev->Option Out) (T:Out->Prop):Out->Prop
 | .nx ρ=>Wo (m ρ) T
 | o=>T o
@[simp] theorem zu:Then m T (.nx ρ)=Wo (m ρ) T:=rfl
@[simp] theorem then_rt:Then m T (.rt d)=T (.rt d):=rfl
@[simp] theorem then_bk:Then m T (.bk ρ)=T (.bk ρ):=rfl
@[simp] theorem then_ct:Then m T (.ct ρ)=T (.ct ρ):=rfl
@[simp] theorem zx:Wo (zE m1 m2 ρ) T↔Wo (m1 ρ) (Then m2 T):=by
 unfold zE
 cases h:m1 ρ with
 | none=>simp
 | some o=>cases o <;> simp [Then]
def JA (P:D->Prop):Out->Prop
 | .nx _=>P .non
 | .rt d=>P d
 | _=>False
@[simp] theorem back_rt:JA P (.rt d)=P d:=rfl
@[simp] theorem back_nx:JA P (.nx ρ)=P .non:=rfl
theorem ZZ {k n:Nat}:Wo (ZE k n m ds) P↔ds.length=k/\Wo (m (Zd n ds)) (JA P):=by
 unfold ZE
 split
 ·rename_i h
  simp only [h,true_and,wZ]
  cases m (Zd n ds) with
  | none=>simp
  | some o=>cases o <;> simp [outD,JA]
 ·simp_all
def J1 (u:D->Ev->Option Ev) (m:Ev->Option Out) (ds:List D) (T:Out->Prop):Out->Prop
 | .nx ρ=>Wo (YB u m ds ρ) T
 | .ct ρ=>Wo (YB u m ds ρ) T
 | .bk ρ=>T (.nx ρ)
 | .rt d=>T (.rt d)
@[simp] theorem turn_nx {u:D->Ev->Option Ev}:J1 u m ds T (.nx ρ)=Wo (YB u m ds ρ) T:=rfl
@[simp] theorem turn_ct {u:D->Ev->Option Ev}:J1 u m ds T (.ct ρ)=Wo (YB u m ds ρ) T:=rfl
@[simp] theorem turn_bk {u:D->Ev->Option Ev}:J1 u m ds T (.bk ρ)=T (.nx ρ):=rfl
@[simp] theorem turn_rt {u:D->Ev->Option Ev}:J1 u m ds T (.rt d)=T (.rt d):=rfl
theorem wo_for {u:D->Ev->Option Ev} {ds:List D} (I:Nat->Ev->Prop) (h0:I 0 ρ) (hs:∀ (i:Nat) d ρ,ds[i]?=some d->I i ρ->Wo (u d ρ) fun ρ1=>Wo (m ρ1) fun o=>match o with
  | .nx ρ2=>I (i+1) ρ2
  | .ct ρ2=>I (i+1) ρ2
  | .bk ρ2=>T (.nx ρ2)
  | .rt r=>T (.rt r)) (hd:∀ ρ,I ds.length ρ->T (.nx ρ)):Wo (YB u m ds ρ) T:=by
 suffices ∀ (es:List D) (k:Nat) (ρ:Ev),ds=ds.take k++es->k+es.length=ds.length->I k ρ->Wo (YB u m es ρ) T from this ds 0 ρ (by simp) (by simp) h0
 intro es
 induction es with
 | nil =>
  intro k ρ _ hl hi
  simp only [QB,Nat.add_zero] at hl
  subst hl
  simp [YB,hd ρ hi]
 | cons d es ih =>
  intro k ρ he hl hi
  have hk:ds[k]?=some d:=by
   have h1:(ds.take k).length=k:=by rw [Q3];simp at hl;omega
   rw [he,QY (by omega),h1];simp
  have he':ds=ds.take (k+1)++es:=by
   have h2:=List.take_append_drop (k+1) ds
   have h3:ds.drop (k+1)=es:=by
    have h1:(ds.take k).length=k:=by rw [Q3];simp at hl;omega
    have:ds.drop k=d::es:=by
     conv=>lhs;rw [he]
     rw [List.drop_append,h1];simp
    rw [<- List.drop_drop,this];simp
   rw [h3] at h2;exact h2.symm
  obtain ⟨ρ1,e1,o,e2,p⟩:=hs k d ρ hk hi
  simp only [YB,e1,e2,oB]
  cases o with
  | nx ρ2=>exact ih (k+1) ρ2 he' (by simp at hl ⊢;omega) p
  | ct ρ2=>exact ih (k+1) ρ2 he' (by simp at hl ⊢;omega) p
  | bk ρ2=>simpa using p
  | rt r=>simpa using p
variable {u:D->Ev->Option Ev} {c:Ev->Option Bool} {e:Ev->Option D}
theorem wo_compAt (I:Ev->Prop) (F:Nat->D->Prop) (h0:I ρ) (hs:∀ (i:Nat) d ρ,ds[i]?=some d->I ρ->Wo (u d ρ) fun ρ1=>c ρ1=some true/\Wo (e ρ1) (F i)/\I ρ1) (hd:∀ xs,xs.length=ds.length->(∀ (i:Nat) x,xs[i]?=some x->F i x)->R xs):Wo (Yo u c e ds ρ) R:=by
 obtain ⟨xs,q1,q2,q3⟩:=compD_at I F ds 0 ρ h0 fun i d ρ h1 h2=>(by
  obtain ⟨ρ1,a1,a2,a3,a4⟩:=hs i d ρ h1 h2
  exact ⟨ρ1,a1,a2,by rw [QD];exact a3,a4⟩)
 exact ⟨xs,q1,hd xs q2 fun i x h=>by have:=q3 i x h;rwa [QD] at this⟩
end
theorem wS {a b:Int} (h1:-(2 ^ 64)<a) (h2:a<2 ^ 64):IntMulOk a b:=.of_left (intBits_le_64 h1 h2)
theorem cutD_from {ds:List D} (k:Nat):cutD ds (some (k:Int)) none=ds.drop k:=by
 unfold cutD
 rw [HT.sIx_nat,HT.sIx_none]
 by_cases h2:k<=ds.length
 ·rw [Nat.min_eq_left h2,Pa (by simp)]
 ·rw [Nat.min_eq_right (by omega),List.drop_eq_nil_of_le (by omega:ds.length<=k),Pf];simp
theorem cutD_to {ds:List D} (k:Nat):cutD ds none (some (k:Int))=ds.take k:=by
 unfold cutD
 rw [HT.sIx_nat,HT.sIx_none]
 simp only [PZ,Nat.sub_zero]
 by_cases h2:k<=ds.length
 ·rw [Nat.min_eq_left h2]
 ·rw [Nat.min_eq_right (by omega),PM,Pa (by omega)]
end M
namespace L2
open PySem PySem.Spec PyProof.Rows
def ItrD (lo:Int) (n:Nat):It:=⟨fun i _=>i<n,fun i H x H'=>H'=H/\x=.int (lo - i),fun i _=>n<=i⟩
theorem turn_rangeD {P:Ki} {w:Kk} {K:KC} {tg:Kv} (it:Kc) (lo:Int) (n:Nat):J1 P w K tg (ItrD lo n) [it] it (fun i h=>IsRangeIter h it (lo+(i:Nat)*(-1)) ((n:Int) - (i:Nat)) (-1)) where
 mem:=by simp
 obj:=fun i h st b hb=>by
  have e:b=it:=by simpa using hb
  subst e
  exact ⟨_,st,fun v z=>by
   have z':Data.fields _=Data.cell v:=z
   cases z'⟩
 keep:=fun i h h' st k=>k it (by simp) _ st
 item:=by
  intro X hP hw hK hc i KJ s σ H E I hf st hg
  subst hP hw hK
  obtain ⟨f0,f1,f2,f3,f4,f5⟩:=hf it (by simp)
  have W:=Walks.range (prog:=X.prog) (w:=X.w) (I.ok.hd hc) it lo (-1) n
  refine W.item i s _ _ hg st fun v h' tk hv st' kk=>?_
  obtain ⟨t,rfl⟩:=hv
  have I1:Inv X KJ σ H { s with heap:=h',toks:=tk }:=I.turned (fun b o hb e=>kk b o (by simpa using hb) e) f0 f1 f3 f4 f5
  refine ⟨_,rfl,go_of (s:={ s with heap:=h',toks:=tk }) (n:="range_iterator") st' rfl rfl (by decide) ⟨.int (lo - i),H,I1,⟨t,?_⟩,⟨rfl,rfl⟩,st',fun b hb=>(hf b hb).1⟩⟩
  rw [show lo - (i:Int)=lo+(i:Int)*(-1) by omega]
 done:=by
  intro X hP hw hK hc i KJ s σ H E I hf st hg
  subst hP hw hK
  obtain ⟨f0,f1,f2,f3,f4,f5⟩:=hf it (by simp)
  exact wpAny_pyNext_range_end (I.ok.hd hc) st (by have:n<=i:=hg;omega) fun h' eb=>⟨rfl,I.turned (t':=s.toks) (fun b o hb e=>eb b o hb e) f0 f1 f3 f4 f5⟩
 self:=fun _ _ _ _ _ st h=>wpAny_pyIter_rangeiter st h
section
variable {X:Cx} {tg:Kv}
def iRngD (ta:TA):TI:=fun σ H R=>ta σ H fun vs H1=>∃ i j:Int,vs=[.int i,.int j,.int (-1)]/\(-(2 ^ 62)<=i/\i<2 ^ 62/\-(2 ^ 62)<=j/\j<2 ^ 62)/\R (ItrD i (i - j).toNat) H1
theorem pi_rangeD {a b c:Kv} {ta:TA} {p pos:KB} (hg:Gl X "range") (hm:X.mg "range"=none) (ha:PA X [a,b,c] ta) (hs:Ke [a,b,c] X.env=[(false,Kz a X.env),(false,Kz b X.env),(false,Kz c X.env)]:=by rfl) (hs2:Ke [b,c] X.env=[(false,Kz b X.env),(false,Kz c X.env)]:=by rfl) :
  PI X tg (.Call (.Name "range" p) [a,b,c] [] pos) (iRngD ta):=by
 intro KJ s σ H R I h
 refine Call_ (jX I hg hm boot_range (KH (thn (ha pos KJ s σ H _ I h) fun us s1 ⟨vs,H1,I1,r1,q1⟩=>?_) (by rw [hs,hs2]) (by rw [hs2];rfl)))
 obtain ⟨i,j,e,⟨q1,q2,q3,q4⟩,q⟩:=q1
 subst e
 cases r1 with
 | cons r rr =>
  cases rr with
  | cons r' rr =>
   cases rr with
   | cons r'' rr =>
    cases rr
    obtain ⟨t,rfl⟩:=r
    obtain ⟨t',rfl⟩:=r'
    obtain ⟨t'',rfl⟩:=r''
    refine call_range_3 (by decide) ?_
    refine wpAny_pyIter_range (IsRange.new ..) (PySem.W.small_down q1 q2 q3 q4) ?_
    have I2:∀ (ob:KA) (tk:Nat),Inv X KJ σ H1 { s1 with heap:=s1.heap.push ob,toks:=tk }:=fun ob tk=>I1.kept fun b o e=>Qd _ e
    refine ⟨_,[_],_,_,H1,rfl,(I2 _ _).kept (t':=_) fun b o e=>Qd _ e,turn_rangeD _ i (i - j).toNat,?_,fun b hb=>?_,q⟩
    ·have e1:i+((0:Nat):Int)*(-1)=i:=by simp
     have e2:(((i - j).toNat:Nat):Int) - ((0:Nat):Int)=Builtin.Range.rangeSize i j (-1):=by rw [PySem.W.rangeSize_downNat];simp
     show IsRangeIter _ _ (i+((0:Nat):Int)*(-1)) ((((i - j).toNat:Nat):Int) - ((0:Nat):Int)) (-1)
     rw [e1,e2]
     exact Qo _ rfl
    ·have e:=Qm.mp hb
     subst e
     exact (I2 _ _).fpOk (Ql _) ((I2 _ _).hok.fresh (Ql _))
end
section
variable {X:Cx}
def rCatA (K:KC):R2:=fun x y H Q=>∃ a b xs ys,x=.ref a/\y=.ref b/\SqT K H a xs/\SqT K H b ys/\xs.length+ys.length<=Kg/\(xs=[]->Q (.ref b) H) /\
 (xs≠[]->ys=[]->Q (.ref a) H)/\(xs≠[]->ys≠[]->∀ p,H p=none->Q (.ref p) (upd H p (.tup (xs++ys))))
theorem op_catA {K':KC} (hK:X.K=K':=by rfl):OpR X (binaryOp .Add) (rCatA K'):=by
 subst hK
 intro KJ s σ H x y v u Q I rx ry h
 obtain ⟨a,b,xs,ys,rfl,rfl,ha,hb,hz,q0,q1,q2⟩:=h
 by_cases hx:xs=[]
 ·cases rx
  cases ry
  obtain ⟨KP,r1,p1,_⟩:=I.tuple ha
  obtain ⟨its2,r2,p2,_⟩:=I.tuple hb
  obtain ⟨⟨cls,dd,data,sl⟩,ho,hc,n,hd⟩:=id p1
  obtain ⟨⟨cls2,dd2,data2,sl2⟩,ho2,hc2,n2,hd2⟩:=id p2
  simp only at hc hd hc2 hd2
  subst hc hd hc2 hd2
  have he:KP=[]:=r1.nil_iff.mpr hx
  exact concat_meets ⟨_,ho,rfl⟩ ⟨_,ho2,rfl⟩ noFill_tuple_add seq_tuple_add PySem.F.slot_tuple_add PySem.F.entry_tuple_add (PySem.F.args_tuple_add_2 _ _)
   (tuple_addW0 a b KP.toArray its2.toArray n n2 dd dd2 sl sl2 (by simp [he])) ⟨ho,ho2,⟨.ref b,H,I,rfl,q0 hx⟩⟩
 ·exact op_catT KJ s σ H _ _ v u Q I rx ry ⟨a,b,xs,ys,rfl,rfl,ha,hb,hx,hz,q1 hx,q2 hx⟩
end
end L2
namespace M
open PySem PySem.Spec L2
open PySem.W (Frag)
def YK (lo:Int) (n:Nat):List D:=(List.range n).map fun i=>.int (lo - (i:Nat))
@[simp] theorem jS {lo:Int} {n:Nat}:(YK lo n).length=n:=by simp [YK]
theorem YJ {lo:Int} {n i:Nat} {d:D} (h:(YK lo n)[i]?=some d):i<n/\d=.int (lo - (i:Nat)):=by
 unfold YK at h
 rw [QO] at h
 by_cases hi:i<n
 ·simp [hi] at h;exact ⟨hi,h.symm⟩
 ·simp [hi] at h
theorem iw_rangeD {K:KC} (lo:Int) (n:Nat):IW K (ItrD lo n) (YK lo n) (fun _ _=>True):=by
 refine ⟨fun H B i d _ e=>(YJ e).1,fun H B i d x H' _ e y=>?_,fun H B i _ h=>by rw [jS] at h;exact h⟩
 obtain ⟨rfl,rfl⟩:=y
 obtain ⟨_,rfl⟩:=YJ e
 exact ⟨.refl _,Zz⟩
def gh (fa fb:Ev->Option D):Ev->Option (List D):=fun ρ=>(fa ρ).bind fun d=>(fb ρ).bind fun d'=>(asI d).bind fun i=>(asI d').bind fun j=>if -(2 ^ 62)<=i/\i<2 ^ 62/\-(2 ^ 62)<=j/\j<2 ^ 62 then some (YK i (i - j).toNat) else none
section
variable {X:Cx} {fr st s:Bool} {os os' ol:List Nat} {tg e a b:Kv} {t ta tb te:TE} {f fa fb:Ev->Option D} {pos p:KB}
theorem si_rangeD {jj:Nat} {p1 p2:KB} (hg:Gl X "range") (hm:X.mg "range"=none) (ha:SE X false os a ta fa) (hb:SE X false os b tb fb)
  (h1:Ke [a,b,.UnaryOp .USub (.Constant (.int 1) jj p1) p2] X.env=(false,Kz a X.env)::Ke [b,.UnaryOp .USub (.Constant (.int 1) jj p1) p2] X.env:=by rfl)
  (h2:Ke [b,.UnaryOp .USub (.Constant (.int 1) jj p1) p2] X.env=(false,Kz b X.env)::Ke [.UnaryOp .USub (.Constant (.int 1) jj p1) p2] X.env:=by rfl)
  (h3:Ke [.UnaryOp .USub (.Constant (.int 1) jj p1) p2] X.env=(false,Kz (.UnaryOp .USub (.Constant (.int 1) jj p1) p2) X.env)::Ke [] X.env:=by rfl)
  (hs:Ke [a,b,.UnaryOp .USub (.Constant (.int 1) jj p1) p2] X.env=[(false,Kz a X.env),(false,Kz b X.env),(false,Kz (.UnaryOp .USub (.Constant (.int 1) jj p1) p2) X.env)]:=by rfl)
  (hs2:Ke [b,.UnaryOp .USub (.Constant (.int 1) jj p1) p2] X.env=[(false,Kz b X.env),(false,Kz (.UnaryOp .USub (.Constant (.int 1) jj p1) p2) X.env)]:=by rfl) :
  SI X s os tg (.Call (.Name "range" p) [a,b,.UnaryOp .USub (.Constant (.int 1) jj p1) p2] [] pos) (iRngD (zD ta (zD tb (zD (tUn (rU fun i=>.int (-i)) (tC (.int 1))) zW)))) (gh fa fb) :=
 ⟨pi_rangeD hg hm (zv ha.pe (zv hb.pe (zv (JN yU ZC) zz h3) h2) h1) hs hs2,fun P9 Ua σ H ρ ds R m q kk=>by
 obtain ⟨x,h1,h2⟩:=ze q
 obtain ⟨y,h3,h4⟩:=ze h2
 obtain ⟨i,h5,h6⟩:=ze h4
 obtain ⟨j,h7,h8⟩:=ze h6
 split at h8
 ·cases h8
  rename_i hc
  refine ha.ok P9 Ua σ H ρ x _ m h1 fun v H1 s1 r=>?_
  refine hb.ok P9 Ua σ H1 ρ y _ (m.up s1) h3 fun v' H2 s2 r2=>?_
  have e1:=asI_v r h5
  have e2:=asI_v r2 h7
  subst e1;subst e2
  exact ⟨1,rfl,i,j,rfl,hc,kk _ H2 _ (s1.trans s2) (iw_rangeD i _) (fun _ _ _ _ _ _ _ _ _=>trivial) (fun _ _ _ _ _ _ _=>trivial) trivial⟩
 ·cases h8⟩
def wM (fa:Ev->Option (List D)) (fl fu:Ev->Option (Option Int)):Ev->Option D:=fun ρ=>(fa ρ).bind fun ds=>(fl ρ).bind fun lo=>(fu ρ).bind fun hi=>if HT.sIx ds.length 0 lo=0/\HT.sIx ds.length ds.length hi=ds.length then none else some (.tup (cutD ds lo hi))
theorem Wj {ca:Ev->Option (List D)} {lo hi:Option Kv} {t1 t2:TO} {g1 g2:Ev->Option (Option Int)} {p2:KB} (ha:SC X false os a ta ca) (hl:SO X os lo t1 g1) (hu:SO X os hi t2 g2) {K':KC} (hK:X.K=K':=by rfl) :
  SE X st os (.Subscript a (.Slice lo hi none p2) pos) (tSl (rSlT K') ta t1 t2) (wM ca g1 g2):=by
 subst hK
 exact ⟨JO sl_tup ha.pe hl.po hu.po,fun P9 Ua σ H ρ d Q m q k=>by
 obtain ⟨ds,h1,h2⟩:=ze q
 obtain ⟨l,h3,h4⟩:=ze h2
 obtain ⟨u,h5,h6⟩:=ze h4
 split at h6
 ·cases h6
 rename_i hne
 cases h6
 refine ha.ok P9 Ua σ H ρ ds _ m h1 fun p xs H1 s1 hq r1=>?_
 refine hl.ok P9 Ua σ H1 ρ l _ (m.up s1) h3 fun H2 s2=>?_
 refine hu.ok P9 Ua σ H2 ρ u _ (m.up (s1.trans s2)) h5 fun H3 s3=>?_
 refine ⟨p,xs,rfl,SqT.same (s2.trans s3) hq,by rw [r1.length];exact hne,fun p' hp=>?_⟩
 refine k _ _ (((s1.trans s2).trans s3).trans (zB hp)) (Rep.bb ?_)
 simp only [Rep]
 exact ⟨p',_,rfl,.inl (.inl zm),(zr.cut (r1.up (s2.trans s3))).up (zB hp)⟩⟩
end
def gj (fa fb:Ev->Option D):Ev->Option D:=fun ρ=>(zk false fa ρ).bind fun x=>(zk false fb ρ).bind fun y=>wW (x++y)
@[simp] theorem fCatT_ {fa fb:Ev->Option D} {ρ:Ev}:gj fa fb ρ=(zk false fa ρ).bind fun x=>(zk false fb ρ).bind fun y=>wW (x++y):=rfl
theorem se_catA {X:Cx} {st:Bool} {os:List Nat} {a b:Kv} {ta tb:TE} {fa fb:Ev->Option D} {pos:KB} (ha:SE X true os a ta fa) (hb:SE X true os b tb fb) {K':KC} (hK:X.K=K':=by rfl):SE X st os (.BinOp a .Add b pos) (tOp (rCatA K') ta tb) (gj fa fb):=by
 subst hK
 exact ⟨pe_op op_catA ha.pe hb.pe,fun P9 Ua σ H ρ d Q m q k=>by
 obtain ⟨x,h1,h2⟩:=ze q
 obtain ⟨y,h3,h4⟩:=ze h2
 unfold wW at h4
 split at h4
 ·rename_i hl
  cases h4
  refine (SE.seq (k:=false) ha).ok P9 Ua σ H ρ x _ m h1 fun p1 xs H1 s1 hq1 r1=>?_
  refine (SE.seq (k:=false) hb).ok P9 Ua σ H1 ρ y _ (m.up s1) h3 fun p2 ys H2 s2 hq2 r2=>?_
  have e1:=r1.length
  have e2:=r2.length
  refine ⟨p1,p2,xs,ys,rfl,rfl,SqT.same s2 hq1,hq2,?_,fun z=>?_,fun _ z=>?_,fun _ _ p' hp=>?_⟩
  ·rw [e1,e2,<- Qf];exact hl
  ·subst z
   have:x=[]:=List.length_eq_zero_iff.mp e1.symm
   subst this
   refine k _ H2 (s1.trans s2) (Rep.bb ?_)
   simp only [Rep,QK]
   exact ⟨p2,ys,rfl,hq2,r2⟩
  ·subst z
   have:y=[]:=List.length_eq_zero_iff.mp e2.symm
   subst this
   refine k _ H2 (s1.trans s2) (Rep.bb ?_)
   simp only [Rep,QT]
   exact ⟨p1,xs,rfl,SqT.same s2 hq1,r1.up s2⟩
  ·refine k _ _ ((s1.trans s2).trans (zB hp)) (Rep.bb ?_)
   simp only [Rep]
   exact ⟨p',_,rfl,.inl (.inl zm),((r1.up s2).append r2).up (zB hp)⟩
 ·cases h4⟩
mutual
def zZ:D->PyData
 | .non=>.none
 | .bl b=>.bool b
 | .int i=>.int i
 | .str x=>.str x
 | .tup ds=>.tuple (Zx ds)
 | .lst ds=>.list (Zx ds)
 | .dict _ _=>.dict []
 | .scr ns=>.list (ns.map .int)
 | .adr _=>.dict []
 | .kset _=>.dict []
 | .tk _=>.dict []
 | .pin _ _=>.dict []
def Zx:List D->List PyData
 | []=>[]
 | d::ds=>zZ d::Zx ds
end
def eqD (x y:D):Bool:=PyData.eqv (zZ x) (zZ y)
def YX (x:D):Bool:=SeqAt.shaped (zZ x)
def YY (x y:D):Option D:=if YX x=true/\YX y=true then some (.bl (eqD x y)) else none
def dNeD (x y:D):Option D:=if YX x=true/\YX y=true then some (.bl (!eqD x y)) else none
section
variable {X:Cx} {KJ:List (Kc×KA)} {σ:St} {H:Hp} {s:Kb} {B:Kc->Prop}
theorem readsInts (h:Kl):∀ {ns:List Int} {us:List Ka},zU (ns.map V.int) us->∃ as,ReadsAll h us (ns.map PyData.int) as
 | [],_,.nil=>⟨_,.nil⟩
 | n::r,_,.cons q t=>by
  obtain ⟨tk,rfl⟩:=q
  obtain ⟨as,z⟩:=readsInts h t
  exact ⟨_,.cons (.int n tk) z⟩
mutual
theorem Rep.reads (I:Inv X KJ σ H s):∀ (d:D) (v:V) (u:Ka),(zZ d).canLay0=true->Rep X.K H B d v->Zr v u->∃ as,Reads s.heap u (zZ d) as
 | .non,v,u,_,h,r=>by simp only [Rep] at h;subst h;cases r;exact ⟨_,.none⟩
 | .bl b,v,u,_,h,r=>by simp only [Rep] at h;subst h;cases r;exact ⟨_,.bool b⟩
 | .int i,v,u,_,h,r=>by simp only [Rep] at h;subst h;obtain ⟨t,rfl⟩:=r;exact ⟨_,.int i t⟩
 | .str x,v,u,_,h,r=>by simp only [Rep] at h;subst h;obtain ⟨t,rfl⟩:=r;exact ⟨_,.str x t⟩
 | .tup ds,v,u,c,h,r=>by
  simp only [Rep] at h
  obtain ⟨a,xs,rfl,hq,hr⟩:=h
  cases r
  obtain ⟨KP,rv,ht,_⟩:=I.tuple hq
  obtain ⟨o,e1,e2,n,e3⟩:=ht
  obtain ⟨as,z⟩:=zr.reads I ds xs KP (by simpa [zZ,PyData.canLay0] using c) hr rv
  exact ⟨as,.tuple e1 e2 e3 z⟩
 | .lst ds,v,u,c,h,r=>by
  simp only [Rep] at h
  obtain ⟨a,xs,rfl,hq,hr⟩:=h
  cases r
  obtain ⟨KP,rv,ht,_⟩:=I.list hq.sq
  obtain ⟨o,n,e1,e2,_,e3⟩:=ht
  obtain ⟨as,z⟩:=zr.reads I ds xs KP (by simpa [zZ,PyData.canLay0] using c) hr rv
  exact ⟨_,.list e1 e2 e3 z⟩
 | .dict ks ds,v,u,c,h,r=>by simp [zZ,PyData.canLay0] at c
 | .scr ns,v,u,c,h,r=>by
  simp only [Rep] at h
  obtain ⟨a,rfl,hq⟩:=h
  cases r
  obtain ⟨KP,rv,ht,_⟩:=I.list hq.sq
  obtain ⟨o,n,e1,e2,_,e3⟩:=ht
  obtain ⟨as,z⟩:=readsInts s.heap rv
  exact ⟨_,.list e1 e2 e3 z⟩
 | .adr a,v,u,c,h,r=>by simp [zZ,PyData.canLay0] at c
 | .kset a,v,u,c,h,r=>by simp [zZ,PyData.canLay0] at c
 | .tk a,v,u,c,h,r=>by simp [zZ,PyData.canLay0] at c
 | .pin a d,v,u,c,h,r=>by simp [zZ,PyData.canLay0] at c
theorem zr.reads (I:Inv X KJ σ H s):∀ (ds:List D) (vs:List V) (us:List Ka),PyData.canLayAll0 (Zx ds)=true->zr X.K H B ds vs->zU vs us->∃ as,ReadsAll s.heap us (Zx ds) as
 | [],vs,us,_,h,r=>by simp only [zr] at h;subst h;cases r;exact ⟨_,.nil⟩
 | d::ds,vs,us,c,h,r=>by
  simp only [zr] at h
  obtain ⟨v,vr,rfl,h1,h2⟩:=h
  simp only [Zx,PyData.canLayAll0,QC] at c
  cases r with
  | cons q t =>
   obtain ⟨as,z⟩:=Rep.reads I d v _ c.1 h1 q
   obtain ⟨bs,y⟩:=zr.reads I ds vr _ c.2 h2 t
   exact ⟨_,.cons z y⟩
end
def rEqD (K:KC) (neg:Bool):R2:=fun x y H Q=>∃ (B:Kc->Prop) (d1 d2:D),Rep K H B d1 x/\Rep K H B d2 y/\YX d1=true/\YX d2=true/\Q (.bl (if neg then !eqD d1 d2 else eqD d1 d2)) H
theorem jt {k:Nat} (hr:Room k X.A) {K':KC} (hK:X.K=K':=by rfl):OpR X (Km .Eq) (rEqD K' false):=by
 subst hK
 intro KJ s σ H x y v u Q I rx ry h
 obtain ⟨B,d1,d2,h1,h2,o1,o2,q⟩:=h
 obtain ⟨as,r1⟩:=Rep.reads I d1 x v (SeqAt.canLay_of_shaped o1) h1 rx
 obtain ⟨bs,r2⟩:=Rep.reads I d2 y u (SeqAt.canLay_of_shaped o2) h2 ry
 exact PyProof.Rows.eq_dataH r1 r2 o1 o2 hr.units ⟨.bl _,H,I,rfl,q⟩
theorem op_neD {k:Nat} (hr:Room k X.A) {K':KC} (hK:X.K=K':=by rfl):OpR X (Km .NotEq) (rEqD K' true):=by
 subst hK
 intro KJ s σ H x y v u Q I rx ry h
 obtain ⟨B,d1,d2,h1,h2,o1,o2,q⟩:=h
 obtain ⟨as,r1⟩:=Rep.reads I d1 x v (SeqAt.canLay_of_shaped o1) h1 rx
 obtain ⟨bs,r2⟩:=Rep.reads I d2 y u (SeqAt.canLay_of_shaped o2) h2 ry
 exact PyProof.Rows.ne_dataH r1 r2 o1 o2 hr.units ⟨.bl _,H,I,rfl,q⟩
theorem jp {K:KC}:ROk K (rEqD K false) YY:=fun H B x y d1 d2 d Q hB r1 r2 e k=>by
 unfold YY at e
 split at e
 ·rename_i hc
  cases e
  exact ⟨B,d1,d2,r1,r2,hc.1,hc.2,k _ H (.refl H) YU⟩
 ·cases e
theorem rok_neD {K:KC}:ROk K (rEqD K true) dNeD:=fun H B x y d1 d2 d Q hB r1 r2 e k=>by
 unfold dNeD at e
 split at e
 ·rename_i hc
  cases e
  exact ⟨B,d1,d2,r1,r2,hc.1,hc.2,k _ H (.refl H) YU⟩
 ·cases e
end
theorem eqD_self {x:D} (h:YX x=true):eqD x x=true:=SeqAt.eqv_refl _ (SeqAt.canLay_of_shaped h)
@[simp] theorem fCutT_ {fl:Ev->Option (List D)} {f1 f2:Ev->Option (Option Int)} {ρ:Ev}:wM fl f1 f2 ρ=(fl ρ).bind fun ds=>(f1 ρ).bind fun lo=>(f2 ρ).bind fun hi=>if HT.sIx ds.length 0 lo=0/\HT.sIx ds.length ds.length hi=ds.length then none else some (.tup (cutD ds lo hi)):=rfl
@[simp] theorem mNewR_ {i:Nat} {f:Ev->Option D} {ρ:Ev}:mNewR i f ρ=(f ρ).bind fun d=>if i<ρ.length/\isLs d=true then some (.nx (ρ.set i (some d))) else none:=rfl
@[simp] theorem mNewRW_ {i:Nat} {f:Ev->Option D} {ρ:Ev}:mNewRW i f ρ=(f ρ).bind fun d=>if i<ρ.length/\wj d=true then some (.nx (ρ.set i (some d))) else none:=rfl
@[simp] theorem isLs_ {ds:List D}:isLs (.lst ds)=true:=rfl
@[simp] theorem itemsFlat_ {ds:List D}:wj (.lst ds)=Yi ds:=rfl
theorem flats_ints (ns:List Int):Yi (ns.map .int)=true:=by
 induction ns with
 | nil=>rfl
 | cons n r ih=>simp [Yi,ih]
@[simp] theorem flat_non:D.flat .non=true:=rfl
@[simp] theorem dIsN_ {x:D}:dIsN x .non=some (.bl (JV x)):=rfl
@[simp] theorem dNotN_ {x:D}:dNotN x .non=some (.bl (!JV x)):=rfl
@[simp] theorem isNon_l {ds:List D}:JV (.lst ds)=false:=rfl
@[simp] theorem isNon_t {ds:List D}:JV (.tup ds)=false:=rfl
@[simp] theorem isNon_n:JV .non=true:=rfl
@[simp] theorem dIsi_l {T:String} {ds:List D}:dIsi T (.lst ds)=.bl ("list" == T||("list" == "bool"&&T == "int")):=rfl
@[simp] theorem dIsi_n {T:String}:dIsi T .non=.bl ("NoneType" == T||("NoneType" == "bool"&&T == "int")):=rfl
@[simp] theorem dIsi_t {T:String} {ds:List D}:dIsi T (.tup ds)=.bl ("tuple" == T||("tuple" == "bool"&&T == "int")):=rfl
open PySem L2
abbrev lstI (xs:List Int):D:=.lst (xs.map .int)
def YA (w:Int->Int->Int):D->D
 | .tup [.int x,.int y]=>.int (w x y)
 | _=>.non
@[simp] theorem pairD_ {w:Int->Int->Int} {x y:Int}:YA w (.tup [.int x,.int y])=.int (w x y):=rfl
def intD (g:Int->Int):D->D
 | .int j=>.int (g j)
 | _=>.non
@[simp] theorem intD_ {g:Int->Int} {x:Int}:intD g (.int x)=.int (g x):=rfl
section
variable {ρ:Ev} {T:Out->Prop} {i:Nat} {f fa fb:Ev->Option D} {c c1 c2:Ev->Option Bool} {m1 m2:Ev->Option Out} {x y d:D} {ds ds':List D} {g:List D->Option D} {h:D->D->Option D} {fl:Ev->Option (List D)} {P:D->Prop}
theorem yp (e:f ρ=some d) (k:T (.nx (ρ.set i (some d)))):Wo (Zj i f ρ) T:=by rw [mSet_,e];exact ⟨_,rfl,k⟩
theorem upd_ {w:List D->D->Option (List D)} (e:f ρ=some d) (ex:ρ[i]?.join=some (.lst ds)) (hw:w ds d=some ds') (k:T (.nx (ρ.set i (some (.lst ds'))))):Wo (mUpd i w f ρ) T:=by rw [mUpd_,e,ex,oB,oB,asL_,oB,hw];exact ⟨_,rfl,k⟩
theorem fA2 (h1:fa ρ=some x) (h2:fb ρ=some y) (e:g [x,y]=some d):fA g (za fa (za fb zi)) ρ=some d:=by rw [fA_,ZQ,h1,oB,ZQ,h2];exact e
theorem f2v (h1:fa ρ=some x) (h2:fb ρ=some y) (e:h x y=some d):f2 h fa fb ρ=some d:=by rw [f2_,h1,oB,h2];exact e
theorem Z7 {k:Int} (h1:fl ρ=some ds) (h2:fb ρ=some (.int k)) (e:atI ds k=some d):fIx fl fb ρ=some d:=by rw [fIx_,h1,oB,h2];exact e
theorem zP {b:Bool} (e:f ρ=some (.bl b)):zw f ρ=some b:=by rw [fTest_,e];rfl
theorem jG (e:c ρ=some true):jd c ρ=some false:=by rw [fNot_,e];rfl
theorem JP (e1:c1 ρ=some false) (e2:c2 ρ=some false):fOr c1 c2 ρ=some false:=by rw [fOr_,e1];exact e2
theorem Yt (e:c ρ=some false) (k:Wo (m2 ρ) T):Wo (mIf c m1 m2 ρ) T:=by rw [mIf_,e];exact k
theorem y8 (e1:fa ρ=some (.bl true)) (e2:fb ρ=some d):yH fa fb ρ=some d:=by rw [fAndV_,e1];exact e2
theorem Y5 (e:f ρ=some d) (k:P d):Wo (zR f ρ) (JA P):=by rw [mRet_,e];exact ⟨_,rfl,k⟩
theorem tupL (e:f ρ=some (.lst ds)):fA jA (zk true f) ρ=some (.tup ds):=by rw [fA_,fSeq_,e];rfl
theorem tup1_ (e:f ρ=some d):ZO (za f zi) ρ=some (.tup [d]):=by rw [fTup_,ZQ,e];exact dTup_ (yz (by simp))
theorem catT_ {xs ys:List D} (h1:fa ρ=some (.tup xs)) (h2:fb ρ=some (.tup ys)) (hl:xs.length+ys.length<=1000000):gj fa fb ρ=some (.tup (xs++ys)):=by
 rw [fCatT_,fSeq_,h1,oB,asK_f,oB,fSeq_,h2,oB,asK_f,oB]
 exact dTup_ (yz (by rw [Qf];exact hl))
theorem gs {k:Nat} (hl:fl ρ=some ds) (e:f ρ=some (.int (k:Nat))) (hk:0<k) (h0:0<ds.length):wM fl (yv f) fNo ρ=some (.tup (ds.drop k)):=by
 rw [fCutT_,hl,oB,fPart_,e,oB,asI_,PQ,oB,fNo_,oB,KR,cutD_from]
 rw [HT.sIx_nat];omega
theorem yh (e:f ρ=some (.tup ds)):zk false f ρ=some ds:=by rw [fSeq_,e];rfl
theorem yf (e:f ρ=some (.lst ds)):zk true f ρ=some ds:=by rw [fSeq_,e];rfl
theorem fA1 (h1:fa ρ=some x) (e:g [x]=some d):fA g (za fa zi) ρ=some d:=by rw [fA_,ZQ,h1];exact e
theorem fA3 {fc:Ev->Option D} {z:D} (h1:fa ρ=some x) (h2:fb ρ=some y) (h3:fc ρ=some z) (e:g [x,y,z]=some d):fA g (za fa (za fb (za fc zi))) ρ=some d:=by rw [fA_,ZQ,h1,oB,ZQ,h2,oB,ZQ,h3];exact e
theorem fA4 {fc fd:Ev->Option D} {z t:D} (h1:fa ρ=some x) (h2:fb ρ=some y) (h3:fc ρ=some z) (h4:fd ρ=some t) (e:g [x,y,z,t]=some d):fA g (za fa (za fb (za fc (za fd zi)))) ρ=some d:=by rw [fA_,ZQ,h1,oB,ZQ,h2,oB,ZQ,h3,oB,ZQ,h4];exact e
theorem f1v {h1:D->Option D} (e1:fa ρ=some x) (e:h1 x=some d):f1 h1 fa ρ=some d:=by rw [f1_,e1];exact e
theorem new_ (e:f ρ=some d) (hi:i<ρ.length) (k:T (.nx (ρ.set i (some d)))):Wo (mNew i f ρ) T:=by rw [mNew_,e];exact ⟨_,KQ hi,k⟩
theorem jJ (e:f ρ=some d) (h:d.flat=true):yw f ρ=some d:=by rw [fFlat_,e,oB,KQ h]
end
section
variable {X:Cx} {fr:Bool} {os ol:List Nat} {pos:KB}
end
end M
namespace L2
open PySem PySem.Spec PyProof.Rows
section
variable {X:Cx} {KJ:List (Kc×KA)} {σ:St} {H H':Hp} {s:Kb}
end
end L2
namespace L2
open PySem PySem.Spec PyProof.Rows
theorem draws_over {prog:Ki} {w:Kk} {A:Kj} {k:Bool} (hh:A.handled=none) (it l:Kc) (xs:Array Ka) (i:Nat) (hi:xs.size<=i):Draws prog w A it [it,l] i (fun _ _=>True) (fun j h=>j=i/\Zl k h it l i/\SeqAt k h l xs) where
 live:=fun _ _ st=>let ⟨o,ho,_⟩:=st.2.1;⟨o,ho⟩
 frame:=fun _ _ _ st hk=>⟨st.1,st.2.1.at fun o e=>hk it (by simp) o e,st.2.2.at fun o e=>hk l (by simp) o e⟩
 item:=fun j s Q E hj st hQ=>absurd hj (by rw [st.1];exact QV _)
 done:=fun s Q E st hE=>ju hh st.2.1 st.2.2 (by simp;omega) hE
def tnEnum (j:Bool) (e it l:Kc) (i:Nat) (h:Kl):Prop:=(∃ old,IsEnum h e it i old)/\Zl j h it l i
theorem turn_enum {P:Ki} {w:Kk} {K:KC} {elts:List Kv} {kk:Nat} {pp:KB} {j:Bool} {e it l:Kc} (D:e≠it) :
  J1 P w K (.Tuple elts kk pp) (Ite j K l) [e,it] e (tnEnum j e it l) where
 mem:=by simp
 obj:=fun i h st b hb=>by
  obtain ⟨⟨_,a1⟩,⟨o4,a4,_,d4⟩⟩:=st
  simp only [Qa,Qi,or_false] at hb
  rcases hb with rfl | rfl
  ·exact ⟨_,a1,fun v q=>by cases (show Data.fields _=Data.cell v from q)⟩
  ·exact ⟨_,a4,fun v q=>by rw [d4] at q;cases q⟩
 keep:=fun i h h' st k=>by
  obtain ⟨⟨old,a1⟩,a4⟩:=st
  exact ⟨⟨old,k e (by simp) _ a1⟩,a4.at fun o q=>k it (by simp) o q⟩
 item:=by
  intro X hP hw hK hc i KJ s σ H E I hf st hg
  subst hP hw hK
  obtain ⟨xs,x,hq1,hx⟩:=hg
  obtain ⟨its1,r1,p1,_⟩:=I.seq hq1
  obtain ⟨u1,e1,ru1⟩:=r1.get hx
  obtain ⟨⟨old,a1⟩,a4⟩:=st
  have fe:=hf e (by simp)
  have fi:=hf it (by simp)
  have hlen:=r1.length
  have hil:i<its1.toArray.size:=by have:=(Qs.mp e1).1;simpa using this
  refine wpAny_pyNext_enum_itemD (draws_seq (k:=j) (prog:=X.prog) (w:=X.w) (A:=X.A.in1) (I.ok.hd hc) it l (jK I hq1 fi) its1.toArray) a1 ⟨a4,p1⟩ hil D (by simp only [Qa,Qi,or_false,not_or];exact ⟨D,Ne.symm (jK I hq1 fe)⟩) fun x' h' tk hx' b1 b2 b5 b6 hk=>?_
  have hx':its1.toArray[i]?=some x':=hx'
  have:x'=u1:=by simp at hx';rw [e1] at hx';exact (Option.some.inj hx').symm
  subst this
  refine ⟨.ref s.heap.objs.size,rfl,wpAny_letOwnedTupleGo_enum b1 fun h2 c1 sb=>?_⟩
  have hlt:∀ c∈[e,it],c<s.heap.objs.size:=fun c hc=>by
   simp only [Qa,Qi,or_false] at hc
   rcases hc with rfl | rfl
   ·exact Qr a1
   ·obtain ⟨o,ho,_⟩:=a4;exact Qr ho
  have fr:H s.heap.objs.size=none:=I.hok.fresh (Ql _)
  have k2:∀ c o,c∉[e,it]->s.heap.get? c=some o->h2.get? c=some o:=fun c o hc q=>by
   simp only [Qa,Qi,or_false,not_or] at hc
   exact (sb.2 c hc.1).trans (hk c o hc.1 hc.2 q)
  have T2:h2.get? s.heap.objs.size=some { cls:=.type "tuple",data:=.seq #[.int i tk,x'] }:=(sb.2 _ (PP (hlt e (by simp)))).trans b5
  have hch:∀ b∈[e,it],(b∈X.ex\/X.s₀.heap.objs.size<=b)/\b≠X.env.locals/\(∀ x c,X.env.cells.lookup x=some c->c≠b)/\∀ p∈X.pn++KJ,p.1≠b:=fun b hb=>by
   have fb:J2 X KJ H b:=hf b hb
   exact ⟨fb.2.2.2.1,fb.2.1,fb.2.2.2.2.1,fb.2.2.2.2.2⟩
  have hnone:∀ b∈[e,it],H b=none:=fun b hb=>(hf b hb).1
  have ntr:∀ b u,H b=some u->b∉[e,it]:=fun b u q hb=>by rw [hnone b hb] at q;cases q
  have Hok:HOk X.prog X.w (upd H s.heap.objs.size (.tup [.int i,x])) h2:=fun c o q=>by
   by_cases hcs:c=s.heap.objs.size
   ·subst hcs
    rw [zm] at q
    cases q
    exact ⟨by show 2<=Kg;decide,[.int i tk,x'],.cons ⟨_,rfl⟩ (.cons ru1 .nil),⟨_,T2,rfl,_,rfl⟩⟩
   ·rw [zh hcs] at q
    refine (I.hok c o q).stay (fun d v hd q'=>k2 d v ?_ q') (fun d q'=>?_) fun d xs q'=>?_
    ·rcases hd with rfl | hd
     ·exact ntr _ _ q
     ·exact ntr _ _ hd
    ·rw [zh (Zo q' fr)];exact q'
    ·rw [zh (Zo q' fr)];exact q'
  have nsz:∀ c o,s.heap.get? c=some o->c≠s.heap.objs.size:=fun c o q=>QE (Qr q)
  have I2:Inv X KJ σ (upd H s.heap.objs.size (.tup [.int i,x])) { s with heap:=h2,toks:=tk+1 }:=by
   refine I.step (g':=s.gens) (d':=s.drawn) (ch:=[e,it]) hch (fun b o _ _ hb q _=>k2 b o hb q) (fun b o _ _ hb q _=>⟨o.slots,k2 b o hb q⟩) (fun b o _ q n=>by rw [zh (nsz b o q)];exact n) (fun b o hb q=>⟨o,k2 b o hb q⟩)
    (fun b xs q=>by rw [zh (Zo q fr)];exact q) (fun b o u q=>by rw [zh (Zo q fr)];exact q) (fun b ps q=>⟨#[],by rw [zh (Zo q fr),q];simp⟩) (fun m hm=>?_) Hok I.bare
   obtain ⟨o,es,ep,ho,r⟩:=hm
   refine ⟨o,es,ep,k2 _ o (fun hb=>(hch _ hb).2.1 rfl) ho,r⟩
  refine ⟨.ref s.heap.objs.size,_,I2,rfl,⟨_,x,rfl,fr,rfl,fun zs hz=>by rw [I.seq_inj hz hq1];exact hx⟩,⟨⟨_,c1⟩,b2.1.at fun o q=>(sb.2 _ (Ne.symm D)).trans q⟩,fun b hb=>?_⟩
  rw [zh (QE (hlt b hb))];exact (hf b hb).1
 done:=by
  intro X hP hw hK hc i KJ s σ H E I hf st hg
  subst hP hw hK
  obtain ⟨xs,hq1,hend⟩:=hg
  obtain ⟨its1,r1,p1,_⟩:=I.seq hq1
  obtain ⟨⟨old,a1⟩,a4⟩:=st
  have fe:=hf e (by simp)
  have fi:=hf it (by simp)
  have hlen:=r1.length
  refine wpAny_pyNext_enum_endD (draws_over (k:=j) (prog:=X.prog) (w:=X.w) (A:=X.A.in1) (I.ok.hd hc) it l its1.toArray i (by simp;omega)) a1 ⟨rfl,a4,p1⟩ fun h' hk=>⟨rfl,?_⟩
  exact I.turned (it:=it) (t':=s.toks) (fun b o hb q=>hk b o hb q) fi.1 fi.2.1 fi.2.2.2.1 fi.2.2.2.2.1 fi.2.2.2.2.2
 self:=fun _ _ _ _ _ st h=>wpAny_pyIter_enum st.1.choose_spec h
section
variable {X:Cx}
def iEnum (j:Bool) (K:KC) (ta:TA):TI:=fun σ H R=>ta σ H fun vs H1=>∃ a,vs=[.ref a]/\(∃ xs,Sq j K H1 a xs)/\R (Ite j K a) H1
theorem pi_enum (j:Bool) {elts:List Kv} {kk:Nat} {pp:KB} {a:Kv} {ta:TA} {p pos:KB} (hg:Gl X "enumerate") (hm:X.mg "enumerate"=none) (ha:PA X [a] ta) (hs:Ke [a] X.env=[(false,Kz a X.env)]:=by rfl) :
  PI X (.Tuple elts kk pp) (.Call (.Name "enumerate" p) [a] [] pos) (iEnum j X.K ta):=by
 intro KJ s σ H R I h
 refine Call_ (jX I hg hm boot_enumerate (KH (thn (ha pos KJ s σ H _ I h) fun us s1 ⟨vs,H1,I1,r1,q1⟩=>?_) hs rfl))
 obtain ⟨a,e,⟨xs,hx⟩,q⟩:=q1
 subst e
 cases r1 with
 | cons r rr =>
  cases rr
  cases r
  obtain ⟨its1,_,p1,_⟩:=I1.seq hx
  refine call_enum_seq p1 fun h' c1 c2 c3 up=>wpAny_pyIter_enum c1 ?_
  have I2:Inv X KJ σ H1 { s1 with heap:=h' }:=I1.kept (t':=s1.toks) up
  refine ⟨s1.heap.objs.size+1,[s1.heap.objs.size+1,s1.heap.objs.size],_,_,H1,rfl,I2,turn_enum (j:=j) (it:=s1.heap.objs.size) (Nat.succ_ne_self _),⟨⟨_,c1⟩,c2⟩,fun b hb=>?_,q⟩
  have hb':@LE.le Nat instLENat s1.heap.objs.size b:=by
   simp only [Qa,Qi,or_false] at hb
   rcases hb with rfl | rfl
   ·exact Pt _ 1
   ·exact Ql _
  exact I1.fpOk (H':=H1) hb' (I1.hok.fresh hb')
end
end L2
namespace L2
open PySem PySem.Spec PyProof.Rows
section
variable {X:Cx} {e:Kv} {te:TE} {g:Kw} {p p' kp pos:KB} {k:Nat} {f:Kc} {fd:Kh} {p1:Kw} {sp:Sp}
end
end L2
namespace M
open PySem PySem.Spec L2
open PySem.W (Frag)
section
variable {X:Cx} {os:List Nat} {a:Kv} {ta:TE} {ca:Ev->Option (List D)} {p pos p' kp:KB} {g:Kw} {k:Nat} {fn:Kc} {fd:Kh} {p1:Kw} {m:List D->Option D}
end
end M
namespace L2
open PySem PySem.Spec PyProof.Rows
section
variable {X:Cx}
def rExtendS:V->List V->Hp->VK->Prop:=fun x vs H Q=>∃ l b xs zs,x=.ref l/\vs=[.ref b]/\H l=some (.lst xs)/\Rd H b (.lst zs)/\l≠b/\xs.length+zs.length<=Kg/\Q .non (upd H l (.lst (xs++zs)))
theorem mt_extendS:MtM X "list.extend" rExtendS:=by
 intro KJ s σ H x vs v us Q I rx rv h
 obtain ⟨l,b,xs,zs,rfl,rfl,hH,hB,hne,hz,q⟩:=h
 cases rx
 obtain ⟨u,rfl,ru⟩:=rv.one
 cases ru
 obtain ⟨z,KP,n,r,hl,e⟩:=I.lstM hH
 obtain ⟨z2,its2,n2,r2,e2⟩:=hB.ok I.hok
 have hl2:=r2.length
 have hsz:KP.toArray.size+its2.toArray.size<=Kg:=by rw [Qp,Qp];omega
 have hlong:¬ (!KP.toArray.isEmpty&&Builtin.List.listTooLong (KP.toArray.size+its2.toArray.size))=true:=by
  rw [notLongL hsz,Bool.and_false]
  exact Qh
 refine call_meets F.slot_list_extend ⟨_,e,rfl⟩ F.entry_list_extend (F.args_list_extend_2 _ _)
  (AutoSeq1.list_extend_list_list_0 l KP.toArray n b its2.toArray n2 hlong (by rw [Qp];omega) (by omega)) ⟨e,e2,?_⟩
 refine ⟨.non,_,I.lset (its':=KP++its2) hH e (by simp) (r.append r2) ?_,rfl,q⟩
 rw [Qf]
 omega
end
end L2
namespace M
open PySem PySem.Spec L2
open PySem.W (Frag)
def enumD (xs:List D):List D:=(List.range xs.length).zipWith (fun (i:Nat) x=>.tup [.int i,x]) xs
theorem Jc (xs:List D):(enumD xs).length=xs.length:=by simp [enumD]
theorem enumD_at {xs:List D} {i:Nat} (h:i<xs.length):(enumD xs)[i]?=some (.tup [.int i,xs[i]]):=by
 simp only [enumD]
 rw [List.getElem?_zipWith]
 simp [h]
def fEnum (ca:Ev->Option (List D)):Ev->Option (List D):=fun ρ=>(ca ρ).map enumD
section
variable {X:Cx} {s:Bool} {os:List Nat} {a:Kv} {ta:TE} {ca:Ev->Option (List D)} {p pos:KB}
theorem si_enum {j:Bool} {elts:List Kv} {kk:Nat} {pp:KB} (hg:Gl X "enumerate") (hm:X.mg "enumerate"=none) (ha:SN X s j os a ta ca) (h1:Ke [a] X.env=(false,Kz a X.env)::Ke [] X.env:=by rfl) (hs:Ke [a] X.env=[(false,Kz a X.env)]:=by rfl) {K':KC} (hK:X.K=K':=by rfl) :
  SI X s os (.Tuple elts kk pp) (.Call (.Name "enumerate" p) [a] [] pos) (iEnum j K' (zD ta zW)) (fEnum ca):=by
 subst hK
 exact ⟨pi_enum j hg hm (zv ha.pe zz h1) hs,fun P9 Ua σ H ρ ds R m q kk=>by
 obtain ⟨dx,h1,rfl⟩:=map_some q
 refine ha.ok P9 Ua σ H ρ dx _ m h1 fun a xs H1 s1 hc1 r1=>?_
 refine ⟨a,rfl,⟨xs,hc1.sq⟩,?_⟩
 obtain ⟨P,p0,psq,pmv,pst⟩:=hc1.split
 refine kk _ H1 (fun H B=>P H B/\zr X.K H B dx xs) s1 ⟨fun H B i d ok e=>?_,fun H B i d x H' ok e y=>?_,fun H B i ok hl=>?_⟩
  (fun n hn Ha Hb Ba Bb g kp ok=>⟨pmv n hn _ _ _ _ g kp ok.1,zr.goes g _ _ ok.2⟩) (fun hs H H' B B' g ok=>⟨pst hs _ _ _ _ g ok.1,zr.goes g _ _ ok.2⟩) ⟨p0,r1⟩
 ·have hi:=(Qs.mp e).1
  rw [Jc] at hi
  obtain ⟨u,h5,_⟩:=ok.2.get (i:=i) (d:=dx[i]) (by simp [hi])
  exact ⟨xs,u,psq _ _ ok.1,h5⟩
 ·have hi:=(Qs.mp e).1
  rw [Jc] at hi
  obtain ⟨u,h5,h5'⟩:=ok.2.get (i:=i) (d:=dx[i]) (by simp [hi])
  obtain ⟨q',x1,rfl,hn,rfl,hx⟩:=y
  have e1:=hx xs (psq _ _ ok.1)
  rw [h5] at e1;cases e1
  rw [enumD_at hi] at e;cases e
  refine ⟨zB hn,?_⟩
  simp only [Rep]
  exact ⟨q',_,rfl,.inl (.inl zm),(zr.cons Zz (.one h5')).up (zB hn)⟩
 ·rw [Jc] at hl
  exact ⟨xs,psq _ _ ok.1,by rw [ok.2.length];omega⟩⟩
end
def mExt (i:Nat) (f:Ev->Option D):Ev->Option Out:=fun ρ=>(f ρ).bind fun d=>(asL d).bind fun es=>(ρ[i]?.join).bind fun x=>(asL x).bind fun ds=>if ds.length+es.length<=Kg then some (.nx (ρ.set i (some (.lst (ds++es))))) else none
section
variable {X:Cx} {fr:Bool} {os ol:List Nat} {e ek:Kv} {te tk:TE} {f fk:Ev->Option D} {pos:KB}
theorem WD {i:Nat} {x:Kw} {p apos cpos:KB} (h:SE X true os e te f) (ho:i∈os:=by decide) (hN:X.N[i]?=some x:=by rfl) (hv:Vis X.env.scope x:=by first | exact Or.inl rfl | exact Or.inr (Or.inl rfl) | exact Or.inr (Or.inr rfl)) (hd:(x == ("__debug__":Kw))=false:=by decide)
  (hcd:(x == ("__classdict__":Kw))=false:=by decide) (hs1:Ke [e] X.env=(false,Kz e X.env)::Ke [] X.env:=by rfl)
  (hbase:Kp (.Name x p) "extend" X.env (Kz (.Name x p) X.env)=Kz (.Name x p) X.env:=by rfl)
  (hfew:((Kq cpos (Ke [e] X.env)).all (fun x=>!x.1)&&(Kr cpos (Ks [] X.env)).all (fun x=>x.1.isSome)
   && decide ([e].length+([]:List Keyword).length+(if ([]:List Keyword).isEmpty then 0 else 1)<30))=true:=by rfl)
  (hline:(apos.endLine == cpos.line)=true:=by rfl) (hplain:(Kq cpos (Ke [] X.env)).any (·.1)=false:=by rfl) (hs:Kt (.Call (.Attribute (.Name x p) "extend" apos) [e] [] cpos) none pos.line X.env=pure false:=by rfl) :
  SS X fr os os ol (.Expr (.Call (.Attribute (.Name x p) "extend" apos) [e] [] cpos) pos) (ym (tBM X.K "list" rExtendS (Zn i) (zD te zW))) (mExt i f):=⟨zX (Yz KI PySem.F.slot_list_extend PySem.F.type_list_extend mt_extendS (pv i hN hv hd hcd) (zv h.pe zz hs1) hbase hfew hline hs1 hplain) hs,fun P9 Ua σ H ρ o E mm q k=>by
 obtain ⟨d,h1,h2⟩:=ze q
 obtain ⟨es,h3,h4⟩:=ze h2
 obtain ⟨y,h5,h6⟩:=ze h4
 obtain ⟨ds,h7,h8⟩:=ze h6
 split at h8
 case isFalse=>cases h8
 rename_i hc
 cases h8
 cases y <;> simp only [asL] at h7 <;> cases h7
 cases d <;> simp only [asL] at h3 <;> cases h3
 obtain ⟨a,ob,d',q1,q2,q3,q4,q5⟩:=mm.own i ho
 have h5':=Yh h5
 rw [h5'] at q2;cases q2
 cases ob <;> simp only [Own] at q5
 refine ⟨.ref a,q1,.inl ⟨rfl,_,.inl (.inl q3)⟩,?_⟩
 refine h.ok P9 Ua σ H ρ _ _ mm h1 fun v H1 s1 r1=>?_
 have r1:Rep X.K H1 (Bl Ua os σ) (.lst es) v:=r1
 simp only [Rep] at r1
 obtain ⟨b,zs,rfl,hb,hr⟩:=r1
 have hne:a≠b:=fun z=>hb.2 (.inr ⟨i,ho,by rw [<- z];exact q1⟩)
 have q5':=zr.up s1 q5
 refine ⟨a,b,_,_,rfl,rfl,s1 _ _ q3,hb.1,hne,by rw [q5.length,hr.length];exact hc,k σ _ ?_⟩
 exact (mm.up s1).write ho q1 (o:=.lst _) (d:=.lst _) (by simp only [Own];exact q5'.append hr)⟩
end
end M
namespace EV
open PySem L2 M
theorem Y4 {T:Out->Prop} {f:Ev->Option D} {ρ:Ev} {d:D} (e:f ρ=some d) (k:T (.rt d)):Wo (zR f ρ) T:=by rw [mRet_,e];exact ⟨_,rfl,k⟩
section
variable {ρ:Ev} {fa fb:Ev->Option (List D)}
theorem catv {xs ys:List D} (h1:fa ρ=some xs) (h2:fb ρ=some ys) (hl:xs.length+ys.length<=1000000):Yl fa fb ρ=some (.lst (xs++ys)):=by
 rw [fCat_,h1,oB,h2,oB]
 exact wN (yz (by rw [Qf];exact hl))
theorem lv {f:Ev->Option D} {xs:List D} (h:f ρ=some (.lst xs)):fL f ρ=some xs:=by rw [fL_,h];rfl
theorem Yf {f:Ev->Option D} {d:D} (e:f ρ=some d):Za (za f zi) ρ=some (.lst [d]):=by rw [fLst_,ZQ,e];exact wN (yz (by simp))
end
theorem ints_at:∀ {l:List D} {P:Nat->Int->Prop},(∀ (i:Nat) x,l[i]?=some x->∃ v,x=.int v/\P i v)->∃ vs:List Int,l=vs.map .int/\vs.length=l.length/\∀ i,i<l.length->P i (vs.getD i 0)
 | [],_,_=>⟨[],rfl,rfl,fun i hi=>by simp at hi⟩
 | x::l,P,h=>by
  obtain ⟨v,rfl,pv⟩:=h 0 x rfl
  obtain ⟨vs,e1,e2,e3⟩:=ints_at (l:=l) (P:=fun i=>P (i+1)) fun i y hy=>h (i+1) y (by simpa using hy)
  refine ⟨v::vs,by rw [e1];rfl,by simp [e2],fun i hi=>?_⟩
  cases i with
  | zero=>exact pv
  | succ i=>exact e3 i (by simpa using hi)
theorem fcomp_ints {k:Nat} {fl:Ev->Option (List D)} {u:D->Ev->Option Ev} {c:Ev->Option Bool} {e:Ev->Option D} {ρ:Ev} {ds:List D} (P:Nat->Int->Prop) (I:Ev->Prop) (hfl:fl ρ=some ds) (hm:ds.length<=1000) (h0:I (ρ++List.replicate k none))
  (hs:∀ (i:Nat) d ρ,ds[i]?=some d->I ρ->Wo (u d ρ) fun ρ1=>c ρ1=some true/\Wo (e ρ1) (fun x=>∃ v,x=.int v/\P i v)/\I ρ1):∃ vs:List Int,Zs k fl u c e ρ=some (lstI vs)/\vs.length=ds.length/\∀ i,i<ds.length->P i (vs.getD i 0):=by
 suffices h:Wo (Zs k fl u c e ρ) fun d=>∃ vs:List Int,d=lstI vs/\vs.length=ds.length/\∀ i,i<ds.length->P i (vs.getD i 0) by
  obtain ⟨d,e,vs,rfl,q⟩:=h
  exact ⟨vs,e,q⟩
 rw [fComp_,hfl,oB,wZ]
 refine wo_compAt I (fun i x=>∃ v,x=.int v/\P i v) h0 hs fun xs hx hF=>?_
 obtain ⟨vs,rfl,e2,e3⟩:=ints_at hF
 rw [wN (yz (by rw [hx];omega)),zG]
 rw [hx] at e2 e3
 exact ⟨vs,rfl,e2,e3⟩
section
variable {ρ:Ev} {fl ga gb:Ev->Option (List D)} {f f1 f2 f3 f4:Ev->Option D} {ds xs ys:List D} {d1 d2 d3 d4:D} {c1 c2:Ev->Option Bool}
theorem gm {k:Nat} (hl:fl ρ=some ds) (e:f ρ=some (.int (k:Nat))):wn .lst fl (yv f) fNo ρ=some (.lst (ds.drop k)):=by
 rw [fCut_,hl,oB,fPart_,e,oB,asI_,PQ,oB,fNo_,oB,cutD_from]
theorem cutLTo {k:Nat} (hl:fl ρ=some ds) (e:f ρ=some (.int (k:Nat))):wn .lst fl fNo (yv f) ρ=some (.lst (ds.take k)):=by
 rw [fCut_,hl,oB,fNo_,oB,fPart_,e,oB,asI_,PQ,oB,cutD_to]
theorem andv {b1 b2:Bool} (e1:c1 ρ=some b1) (e2:c2 ρ=some b2):jB c1 c2 ρ=some (b1&&b2):=by
 rw [fAnd_,e1,oB];cases b1
 ·rfl
 ·rw [KQ rfl,e2];rfl
end
theorem rng1v {f:Ev->Option D} {ρ:Ev} {n:Nat} (h:f ρ=some (.int (n:Nat))) (hn:n<=1000):wL f ρ=some (yX 0 n):=by
 refine Wo.eq ?_
 rw [wo_rng1,h,zG,asI_,zG]
 exact ⟨⟨by omega,by omega⟩,by rw [Po]⟩
theorem asg_ {ρ ρ':Ev} {T:Out->Prop} {f:Ev->Option D} {u:D->Ev->Option Ev} {d:D} (e:f ρ=some d) (eu:u d ρ=some ρ') (k:T (.nx ρ')):Wo (mAsg u f ρ) T:=by rw [mAsg_,e,oB,eu];exact ⟨_,rfl,k⟩
end EV
namespace M
open PySem PySem.Spec L2
open PySem.W (Frag)
section
variable {K:KC} {P9 H:Hp} {Ua:Kc->Prop} {os os2:List Nat} {σ:St} {ρ:Ev} {i:Nat} {a:Kc}
end
section
variable {X:Cx} {fr:Bool} {os os2 ol:List Nat} {pos p:KB} {tg:Kv} {m:Ev->Option Out}
end
end M
namespace L2
open PySem PySem.Spec PyProof.Rows
section
variable {X:Cx} {a:Kv} {ta:TE} {p p2 pos pos2:KB}
end
end L2
namespace M
open PySem PySem.Spec L2
open PySem.W (Frag)
section
variable {X:Cx} {os:List Nat} {a:Kv} {ta:TE} {ca:Ev->Option (List D)} {p p2 pos pos2:KB} {k:Nat}
end
end M
namespace L2
open PySem PySem.Spec PyProof.Rows
section
variable {κ:Type} [DecidableEq κ]
def Jp (KO:List (κ×V)) (k:κ):Option V:=(KO.find? fun kv=>decide (kv.1=k)).map (·.2)
def JL (KO:List (κ×V)) (k:κ) (v:V):List (κ×V) :=
 if (KO.any fun kv=>decide (kv.1=k))=true then KO.map (fun kv=>if kv.1=k then (kv.1,v) else kv) else KO++[(k,v)]
theorem Wr {p:κ×V} {r:List (κ×V)} {k:κ} (e:p.1=k):Jp (p::r) k=some p.2:=by simp [Jp,Pi,e]
theorem Ws {p:κ×V} {r:List (κ×V)} {k:κ} (e:¬ p.1=k):Jp (p::r) k=Jp r k:=by simp [Jp,Pi,e]
theorem valV_any (k:κ):∀ KO:List (κ×V),(KO.any fun kv=>decide (kv.1=k))=(Jp KO k).isSome
 | []=>rfl
 | p::r=>by
  rw [Pc]
  by_cases e:p.1=k
  ·simp only [Wr e,KS e,Bool.true_or,Option.isSome_some]
  ·rw [Ws e,KU e,Bool.false_or];exact valV_any k r
theorem wH (KO:List (κ×V)) (k:κ) (v:V):(JL KO k v).length<=KO.length+1:=by
 unfold JL
 split
 ·rw [Qe];omega
 ·rw [Qf,Qg,QB];omega
theorem Jj.isSome_eq {o:Option V} {u:Option Ka} (r:Jj o u):o.isSome=u.isSome:=by
 cases o with
 | none=>cases u with
  | none=>rfl
  | some _=>exact (show False from r).elim
 | some _=>cases u with
  | none=>exact (show False from r).elim
  | some _=>rfl
theorem KV.val {KO:List (κ×V)} {vs:List (κ×Ka)} (r:KV KO vs) (k:κ):Jj (Jp KO k) (valueAt vs k):=by
 unfold KV at r
 induction r with
 | nil=>exact True.intro
 | @cons p q ps qs h t ih =>
  obtain ⟨h1,h2⟩:=h
  by_cases e:p.1=k
  ·have e':q.1=k:=h1.symm.trans e
   have b:valueAt (q::qs) k=some q.2:=by simp [valueAt,Pi,e']
   rw [Wr e,b];exact h2
  ·have e':¬ q.1=k:=fun z=>e (h1.trans z)
   have b:valueAt (q::qs) k=valueAt qs k:=by simp [valueAt,Pi,e']
   rw [Ws e,b];exact ih
theorem KV.any {KO:List (κ×V)} {vs:List (κ×Ka)} (r:KV KO vs) (k:κ):(KO.any fun kv=>decide (kv.1=k))=vs.any fun kv=>decide (kv.1=k):=by
 unfold KV at r
 induction r with
 | nil=>rfl
 | cons h t ih=>rw [Pc,Pc,ih,h.1]
theorem KV.repl {KO:List (κ×V)} {vs:List (κ×Ka)} (r:KV KO vs) (k:κ) {y:V} {u:Ka} (ry:Zr y u) :
  KV (KO.map fun kv=>if kv.1=k then (kv.1,y) else kv) (vs.map fun kv=>if kv.1=k then (kv.1,u) else kv):=by
 unfold KV at r ⊢
 induction r with
 | nil=>exact .nil
 | @cons p q ps qs h t ih =>
  rw [Qk,Qk]
  refine .cons ?_ ih
  obtain ⟨h1,h2⟩:=h
  by_cases e:p.1=k
  ·rw [KQ e,KQ (h1.symm.trans e)];exact ⟨h1,ry⟩
  ·rw [KR e,KR (fun z=>e (h1.trans z))];exact ⟨h1,h2⟩
theorem KV.put {KO:List (κ×V)} {vs:List (κ×Ka)} (r:KV KO vs) (k:κ) {y:V} {u:Ka} (ry:Zr y u):KV (JL KO k y) (stored vs k u):=by
 unfold JL stored
 rw [r.any k]
 by_cases e:(vs.any fun kv=>decide (kv.1=k))=true
 ·rw [KQ e,KQ e];exact r.repl k ry
 ·rw [KR e,KR e];exact Paired.snoc r ⟨rfl,ry⟩
theorem KV.length {KO:List (κ×V)} {vs:List (κ×Ka)} (r:KV KO vs):KO.length=vs.length:=Paired.length r
end
theorem kV_is {P:Ki} {w:Kk} {k:Key} {u:Ka} (r:Zr (kV k) u):(yq P w).is k u=true:=by
 cases k with
 | inl i=>obtain ⟨t,e⟩:=(show ∃ t,u=Value.int i t from r);subst e;exact mixKind_int P w i t
 | inr x=>obtain ⟨t,e⟩:=(show ∃ t,u=Value.str x t from r);subst e;exact mixKind_str P w x t
theorem items_are {P:Ki} {w:Kk}:∀ {ks:List Key} {us:List Ka},zU (ks.map kV) us->ItemsAre (yq P w) ks us
 | [],_,r=>by rw [QJ] at r;cases r;exact .nil
 | k::ks,_,r=>by
  rw [Qk] at r
  cases r with
  | cons h t=>exact .cons (kV_is h) (items_are t)
abbrev KT (H:Hp):List (List Key×V)->List (List Key×Kc×Ka)->Prop:=Paired fun p q=>p.1=q.1/\H q.2.1=some (.tup (p.1.map kV))/\Zr p.2 q.2.2
theorem KT.val {H:Hp} {KO:List (List Key×V)} {xs:List (List Key×Kc×Ka)} (r:KT H KO xs) (k:List Key):Jj (Jp KO k) ((atKey xs k).map (·.2)):=by
 induction r with
 | nil=>exact True.intro
 | @cons p q ps qs h t ih =>
  obtain ⟨h1,_,h2⟩:=h
  by_cases e:p.1=k
  ·have e':q.1=k:=h1.symm.trans e
   have b:atKey (q::qs) k=some q.2:=by simp [atKey,Pi,e']
   rw [Wr e,b];exact h2
  ·have e':¬ q.1=k:=fun z=>e (h1.trans z)
   have b:atKey (q::qs) k=atKey qs k:=by simp [atKey,Pi,e']
   rw [Ws e,b];exact ih
theorem KT.repl {H:Hp} {KO:List (List Key×V)} {xs:List (List Key×Kc×Ka)} (r:KT H KO xs) (k:List Key) {y:V} {u:Ka} (ry:Zr y u) :
  KT H (KO.map fun kv=>if kv.1=k then (kv.1,y) else kv) (xs.map (putAt k u)):=by
 induction r with
 | nil=>exact .nil
 | @cons p q ps qs h t ih =>
  rw [Qk,Qk]
  refine .cons ?_ ih
  obtain ⟨h1,h2,h3⟩:=h
  unfold putAt
  by_cases e:p.1=k
  ·rw [KQ e,KQ (h1.symm.trans e)];exact ⟨h1,h2,ry⟩
  ·rw [KR e,KR (fun z=>e (h1.trans z))];exact ⟨h1,h2,h3⟩
theorem KT.put {H:Hp} {KO:List (List Key×V)} {xs:List (List Key×Kc×Ka)} (r:KT H KO xs) (k:List Key) {b:Kc} {y:V} {u:Ka} (hb:H b=some (.tup (k.map kV))) (ry:Zr y u) :
  KT H (JL KO k y) (storedH xs k b u):=by
 have e:(KO.any fun kv=>decide (kv.1=k))=(atKey xs k).isSome:=by
  rw [valV_any,(r.val k).isSome_eq,Option.isSome_map]
 unfold JL storedH
 rw [e]
 by_cases q:(atKey xs k).isSome=true
 ·rw [KQ q,KQ q];exact r.repl k ry
 ·rw [KR q,KR q];exact Paired.snoc r ⟨rfl,hb,ry⟩
theorem KT.keeps {H H':Hp} {KO:List (List Key×V)} {xs:List (List Key×Kc×Ka)} (r:KT H KO xs) (ht:∀ b ys,H b=some (.tup ys)->H' b=some (.tup ys)):KT H' KO xs :=
 Paired.mapP r fun _ _ z=>⟨z.1,ht _ _ z.2.1,z.2.2⟩
section
variable {P:Ki} {w:Kk} {H:Hp} {h:Kl} {a:Kc}
theorem rd_of {u:HO} (ok:HOk P w H h) (e:Rd H a u):yx P w H h a u:=e.ok ok
theorem dk_rd {KO:List (Key×V)} (ok:HOk P w H h) (e:Rd H a (.dK KO)):KO.length<=Kg/\(a == sysModules)=false/\∃ vs,KV KO vs/\h.DictOf (yq P w) a vs :=
 show yx P w H h a (.dK KO) from rd_of ok e
theorem dk_of {KO:List (Key×V)} (ok:HOk P w H h) (e:H a=some (.dK KO)):KO.length<=Kg/\(a == sysModules)=false/\∃ vs,KV KO vs/\h.DictOf (yq P w) a vs:=dk_rd ok (.inl e)
theorem key_of {ks:List Key} (ok:HOk P w H h) (e:H a=some (.tup (ks.map kV))):(tupleKind (yq P w)).is h ks a:=by
 obtain ⟨_,KP,r,o,h1,h2,n,h3⟩:=(show yx P w H h a (.tup (ks.map kV)) from ok a _ e)
 exact ⟨o,KP.toArray,n,h1,h2,h3,by simpa using items_are r⟩
theorem dt_rd {KO:List (List Key×V)} (ok:HOk P w H h) (e:Rd H a (.dT KO)):KO.length<=Kg/\(a == sysModules)=false /\
  ∃ xs,KT H KO xs/\h.DictOfH (tupleKind (yq P w)) a xs:=by
 obtain ⟨z,y,xs,r,o,es,ep,h1,h2,h3,h4,h5⟩:=(show yx P w H h a (.dT KO) from rd_of ok e)
 refine ⟨z,y,xs,r,o,es,ep,h1,h2,h3,h4,fun x hx=>?_,h5⟩
 have all:∀ {l:List (List Key×V)} {m:List (List Key×Kc×Ka)},KT H l m->∀ x∈m,(tupleKind (yq P w)).is h x.1 x.2.1:=by
  intro l m q
  induction q with
  | nil=>intro x hx;exact nomatch hx
  | @cons p q ps qs hq t ih =>
   intro x hx
   rcases Qa.mp hx with e | hx
   ·subst e
    exact key_of ok (by rw [<- hq.1];exact hq.2.1)
   ·exact ih x hx
 exact all r x hx
theorem dt_of {KO:List (List Key×V)} (ok:HOk P w H h) (e:H a=some (.dT KO)):KO.length<=Kg/\(a == sysModules)=false /\
  ∃ xs,KT H KO xs/\h.DictOfH (tupleKind (yq P w)) a xs:=dt_rd ok (.inl e)
end
def DGet (H:Hp) (a:Kc) (y:V) (r:Option V):Prop :=
 (∃ KO k,Rd H a (.dK KO)/\y=kV k/\r=Jp KO k)\/∃ KO k b,Rd H a (.dT KO)/\y=.ref b/\H b=some (.tup (k.map kV))/\r=Jp KO k
def DPut (H:Hp) (a:Kc) (y v:V) (H':Hp):Prop :=
 (∃ KO k,H a=some (.dK KO)/\y=kV k/\KO.length<Kg/\H'=upd H a (.dK (JL KO k v))) \/
 ∃ KO k b,H a=some (.dT KO)/\y=.ref b/\H b=some (.tup (k.map kV))/\KO.length<Kg/\H'=upd H a (.dT (JL KO k v))
theorem DGet.k {H:Hp} {a:Kc} {KO:List (Key×V)} {k:Key} (e:H a=some (.dK KO)):DGet H a (kV k) (Jp KO k):=.inl ⟨KO,k,.inl e,rfl,rfl⟩
theorem DGet.t {H:Hp} {a b:Kc} {KO:List (List Key×V)} {k:List Key} (e:H a=some (.dT KO)) (eb:H b=some (.tup (k.map kV))):DGet H a (.ref b) (Jp KO k):=.inr ⟨KO,k,b,.inl e,rfl,eb,rfl⟩
theorem DPut.k {H:Hp} {a:Kc} {KO:List (Key×V)} {k:Key} {v:V} (e:H a=some (.dK KO)) (hl:KO.length<Kg):DPut H a (kV k) v (upd H a (.dK (JL KO k v))):=.inl ⟨KO,k,e,rfl,hl,rfl⟩
theorem DPut.t {H:Hp} {a b:Kc} {KO:List (List Key×V)} {k:List Key} {v:V} (e:H a=some (.dT KO)) (eb:H b=some (.tup (k.map kV))) (hl:KO.length<Kg) :
  DPut H a (.ref b) v (upd H a (.dT (JL KO k v))):=.inr ⟨KO,k,b,e,rfl,eb,hl,rfl⟩
section
variable {X:Cx} {KJ:List (Kc×KA)} {σ:St} {H:Hp} {s:Kb} {a:Kc} {y v:V} {u r:Ka} {o:Option V} {A:Kj} {E:Ka->Kb->Prop}
theorem Inv.big (I:Inv X KJ σ H s):sysModules<s.heap.objs.size:=by
 have h:Kf<s.heap.objs.size:=(I.mod.glob.keeps I.bk).lt
 exact Nat.lt_trans (by decide) h
theorem d_getItem {Q:Ka->Kb->Prop} (hu:A.units+1<cLine) (I:Inv X KJ σ H s) (g:DGet H a y (some v)) (ry:Zr y u) (h:∀ w' s',Inv X KJ σ H s'->Zr v w'->Q w' s') :
  Ko (Ky X.prog X.w) A (getItem (.ref a) u) Q E s:=by
 rcases g with ⟨KO,k,e,ey,l⟩ | ⟨KO,k,b,e,ey,eb,l⟩
 ·subst ey
  obtain ⟨z,hd,vs,rel,dd⟩:=dk_rd I.hok e
  obtain ⟨w',hw,rw'⟩:=Jj.some_of (v:=v) (o:=valueAt vs k) (by rw [l];exact rel.val k)
  exact wpAny_getItem_of (kV_is ry) dd.mapOf hw (h w' _ (I.tok _) rw')
 ·subst ey
  cases (show u=Value.ref b from ry)
  obtain ⟨z,hd,xs,rel,dd⟩:=dt_rd I.hok e
  obtain ⟨w',hw,rw'⟩:=Jj.some_of (v:=v) (o:=(atKey xs k).map (·.2)) (by rw [l];exact rel.val k)
  obtain ⟨p,hp,hp2⟩:=PN.mp hw
  refine wpAny_getItem_heap (tupleKind_room_in1 hu) (key_of I.hok eb) dd hp ?_
  rw [hp2]
  exact h w' _ (I.tok _) rw'
theorem d_write {h':Kl} {t':Nat} {ob:HO} (I:Inv X KJ σ H s) (mu:Mut (H a)) (hs:Heap.SameBut a s.heap h') (he:∃ q,h'.get? a=some q) (new:yx X.prog X.w (upd H a ob) h' a ob) :
  Inv X KJ σ (upd H a ob) { s with heap:=h',toks:=t' } :=
 I.write (x:=a) (e:=a) mu (.inl rfl) (fun b q hb z=>(hs.2 b hb).trans z) he new
theorem dk_new {P:Ki} {w:Kk} {H':Hp} {h':Kl} {KO:List (Key×V)} {vs:List (Key×Ka)} (z:KO.length<=Kg) (hd:(a == sysModules)=false) (rel:KV KO vs) (dd:h'.DictOf (yq P w) a vs) :
  yx P w H' h' a (.dK KO):=⟨z,hd,vs,rel,dd⟩
theorem d_setItem {H':Hp} {Q:Unit->Kb->Prop} (hu:A.units+1<cLine) (I:Inv X KJ σ H s) (g:DPut H a y v H') (ry:Zr y u) (rv:Zr v r) (h:∀ s',Inv X KJ σ H' s'->Q () s') :
  Ko (Ky X.prog X.w) A (setItem (.ref a) u r) Q E s:=by
 rcases g with ⟨KO,k,e,ey,l,eH⟩ | ⟨KO,k,b,e,ey,eb,l,eH⟩
 ·subst ey eH
  obtain ⟨z,hd,vs,rel,dd⟩:=dk_of I.hok e
  have hz:vs.length<=Kg:=by rw [<- rel.length];exact z
  have hl:(JL KO k v).length<=Kg:=by have:=wH KO k v;omega
  refine wpAny_setItem_pairs (hsz:=hz) (kV_is ry) dd fun h' dd' hs=>h _ ?_
  have he:∃ q,h'.get? a=some q:=let ⟨q,_,_,hq,_⟩:=dd';⟨q,hq⟩
  exact d_write I (by rw [e];exact True.intro) hs he (dk_new hl hd (rel.put k rv) dd')
 ·subst ey eH
  cases (show u=Value.ref b from ry)
  obtain ⟨z,hd,xs,rel,dd⟩:=dt_of I.hok e
  have hz:xs.length<=Kg:=by rw [<- Paired.length rel];exact z
  have hl:(JL KO k v).length<=Kg:=by have:=wH KO k v;omega
  refine wpAny_setItem_heap (hsz:=hz) (tupleKind_room_in1 hu) (key_of I.hok eb) dd fun h' dd' hs=>h _ ?_
  obtain ⟨q,es,ep,hq,h2,h3,h4,_,h5⟩:=dd'
  refine d_write I (by rw [e];exact True.intro) hs ⟨q,hq⟩ ⟨hl,hd,_,(rel.put k eb rv).keeps fun c ys ec=>?_,q,es,ep,hq,h2,h3,h4,h5⟩
  rw [zh (ne_of ec e (fun z=>nomatch z))]
  exact ec
end
section
variable {X:Cx} {KJ:List (Kc×KA)} {σ:St} {H:Hp} {s:Kb} {a:Kc} {KO:List (Key×V)} {k:Key} {u:Ka} {A:Kj} {E:Ka->Kb->Prop}
end
def NoSl (i:Kv):Prop:=∀ ov iv,subscripted i false ov iv=operate [ov,iv] (getItem ov iv)
theorem subD_of {prog:Ki} {w:Kk} {A:Kj} {E:Ka->Kb->Prop} {s:Kb} {env:Env} {value slice:Kv} {pos:KB} {T id:String} {Q:Ka->Kb->Prop}
  (hl:typeLookup (.type T) "__getitem__"=pure (some (.builtin id))) (hs:NoSl slice)
  (h:Ko (Ky prog w) A (Kz value env) (fun o s₁=>Ko (Ky prog w) A (Kz slice env) (fun i s₂=>s₂.TypeIs o T/\Ko (Ky prog w) A (getItem o i) Q E s₂) E s₁) E s) :
  Ko (Ky prog w) A (Kz (.Subscript value slice pos) env) Q E s:=by
 refine Subscript_ (Q6 h (fun o s₁ h₁=>Q6 h₁ (fun i s₂ h₂=>?_) fun _ _ x=>x) fun _ _ x=>x)
 obtain ⟨hT,h₂⟩:=h₂
 unfold subscriptTail
 refine Qb ?_
 rw [getitemInPython_of_ne hT.not_modules]
 refine Qb (wpAny_specialOf hT hl ?_)
 have fin:Ko (Ky prog w) A (subscripted slice false o i) (fun r s₃=>Ko (Ky prog w) A (letTemporaryGo value o r >>= fun _=>pure r) Q E s₃) E s₂:=by
  rw [hs o i]
  exact wpAny_operating (Q6 h₂ (fun r s₃ h₃=>Qb (wpAny_letTemporaryGo (Qn h₃))) fun _ _ x=>x)
 first
  | exact Qn (Qb fin)
  | exact Qb (Qn (Qb fin))
  | exact Qb fin
theorem dict_typeIs {X:Cx} {KJ:List (Kc×KA)} {σ:St} {H:Hp} {s:Kb} {a:Kc} {y:V} {o:Option V} (I:Inv X KJ σ H s) (g:DGet H a y o):s.TypeIs (.ref a) "dict":=by
 rcases g with ⟨KO,k,e,_,_⟩ | ⟨KO,k,b,e,_,_,_⟩
 ·obtain ⟨_,_,vs,_,dd⟩:=dk_rd I.hok e
  exact dd.typeIs
 ·obtain ⟨_,_,xs,_,dd⟩:=dt_rd I.hok e
  exact dd.typeIs
def tDGet (td ty:TE):TE:=fun σ H Q=>td σ H fun x H1=>ty σ H1 fun y H2=>∃ a v,x=.ref a/\DGet H2 a y (some v)/\Q v H2
def sDPut (td ty tv:TE):TS:=fun D σ H=>tv σ H fun v H1=>td σ H1 fun x H2=>ty σ H2 fun y H3=>∃ a H4,x=.ref a/\DPut H3 a y v H4/\D.nx σ H4
section
variable {X:Cx} {o i e value:Kv} {pos pos' tpos:KB} {td ty tv:TE}
theorem pe_dget (hu:X.A.units+1<cLine) (ho:PE X o td) (hi:PE X i ty) (hs:NoSl i):PE X (.Subscript o i pos) (tDGet td ty):=by
 intro KJ s σ H Q I h
 refine subD_of PySem.F.slot_dict_getitem.lookup hs (thn (ho KJ s σ H _ I h) fun u s1 ⟨x,H1,I1,rx,q1⟩=>thn (hi KJ s1 σ H1 _ I1 q1) fun iv s2 ⟨y,H2,I2,ry,a,v,ex,g,q2⟩=>?_)
 subst ex
 obtain rfl:u=Value.ref a:=rx
 exact ⟨dict_typeIs I2 g,d_getItem hu I2 g ry fun w' s3 I3 rw'=>⟨v,H2,I3,rw',q2⟩⟩
theorem ps_dput (hu:X.A.units+1<cLine) (ho:PE X o td) (hi:PE X i ty) (hv:PE X value tv) (hs:Kt value (some (.Subscript o i pos')) pos.line X.env=pure false) :
  PS X (.Assign [.Subscript o i pos'] value pos) (sDPut td ty tv):=by
 intro KJ s σ H D I h
 refine wpAny_Assign_Subscript (thn (hv KJ s σ H _ I h) fun r s1 ⟨v,H1,I1,rv,q1⟩=>thn (ho KJ s1 σ H1 _ I1 q1) fun u s2 ⟨x,H2,I2,rx,q2⟩=>thn (hi KJ s2 σ H2 _ I2 q2) fun iv s3 ⟨y,H3,I3,ry,a,H4,ex,g,q3⟩=>?_) hs
 subst ex
 obtain rfl:u=Value.ref a:=rx
 exact d_setItem hu I3 g ry rv fun s4 I4=>⟨σ,H4,I4,q3⟩
end
theorem dk_empty {P:Ki} {w:Kk} {H:Hp} (h:Kl) (hb:sysModules<h.objs.size):yx P w H (h.push { cls:=.type "dict",data:=.dict #[] }) h.objs.size (.dK []) :=
 ⟨Q5 _,beq_eq_false_iff_ne.mpr (Ne.symm (QE hb)),[],.nil,Heap.DictOf.new h⟩
def tDNewK:TE:=fun _ H Q=>∀ p,H p=none->Q (.ref p) (upd H p (.dK []))
section
variable {X:Cx} {pos:KB}
theorem pe_dnewK:PE X (.Dict [] [] pos) tDNewK:=fun KJ s σ H Q I h =>
 wpAny_Dict_empty ⟨.ref s.heap.objs.size,_,I.laid (a:=s.heap.objs.size) (o:=.dK []) (t':=s.toks) (fun _ _ q=>Qd _ q) (Ql _) (dk_empty s.heap I.big),rfl,h _ (I.hok.fresh (Ql _))⟩
end
end L2
namespace L2
open PySem PySem.Spec PyProof.Rows
section
variable {X:Cx}
end
end L2
namespace M
open PySem PySem.Spec L2
open PySem.W (Frag)
section
variable {X:Cx} {fr st:Bool} {os os' ol:List Nat} {a:Kv} {ta:TE} {ca:Ev->Option (List D)} {p p' pos pos':KB} {k:Nat}
end
end M
namespace L2
open PySem PySem.Spec PyProof.Rows
section
variable {X:Cx} {KJ:List (Kc×KA)} {σ:St} {H:Hp} {s:Kb} {a:Kc}
end
end L2
namespace M
open PySem PySem.Spec L2
open PySem.W (Frag)
theorem Md.forget {K:KC} {P9 H:Hp} {Ua:Kc->Prop} {os:List Nat} {σ:St} {ρ:Ev} (m:Md K P9 Ua os σ H ρ) {i:Nat} {v:Option V} (hi:i∉os):Md K P9 Ua os (σ.set i v) H (ρ.set i none):=by
 have hb:Bl Ua os (σ.set i v)=Bl Ua os σ:=bl_eq fun j hj=>zf fun z=>hi (z▸hj)
 refine ⟨m.grow,m.blk,by rw [Qu,Qu];exact m.len,fun j d q n=>?_,fun j hj=>?_,fun j k a h1 h2=>?_⟩
 ·have hj:j≠i:=fun z=>by
   subst z
   have:=yD q
   cases this
  rw [zf hj] at q
  obtain ⟨w',q1,q2⟩:=m.sh j d q n
  exact ⟨w',by rw [zf hj];exact q1,by rw [hb];exact q2⟩
 ·have hne:j≠i:=fun z=>hi (z▸hj)
  obtain ⟨a,o,d,q1,q2,q3,q4,q5⟩:=m.own j hj
  exact ⟨a,o,d,by rw [zf hne];exact q1,by rw [zf hne];exact q2,q3,q4,by rw [hb];exact q5⟩
 ·rw [zf (show j≠i from fun z=>hi (z▸h1)),zf (show k≠i from fun z=>hi (z▸h2))]
  exact m.sep j k a h1 h2
def onlyRt:Out->Option Out
 | .rt d=>some (.rt d)
 | _=>none
def mXIf (c:Ev->Option Bool) (ma m:Ev->Option Out):Ev->Option Out:=fun ρ=>(c ρ).bind fun b=>if b then (ma ρ).bind onlyRt else m ρ
section
variable {X:Cx} {fr:Bool} {i:Nat} {os' ol:List Nat} {Zg:List Kx} {t:TS} {m:Ev->Option Out} {pos:KB}
end
def asE:D->Option (List D)
 | .lst ds=>some ds
 | .scr ns=>some (ns.map .int)
 | .tup ds=>some ds
 | _=>none
def fAny (f:Ev->Option D):Ev->Option (List D):=fun ρ=>(f ρ).bind asE
def iOr (a b:TI):TI:=fun σ H R=>a σ H R\/b σ H R
theorem si_any {X:Cx} {os:List Nat} {e tg:Kv} {t:TE} {f:Ev->Option D} (h:SE X true os e t f) {K':KC} (hK:X.K=K':=by rfl):SI X true os tg e (iOr (iList K' t) (iTup K' t)) (fAny f):=by
 have a:=Z9 (tg:=tg) (SE.sn (k:=true) h) hK
 have b:=J4 (tg:=tg) (SE.sn (k:=false) h) hK
 refine ⟨fun KJ s σ H R I w=>w.elim (a.pi KJ s σ H R I) (b.pi KJ s σ H R I),fun P9 Ua σ H ρ ds R m q kk=>?_⟩
 obtain ⟨x,h1,h2⟩:=ze q
 cases x <;> simp only [asE] at h2 <;> cases h2
 ·exact .inr (b.ok P9 Ua σ H ρ _ R m (by simp [zk,h1,asK]) kk)
 ·exact .inl (a.ok P9 Ua σ H ρ _ R m (by simp [zk,h1,asK]) kk)
 ·exact .inl (a.ok P9 Ua σ H ρ _ R m (by simp [zk,h1,asK]) kk)
end M
namespace L2
open PySem PySem.Spec PyProof.Rows
theorem argsMaxD (a d:Ka):argsOk "max" { pos:=[a],kw:=[(Str.ofString "default",d)] }:=by rfl
theorem sz2:(2:Nat)<=Kg:=by decide
theorem sz3:(2:Nat)<=Kg+1:=by decide
theorem Yb (args:Args):(Code.builtin "max.loop" args).quiet=true:=Code.quiet_builtin _ (by have h:=F.plain_max_loop;unfold plainId at h;simp only [QC,Pp] at h;exact h.1.1)
section
variable {prog:Ki} {w:Kk} {A:Kj} {R:Result->Kb->Prop} {I:Kc} {fp wr:List Kc} {n:Nat} {P:Nat->Ka->Prop} {St:Nat->Kl->Prop}
theorem maxLoop_goD (W:Walks prog w A.in1 I fp wr n P St) (bt:Nat->Nat->Bool) (C:CmpOf prog w A.in1 CmpOp.Gt P bt) (S:Kc) (hS:S∉fp) (d:Ka) :
  ∀ (k j:Nat) (s:Kb) (vb:Ka) (c:Nat),n - (j+1)=k->j+1<=n->St (j+1) s.heap->P (argBest bt j) vb->s.heap.get? S=some { cls:=Value.type "list",data:=Data.seq #[vb,vb] c } ->
   (∀ (v:Ka) (h':Kl) (tk:Nat),P (argBest bt (n - 1)) v->(∀ (b:Kc) (o:KA),b∉wr->b≠S->s.heap.get? b=some o->h'.get? b=some o)->R (.ok (.ret v)) { s with heap:=h',toks:=tk }) ->
   codeAny (Ky prog w) A (Code.builtin "max.loop" { pos:=[.ref I,.none,.ref S],kw:=[(Str.ofString "default",d)] }) R s:=by
 intro k
 induction k with
 | zero =>
  intro j s vb c hk hj hst hP hs hR
  refine codeAny_builtin F.entry_max_loop ?_
  refine Qb (QW hs rfl ?_)
  dsimp only
  refine Qb (PV ?_)
  have e:j+1=n:=by omega
  rw [e] at hst
  refine W.done _ _ _ hst fun h' tk hk'=>?_
  have hs':h'.get? S=some { cls:=Value.type "list",data:=Data.seq #[vb,vb] c }:=hk' _ _ (fun z=>hS (W.sub _ z)) hs
  dsimp only
  refine Qb (wpAny_updateSeq (s:={ s with heap:=h',toks:=tk }) hs' rfl ?_ sz2 (by decide))
  refine Qb (Pw ?_)
  refine Qn ?_
  refine hR vb _ _ (by rw [<- e];simpa using hP) fun b o h1 h2 h3=>?_
  rw [P1 _ _ _ _ h2]
  exact hk' b o h1 h3
 | succ k ih =>
  intro j s vb c hk hj hst hP hs hR
  refine codeAny_builtin F.entry_max_loop ?_
  refine Qb (QW hs rfl ?_)
  dsimp only
  refine Qb (PV ?_)
  refine W.item (j+1) _ _ _ (by omega) hst fun v h' tk hv hst' hk'=>?_
  have hs':h'.get? S=some { cls:=Value.type "list",data:=Data.seq #[vb,vb] c }:=hk' _ _ (fun z=>hS (W.sub _ z)) hs
  dsimp only
  refine Qb (Qn ?_)
  refine Qb (PV (Pv (Qb (C _ _ _ _ _ _ _ hv hP ?_))))
  refine Qb (Pv (QS ?_))
  refine Qb (Pw (Qn ?_))
  by_cases hb:bt (j+1) (argBest bt j)=true
  ·rw [KQ hb]
   refine Qb (wpAny_updateSeq (s:={ s with heap:=h',toks:=tk }) hs' rfl ?_ sz2 sz3)
   refine Qb (Pw ?_)
   refine Qn ⟨Yb _,?_⟩
   have hs2:(h'.update S (Obj.mapSeq fun _=>#[v,v])).get? S=some { cls:=Value.type "list",data:=Data.seq #[v,v] c }:=Pq _ hs' rfl
   have fr:∀ b o,b≠S->h'.get? b=some o->(h'.update S (Obj.mapSeq fun _=>#[v,v])).get? b=some o:=fun b o hb q=>by rw [P1 _ _ _ _ hb];exact q
   refine ih (j+1) _ v c (by omega) (by omega) (W.frame _ _ _ hst' fun b hb o q=>fr b o (fun z=>hS (z▸hb)) q) ?_ hs2 fun v' h2 tk2 hv' hk2=>?_
   ·simp only [argBest,hb,if_true];exact hv
   ·exact hR v' h2 tk2 hv' fun b o h1 h2' h3=>hk2 b o h1 h2' (fr b o h2' (hk' b o h1 h3))
  ·rw [KR hb]
   refine Qb (Pw ?_)
   refine Qn ⟨Yb _,?_⟩
   refine ih (j+1) _ vb c (by omega) (by omega) hst' ?_ hs' fun v' h2 tk2 hv' hk2=>?_
   ·simp only [argBest,hb,if_false];exact hP
   ·exact hR v' h2 tk2 hv' fun b o h1 h2' h3=>hk2 b o h1 h2' (hk' b o h1 h3)
theorem W3 (W:Walks prog w A.in1 I fp wr n P St) (bt:Nat->Nat->Bool) (C:CmpOf prog w A.in1 CmpOp.Gt P bt) (S:Kc) (hS:S∉fp) (d:Ka) {s:Kb} {c:Nat} (hst:St 0 s.heap)
  (hs:s.heap.get? S=some { cls:=Value.type "list",data:=Data.seq #[] c })
  (hR:∀ (v:Ka) (h':Kl) (tk:Nat),(n=0->v=d)->(0<n->P (argBest bt (n - 1)) v)->(∀ (b:Kc) (o:KA),b∉wr->b≠S->s.heap.get? b=some o->h'.get? b=some o)->R (.ok (.ret v)) { s with heap:=h',toks:=tk }) :
  codeAny (Ky prog w) A (Code.builtin "max.loop" { pos:=[.ref I,.none,.ref S],kw:=[(Str.ofString "default",d)] }) R s:=by
 refine codeAny_builtin F.entry_max_loop ?_
 refine Qb (QW hs rfl ?_)
 dsimp only
 refine Qb (PV ?_)
 rcases Nat.eq_zero_or_pos n with h0 | h0
 ·subst h0
  refine W.done _ _ _ hst fun h' tk hk'=>?_
  dsimp only
  refine Qb (wpAny_rule ?_)
  refine Qn ?_
  exact hR d h' tk (fun _=>rfl) (fun z=>absurd z (by omega)) fun b o h1 _ h3=>hk' b o h1 h3
 ·refine W.item 0 _ _ _ h0 hst fun v h' tk hv hst' hk'=>?_
  have hs':h'.get? S=some { cls:=Value.type "list",data:=Data.seq #[] c }:=hk' _ _ (fun z=>hS (W.sub _ z)) hs
  dsimp only
  refine Qb (Qn ?_)
  refine Qb (wpAny_updateSeq (s:={ s with heap:=h',toks:=tk }) hs' rfl ?_ (by decide) sz3)
  refine Qn ⟨Yb _,?_⟩
  obtain ⟨c2,hs2⟩:∃ c2,(h'.update S (Obj.mapSeq fun _=>#[v,v])).get? S=some { cls:=Value.type "list",data:=Data.seq #[v,v] c2 }:=⟨_,Pq _ hs' rfl⟩
  have fr:∀ b o,b≠S->h'.get? b=some o->(h'.update S (Obj.mapSeq fun _=>#[v,v])).get? b=some o:=fun b o hb q=>by rw [P1 _ _ _ _ hb];exact q
  refine maxLoop_goD W bt C S hS d (n - 1) 0 _ v c2 (by omega) (by omega) (W.frame _ _ _ hst' fun b hb o q=>fr b o (fun z=>hS (z▸hb)) q) (by simpa [argBest] using hv) hs2 fun v' h2 tk2 hv' hk2=>?_
  exact hR v' h2 tk2 (fun z=>absurd h0 (by omega)) (fun _=>hv') fun b o h1 h2' h3=>hk2 b o h1 h2' (fr b o h2' (hk' b o h1 h3))
theorem gw {E:Ka->Kb->Prop} {s:Kb} {x d:Ka} {Q:Ka->Kb->Prop}
  (h:Ko (Ky prog w) A.in1 (pyIter x) (fun it s₂=>∃ (I:Kc) (fp wr:List Kc) (n:Nat) (P:Nat->Ka->Prop) (St:Nat->Kl->Prop) (bt:Nat->Nat->Bool),it=.ref I/\Walks prog w A.in1 I fp wr n P St/\St 0 s₂.heap/\(∀ b∈fp,b<s₂.heap.objs.size)/\CmpOf prog w A.in1 CmpOp.Gt P bt /\
   ∀ (v:Ka) (h':Kl) (tk:Nat),(n=0->v=d)->(0<n->P (argBest bt (n - 1)) v)->(∀ (b:Kc) (o:KA),b∉wr->s₂.heap.get? b=some o->h'.get? b=some o)->Q v { s₂ with heap:=h',toks:=tk }) E s) :
  Ko (Ky prog w) A (call (.builtin "max") [x] [(Str.ofString "default",d)]) Q E s:=by
 refine kmk_tree F.kind_max F.plain_max F.entry_max (argsMaxD x d) ?_
 refine Qb ?_
 have eb:Builtin.Builtins.bindParams "max" ["key","default"] 0 { kw:=[(Str.ofString "default",d)] }=pure [none,some d]:=by rfl
 rw [show ({ pos:=[x],kw:=[(Str.ofString "default",d)] }:Args).kw=[(Str.ofString "default",d)] from rfl,eb]
 refine Qn ?_
 dsimp only
 refine Qb (Qn ?_)
 refine Qb (thn h fun it s₂ ⟨I,fp,wr,n,P,St,bt,e,W,st,hfp,C,k⟩=>?_)
 subst e
 refine Qb (wpAny_newList ?_ (by decide))
 refine Qn ⟨Yb _,?_⟩
 have hb:∀ b o,s₂.heap.get? b=some o->(s₂.heap.push { cls:=.type "list",data:=.seq #[] }).get? b=some o:=fun b o q=>Qd _ q
 refine W3 W bt C s₂.heap.objs.size (fun z=>QV _ (hfp _ z)) d (s:={ s₂ with heap:=s₂.heap.push { cls:=.type "list",data:=.seq #[] } }) (W.frame _ _ _ st fun b _ o q=>hb b o q) (Qo _ rfl) fun v h' tk h1 h2 hk=>?_
 exact k v h' tk h1 h2 fun b o hw q=>hk b o hw (QE (Qr q)) (hb b o q)
end
section
variable {X:Cx} {tg:Kv}
def tMaxD (k:Bool) (K:KC) (d:Int) (te:TE):TE:=fun σ H Q=>te σ H fun x H1=>∃ (q:Kc) (ns:List Int),x=.ref q/\Sq k K H1 q (ns.map V.int)/\Q (.int (if ns=[] then d else maxI ns)) H1
theorem pe_maxD {e:Kv} {te:TE} {p pos cp kp:KB} {d:Int} {j:Nat} (k:Bool) (hc:X.calm=true) (hg:Gl X "max") (hm:X.mg "max"=none) (he:PE X e te) (h1:Ke [e] X.env=(false,Kz e X.env)::Ke [] X.env:=by rfl)
  (hk:(Kr pos (Ks [⟨some "default",.Constant (.int d) j cp,kp⟩] X.env))=[(some ("default":Kw),do let v <- Kz (.Constant (.int d) j cp) X.env;standAt pos;pure v)]:=by rfl) :
  PE X (.Call (.Name "max" p) [e] [⟨some "default",.Constant (.int d) j cp,kp⟩] pos) (tMaxD k X.K d te):=by
 intro KJ s σ H Q I h
 refine Pj (jX I hg hm boot_max ?_)
 refine callWith_kw (thn ((zv he zz h1) pos KJ s σ H (fun vs H1=>match vs with
  | [x]=>∃ (q:Kc) (ns:List Int),x=.ref q/\Sq k X.K H1 q (ns.map V.int)/\Q (.int (if ns=[] then d else maxI ns)) H1
  | _=>False) I h) fun us s1 ⟨vs,H1,I1,r,q⟩=>?_) (by rw [h1];rfl) (by rw [h1];rfl) (by rw [hk];rfl) (by rw [hk];rfl)
 match vs,q with
 | [_],q =>
  obtain ⟨fa,ns,rfl,hq,q⟩:=q
  obtain ⟨u,rfl,ru⟩:=r.one
  cases ru
  rw [hk]
  refine wpAny_evalAll_cons (Qb (thn (ZC (X:=X) (i:=d) (j:=j) KJ s1 σ H1 (fun v H'=>v=.int d/\H'=H1) I1 ⟨rfl,rfl⟩) fun du s2 ⟨x,H2,I2,rx,ex,eH⟩=>?_))
  subst ex;subst eH
  obtain ⟨t,rfl⟩:=rx
  refine Qb (P3 (Qn ?_))
  refine wpAny_evalAll_nil ?_
  refine gw (W9 hc I2 hq fun KP s₂ fp wr S rv W st hfp fin=>?_)
  have hl:KP.toArray.size=ns.length:=by have:=rv.length;simpa using this.symm
  refine ⟨_,fp,wr,_,_,S,_,rfl,W,st,hfp,CmpOf.ints_gt (fun i=>ns.getD i 0) (fun i v hv=>Wq rv hv),fun v h' tk h0 hv hk'=>?_⟩
  rw [hl] at h0 hv
  by_cases hn:ns=[]
  ·rw [KQ hn] at q
   have:=h0 (by rw [hn];rfl)
   subst this
   exact ⟨.int d,H2,fin h' tk hk',⟨t,rfl⟩,q⟩
  ·rw [KR hn] at q
   have hpos:0<ns.length:=by cases ns with | nil=>exact absurd rfl hn | cons a r=>simp
   obtain ⟨t2,rfl⟩:=Wq rv (hv hpos)
   obtain ⟨_,e⟩:=maxI_pre ns (ns.length - 1) (by omega)
   rw [show ns.length - 1+1=ns.length by omega,PM] at e
   exact ⟨.int (maxI ns),H2,fin h' tk hk',⟨t2,by rw [e];rfl⟩,q⟩
end
end L2
namespace M
open PySem PySem.Spec L2
open PySem.W (Frag)
def Z6:List Key->List D->Key->Option D
 | k'::ks,d::ds,k=>if k'=k then some d else Z6 ks ds k
 | _,_,_=>none
def J7 (k:Key) (d:D):List Key->List D->List D
 | k'::ks,x::ds=>(if k'=k then d else x)::J7 k d ks ds
 | _,ds=>ds
def wm (ks:List Key) (k:Key):Bool:=ks.any fun k'=>decide (k'=k)
def putKs (ks:List Key) (k:Key):List Key:=if wm ks k=true then ks else ks++[k]
def putDs (ks:List Key) (ds:List D) (k:Key) (d:D):List D:=if wm ks k=true then J7 k d ks ds else ds++[d]
def dGet:D->D->Option D
 | .dict ks ds,.int i=>Z6 ks ds (.inl i)
 | _,_=>none
def asDc:D->Option (List Key×List D)
 | .dict ks ds=>some (ks,ds)
 | _=>none
def mDPut (im:Nat) (fk fv:Ev->Option D):Ev->Option Out:=fun ρ=>(fv ρ).bind fun d=>(ρ[im]?.join).bind fun x=>(asDc x).bind fun kd=>(fk ρ).bind fun y=>(asI y).bind fun i =>
 if kd.1.length<Kg then some (.nx (ρ.set im (some (.dict (putKs kd.1 (.inl i)) (putDs kd.1 kd.2 (.inl i) d))))) else none
section
variable {K:KC} {H:Hp} {B:Kc->Prop}
theorem look_v:∀ {KO:List (Key×V)} {ds:List D} {k:Key} {d:D},zr K H B ds (KO.map (·.2))->Z6 (KO.map (·.1)) ds k=some d->∃ v,Jp KO k=some v/\Rep K H B d v
 | [],ds,k,d,h,e=>by cases ds <;> simp [Z6] at e
 | kv::KO,[],k,d,h,e=>by simp [Z6] at e
 | kv::KO,x::ds,k,d,h,e=>by
  simp only [Qk,zr] at h
  obtain ⟨v,r,e1,h1,h2⟩:=h
  cases e1
  simp only [Qk,Z6] at e
  by_cases hk:kv.1=k
  ·rw [KQ hk] at e
   cases e
   exact ⟨kv.2,by simp [Jp,hk],h1⟩
  ·rw [KR hk] at e
   obtain ⟨v,q1,q2⟩:=look_v h2 e
   exact ⟨v,by simpa [Jp,hk] using q1,q2⟩
theorem rep_map (k:Key) (v:V):∀ KO:List (Key×V),(KO.map fun kv=>if kv.1=k then (kv.1,v) else kv).map (·.1)=KO.map (·.1)
 | []=>rfl
 | kv::KO=>by
  rw [Qk,Qk,Qk,rep_map k v KO]
  by_cases h:kv.1=k <;> simp [h]
theorem rep_reps (k:Key) {d:D} {v:V} (hd:Rep K H B d v):∀ {KO:List (Key×V)} {ds:List D},zr K H B ds (KO.map (·.2))->zr K H B (J7 k d (KO.map (·.1)) ds) ((KO.map fun kv=>if kv.1=k then (kv.1,v) else kv).map (·.2))
 | [],ds,h=>by
  cases ds with
  | nil=>simpa [J7] using h
  | cons x ds=>simp [zr] at h
 | kv::KO,[],h=>by simp [zr] at h
 | kv::KO,x::ds,h=>by
  simp only [Qk,zr] at h
  obtain ⟨w,r,e1,h1,h2⟩:=h
  cases e1
  simp only [Qk,J7]
  refine .cons ?_ (rep_reps k hd h2)
  by_cases hk:kv.1=k
  ·simp only [KQ hk];exact hd
  ·simp only [KR hk];exact h1
theorem any_mem (k:Key) (KO:List (Key×V)):(KO.any fun kv=>decide (kv.1=k))=wm (KO.map (·.1)) k:=by
 unfold wm
 rw [List.any_map]
 rfl
theorem put_own {KO:List (Key×V)} {ds:List D} {k:Key} {d:D} {v:V} (hd:Rep K H B d v) (h:zr K H B ds (KO.map (·.2))):Own K H B (.dK (JL KO k v)) (.dict (putKs (KO.map (·.1)) k) (putDs (KO.map (·.1)) ds k d)):=by
 simp only [Own]
 unfold JL putKs putDs
 rw [any_mem]
 by_cases hk:wm (KO.map (·.1)) k=true
 ·rw [KQ hk,KQ hk,KQ hk]
  exact ⟨rep_map k v KO,rep_reps k hd h⟩
 ·rw [KR hk,KR hk,KR hk]
  rw [Qz,Qz]
  exact ⟨rfl,h.append (.one hd)⟩
end
section
variable {X:Cx} {fr st s:Bool} {os os' ol:List Nat} {o a i e tg:Kv} {td ta ti te:TE} {fo fa fi f:Ev->Option D} {ca:Ev->Option (List D)} {p p' pos pos':KB} {k:Nat}
theorem sf_dnew:SF X os (.Dict [] [] pos) tDNewK (fC (.dict [] [])):=⟨pe_dnewK,fun P9 Ua σ H ρ d Q m q kk=>by
 cases q
 intro p hp
 exact kk p (.dK []) _ (zB hp) hp zm (by simp only [Own];exact ⟨rfl,.nil⟩)⟩
theorem Wi (hr:Room k X.A) (ho:SE X st os o td fo) (hi:SE X st os i ti fi) (hs:NoSl i:=by intro _ _;rfl):SE X st os (.Subscript o i pos) (tDGet td ti) (f2 dGet fo fi):=⟨pe_dget (hu_of hr) ho.pe hi.pe hs,fun P9 Ua σ H ρ d Q m q kk=>by
 obtain ⟨x,h1,h2⟩:=ze q
 obtain ⟨y,h3,h4⟩:=ze h2
 refine ho.ok P9 Ua σ H ρ x _ m h1 fun v H1 s1 r1=>?_
 refine hi.ok P9 Ua σ H1 ρ y _ (m.up s1) h3 fun u H2 s2 r2=>?_
 cases x <;> cases y <;> simp only [dGet] at h4 <;> try (cases h4)
 have r1':=r1.up s2
 simp only [Rep] at r1' r2
 obtain ⟨b,KO,rfl,⟨hb,_⟩,rfl,hr⟩:=r1'
 subst r2
 obtain ⟨w',g1,g2⟩:=look_v hr h4
 exact ⟨b,w',rfl,by rw [<- g1];exact DGet.k (k:=.inl _) hb,kk w' H2 (s1.trans s2) g2⟩⟩
theorem ss_dput (im:Nat) {y:Kw} {pv1:KB} (hr:Room k X.A) (hi:SE X false os i ti fi) (hv:SE X true os e te f) (ho:im∈os:=by decide) (hN:X.N[im]?=some y:=by rfl) (hvis:Vis X.env.scope y:=by first | exact Or.inl rfl | exact Or.inr (Or.inl rfl) | exact Or.inr (Or.inr rfl)) (hd:(y == ("__debug__":Kw))=false:=by decide)
  (hcd:(y == ("__classdict__":Kw))=false:=by decide) (hs:Kt e (some (.Subscript (.Name y pv1) i pos')) pos.line X.env=pure false:=by rfl) :
  SS X fr os os ol (.Assign [.Subscript (.Name y pv1) i pos'] e pos) (sDPut (Zn im) ti te) (mDPut im fi f) :=
 ⟨ps_dput (hu_of hr) (pv im hN hvis hd hcd) hi.pe hv.pe hs,fun P9 Ua σ H ρ o E m q kk=>by
 obtain ⟨d,q1,q2⟩:=ze q
 obtain ⟨x,q3,q4⟩:=ze q2
 obtain ⟨kd,q5,q6⟩:=ze q4
 obtain ⟨yy,q7,q8⟩:=ze q6
 obtain ⟨n,q9,q10⟩:=ze q8
 split at q10
 case isFalse=>cases q10
 rename_i hl
 cases q10
 cases x <;> simp only [asDc] at q5 <;> cases q5
 obtain ⟨a,ob,d',g1,g2,g3,g4,g5⟩:=m.own im ho
 rw [Yh q3] at g2;cases g2
 cases ob <;> simp only [Own] at g5
 rename_i KO
 obtain ⟨rfl,g5⟩:=g5
 refine hv.ok P9 Ua σ H ρ d _ m q1 fun v H1 s1 r1=>?_
 refine ⟨.ref a,g1,?_⟩
 refine hi.ok P9 Ua σ H1 ρ yy _ (m.up s1) q7 fun w' H2 s2 r2=>?_
 have e2:=asI_v r2 q9
 subst e2
 refine ⟨a,_,rfl,DPut.k (k:=.inl n) (s2 _ _ (s1 _ _ g3)) (by simpa using hl),kk σ _ ?_⟩
 exact (m.up (s1.trans s2)).write ho g1 (put_own (r1.up s2) (g5.up (s1.trans s2)))⟩
def Jo (d:Int) (ds:List D):Option D:=(Jm ds).map fun ns=>.int (if ns=[] then d else maxI ns)
theorem se_maxD {kk:Bool} {cp kp:KB} {d:Int} {j:Nat} (hc:X.calm=true) (hg:Gl X "max") (hm:X.mg "max"=none) (ha:SC X kk os a ta ca) (h1:Ke [a] X.env=(false,Kz a X.env)::Ke [] X.env:=by rfl)
  (hk:(Kr pos (Ks [⟨some "default",.Constant (.int d) j cp,kp⟩] X.env))=[(some ("default":Kw),do let v <- Kz (.Constant (.int d) j cp) X.env;standAt pos;pure v)]:=by rfl) {K':KC} (hK:X.K=K':=by rfl) :
  SE X st os (.Call (.Name "max" p) [a] [⟨some "default",.Constant (.int d) j cp,kp⟩] pos) (tMaxD kk K' d ta) (fA (Jo d) ca):=by
 subst hK
 exact ⟨pe_maxD kk hc hg hm ha.pe h1 hk,fun P9 Ua σ H ρ x Q m q k=>by
  obtain ⟨ds,e1,e2⟩:=ze q
  obtain ⟨ns,e3,rfl⟩:=map_some e2
  refine ha.ok P9 Ua σ H ρ ds _ m e1 fun b xs H1 s1 hq r=>?_
  rw [JQ e3] at r
  rw [r.ints'] at hq
  exact ⟨b,ns,rfl,hq,k _ H1 s1 Zz⟩⟩
end
theorem _root_.L2.FnOk.no {P:Ki} {w:Kk} {K:KC} {mg:Kw->Option Ka} {base:Kl} {k:Nat} {f:Kc} {fd:Kh} {ps:List Kw}:FnOk P w K mg base CX0 k f fd ps (spM K fun _=>none) :=
 ⟨fun _ _ _ _ ⟨_,_,_,_,_,e,_⟩=>(nomatch e),fun _ _ _ _ _ _ _ _ _ _ _ _ _ ⟨_,_,_,_,_,e,_⟩=>(nomatch e)⟩
section
variable {X:Cx} {os os' ol:List Nat} {pos p p1 p2 p3:KB} {x:Kw} {j q:Nat}
theorem ss_retRow1 (h1:Ke [.Constant (.str x) j p1,.List [] p2] X.env=(false,Kz (.Constant (.str x) j p1) X.env)::Ke [.List [] p2] X.env:=by rfl) (h2:Ke [.List [] p2] X.env=(false,Kz (.List [] p2) X.env)::Ke [] X.env:=by rfl) :
  SS X true os os' ol (.Return (some (.Tuple [.Constant (.str x) j p1,.List [] p2] q p)) pos) (tRet (Wv (zD (tC (.str x)) (zD (ji zW) zW)))) (zR (ZO (za (fC (.str x)) (za (Za zi) zi)))) :=
 ⟨J9 (jr (zv Yy (zv (yn zz) zz h2) h1)),fun P9 Ua σ H ρ o E mm qq k=>by
 obtain ⟨d,e1,rfl⟩:=map_some qq
 have e2:ZO (za (fC (.str x)) (za (Za zi) zi)) ρ=some (.tup [.str x,.lst []]):=by
  show (some [D.str x,D.lst []]).bind wW=_
  rw [oB,wW,KQ (by show 2<=Kg;decide)]
 rw [e2] at e1;cases e1
 refine ⟨by show 0<=Kg;decide,fun a ha=>⟨by show 2<=Kg;decide,fun b hb=>?_⟩⟩
 have s1:zO H (upd H a (.lst [])):=zB ha
 have s2:zO (upd H a (.lst [])) (upd (upd H a (.lst [])) b (.tup [.str x,.ref a])):=zB hb
 refine k _ _ ((mm.up (s1.trans s2)).grow) (mm.up (s1.trans s2)).blk (.inr (.inr ⟨b,x,[a],rfl,rfl,by simp,fun c hc=>?_,zm⟩))
 rw [Qm.mp hc]
 exact ⟨mm.grow.free ha,s2 _ _ zm⟩⟩
theorem ss_retRow2 (h1:Ke [.Constant (.str x) j p1,.List [] p2,.List [] p3] X.env=(false,Kz (.Constant (.str x) j p1) X.env)::Ke [.List [] p2,.List [] p3] X.env:=by rfl) (h2:Ke [.List [] p2,.List [] p3] X.env=(false,Kz (.List [] p2) X.env)::Ke [.List [] p3] X.env:=by rfl)
  (h3:Ke [.List [] p3] X.env=(false,Kz (.List [] p3) X.env)::Ke [] X.env:=by rfl) :
  SS X true os os' ol (.Return (some (.Tuple [.Constant (.str x) j p1,.List [] p2,.List [] p3] q p)) pos) (tRet (Wv (zD (tC (.str x)) (zD (ji zW) (zD (ji zW) zW))))) (zR (ZO (za (fC (.str x)) (za (Za zi) (za (Za zi) zi))))) :=
 ⟨J9 (jr (zv Yy (zv (yn zz) (zv (yn zz) zz h3) h2) h1)),fun P9 Ua σ H ρ o E mm qq k=>by
 obtain ⟨d,e1,rfl⟩:=map_some qq
 have e2:ZO (za (fC (.str x)) (za (Za zi) (za (Za zi) zi))) ρ=some (.tup [.str x,.lst [],.lst []]):=by
  show (some [D.str x,D.lst [],D.lst []]).bind wW=_
  rw [oB,wW,KQ (by show 3<=Kg;decide)]
 rw [e2] at e1;cases e1
 refine ⟨by show 0<=Kg;decide,fun a ha=>⟨by show 0<=Kg;decide,fun a2 ha2=>⟨by show 3<=Kg;decide,fun b hb=>?_⟩⟩⟩
 have s1:zO H (upd H a (.lst [])):=zB ha
 have s2:zO (upd H a (.lst [])) (upd (upd H a (.lst [])) a2 (.lst [])):=zB ha2
 have s3:zO (upd (upd H a (.lst [])) a2 (.lst [])) (upd (upd (upd H a (.lst [])) a2 (.lst [])) b (.tup [.str x,.ref a,.ref a2])):=zB hb
 have ne:a≠a2:=fun z=>by rw [<- z,zm] at ha2;cases ha2
 refine k _ _ ((mm.up ((s1.trans s2).trans s3)).grow) (mm.up ((s1.trans s2).trans s3)).blk (.inr (.inr ⟨b,x,[a,a2],rfl,rfl,by simp [ne],fun c hc=>?_,zm⟩))
 rcases Qa.mp hc with rfl | hc
 ·exact ⟨mm.grow.free ha,s3 _ _ (s2 _ _ zm)⟩
 ·rw [Qm.mp hc]
  exact ⟨mm.grow.free (s1.free ha2),s3 _ _ zm⟩⟩
end
structure Fr where
 done:List D
 x:Kw
 pre:List D
 post:List D
def shut (f:Fr) (top:List D):List D:=f.done++[.tup (.str f.x::(f.pre++.lst top::f.post))]
def Zb:List D->List Fr->List D
 | top,[]=>top
 | top,f::fs=>Zb (shut f top) fs
section
variable {K:KC} {P9 H H1:Hp} {Ua:Kc->Prop} {w a:Kc} {as:List Kc} {top:List D} {fs:List Fr}
theorem reps_reps {B:Kc->Prop} {ls:List Kc} (h:∀ c∈ls,H c=some (.lst [])/\¬ B c):zr K H B (ls.map fun _=>D.lst []) (ls.map V.ref):=by
 induction ls with
 | nil=>exact .nil
 | cons c ls ih =>
  refine .cons ?_ (ih fun x hx=>h x (Qc _ hx))
  simp only [Rep]
  exact ⟨c,[],rfl,⟨.inl (h c Qj).1,(h c Qj).2⟩,.nil⟩
end
def openNames:List V:=[.str "loop",.str "either"]
def emp (n:Nat):List D:=List.replicate n (.lst [])
def stepZ (c:Int) (d:D) (top:List D) (fs:List Fr):Option (List D×List Fr):=match d with
 | .tup (.str x::ps)=>if top.length<Kg then
   if inV (.str x) openNames=true/\fs.length+1<4 then
    (if 0<ps.length/\x=x/\ps.all (fun d=>match d with | .lst []=>true | _=>false)=true then
     some ([],⟨top,x,emp (c / 32 % (ps.length:Nat)).toNat,emp (ps.length - 1 - (c / 32 % (ps.length:Nat)).toNat)⟩::fs) else none)
   else if c % 4=0 then (match fs with
    | f::fs'=>some (shut f (top++[d]),fs')
    | []=>some (top++[d],[]))
   else some (top++[d],fs)
  else none
 | _=>none
abbrev lenR (K:KC):List V->Hp->VK->Prop:=fun xs H Q=>∃ p ys,xs=[.ref p]/\(SqL K H p ys\/SqT K H p ys)/\Q (.int ys.length) H
theorem y7 {Ua:Kc->Prop} {σ:St}:Bl Ua [] σ=Ua:=by
 funext a
 refine propext ⟨fun h=>?_,Or.inl⟩
 rcases h with h | ⟨i,hi,_⟩
 ·exact h
 ·cases hi
theorem Md.base {K:KC} {P9 H:Hp} {Ua:Kc->Prop} {σ:St} {ρ:Ev} (m:Md K P9 Ua [] σ H ρ):Md K H Ua [] σ H ρ :=
 ⟨.refl H,m.blk,m.len,m.sh,fun i hi=>(by cases hi),fun i j a hi=>by cases hi⟩
theorem Md.go {K:KC} {P9 H H':Hp} {B B':Kc->Prop} {σ:St} {ρ:Ev} (m:Md K P9 B [] σ H ρ) (g:Goes H H' B B') (s:zO P9 H') (hb:∀ a,B' a->∃ o,H' a=some o):Md K P9 B' [] σ H' ρ :=
 ⟨s,hb,m.len,fun i d q n=>by
  obtain ⟨v,h1,h2⟩:=m.sh i d q n
  rw [y7] at h2 ⊢
  exact ⟨v,h1,Rep.goes g _ _ h2⟩,fun i hi=>(by cases hi),fun i j a hi=>by cases hi⟩
theorem jh {xs:List V} {x:V}:atI (xs++[x]) (-1)=some x:=by
 unfold atI ixN
 rw [KR (by omega),KQ (by simp;omega)]
 have:((-1:Int)+((xs++[x]).length:Nat)).toNat=xs.length:=by rw [Qf,Qv];omega
 rw [this,oB]
 simp
theorem all_emp {ps:List D} (h:ps.all (fun d=>match d with | .lst []=>true | _=>false)=true):∀ d∈ps,d=.lst []:=fun d hd=>by
 have:=Q8.mp h d hd
 cases d <;> try (simp at this)
 rename_i xs
 cases xs with
 | nil=>rfl
 | cons _ _=>simp at this
section
variable {K:KC} {te:TE} {f:Ev->Option D} {H:Hp} {Ua:Kc->Prop} {ρ:Ev} {p:Kc} {top top':List D} {fs fs':List Fr} {c:Int} {d:D} {N:St->Hp->Prop} {E:Ends}
theorem ifT {P Q:Prop} (h:P):if true=true then P else Q:=by rw [KQ rfl];exact h
theorem ifF {P Q:Prop} (h:Q):if false=true then P else Q:=by rw [KR Qh];exact h
end
end M
namespace L2
open PySem PySem.Spec PyProof.Rows
section
variable {X:Cx}
end
end L2
namespace M
open PySem PySem.Spec L2
open PySem.W (Frag)
def shOk (d:D):Bool:=(zZ d).canLay0&&(zZ d).showable&&!(zZ d).hasDict&&decide ((zZ d).depth<=60)&&decide ((zZ d).shown.length<=Kg)
def Jn:List D->Option D
 | [d]=>if shOk d=true then some (.str (zZ d).shown) else none
 | _=>none
def jI:List D->Option D
 | [.int i]=>if i.natAbs.log2<1920 then some (.str (toString i)) else none
 | _=>none
section
variable {X:Cx} {st:Bool} {os:List Nat} {a b e o:Kv} {ta tb te to:TE} {fa fb fe fo:Ev->Option D} {p pos:KB} {k:Nat}
theorem caok_strI {K:KC}:CaOk K (fun xs H Q=>∃ i,xs=[.int i]/\i.natAbs.log2<1920/\Q (.str (toString i)) H) jI:=fun H B xs ds d Q hB r e kk=>by
 cases ds with
 | nil=>cases e
 | cons d0 ds =>
  cases ds with
  | cons _ _=>cases d0 <;> cases e
  | nil =>
   cases d0 <;> simp only [jI] at e <;> try (cases e)
   split at e
   case isFalse=>cases e
   rename_i hc
   cases e
   obtain ⟨v,rfl,hv⟩:=JK r
   simp only [Rep] at hv
   subst hv
   exact ⟨_,rfl,hc,kk _ H (.refl H) (by simp [Rep])⟩
abbrev rReprD (K:KC):List V->Hp->VK->Prop:=fun xs H Q=>∃ (x:V) (B:Kc->Prop) (d:D),xs=[x]/\Rep K H B d x/\shOk d=true/\Q (.str (zZ d).shown) H
theorem call_reprD (hr:Room k X.A):Yp X (.builtin "repr") (rReprD X.K):=by
 intro KJ s σ H xs us Q I r h
 obtain ⟨x,B,d,rfl,hx,ho,q⟩:=h
 obtain ⟨u,rfl,ru⟩:=JC r
 unfold shOk at ho
 simp only [QC,decide_eq_true_eq,Pp] at ho
 obtain ⟨⟨⟨⟨o1,o2⟩,o3⟩,o4⟩,o5⟩:=ho
 have big:∀ a,u=Value.ref a->Ko (Ky X.prog X.w) X.A (call (.builtin "repr") [u]) (EP X KJ σ Q) X.xe s:=fun a ea=>by
  obtain ⟨as,rd⟩:=Rep.reads I d x u o1 hx ru
  subst ea
  refine repr_of_reads' rd o2 (fun z=>by rw [o3] at z;cases z) hr.gd (by have:=hr.units;omega) (fun b o' e=>e) (fun h' u' tk hk=>?_) o5
  exact ⟨.str _,H,I.kept hk,⟨_,rfl⟩,q⟩
 cases d with
 | non=>simp only [Rep] at hx;subst hx;cases ru;exact PySem.P.repr_of_none ⟨.str _,H,I.tok _,⟨_,rfl⟩,q⟩
 | bl b=>simp only [Rep] at hx;subst hx;cases ru;exact PySem.P.repr_of_bool ⟨.str _,H,I.tok _,⟨_,rfl⟩,q⟩
 | int i=>simp only [Rep] at hx;subst hx;obtain ⟨t,rfl⟩:=ru;exact PySem.P.repr_of_int (by simpa [zZ,PyData.showable] using o2) ⟨.str _,H,I.tok _,⟨_,rfl⟩,q⟩
 | str z=>simp only [Rep] at hx;subst hx;obtain ⟨t,rfl⟩:=ru;exact PySem.P.repr_of_str ⟨.str _,H,I.tok _,⟨_,rfl⟩,q⟩ (by simpa [zZ,PyData.shown] using o5)
 | tup ds=>simp only [Rep] at hx;obtain ⟨a,xs,rfl,_⟩:=hx;cases ru;exact big a rfl
 | lst ds=>simp only [Rep] at hx;obtain ⟨a,xs,rfl,_⟩:=hx;cases ru;exact big a rfl
 | dict ks ds=>simp only [Rep] at hx;obtain ⟨a,xs,rfl,_⟩:=hx;cases ru;exact big a rfl
 | scr ns=>simp only [Rep] at hx;obtain ⟨a,rfl,_⟩:=hx;cases ru;exact big a rfl
 | adr a=>simp only [Rep] at hx;subst hx;cases ru;exact big a rfl
 | kset ks=>simp only [Rep] at hx;obtain ⟨a,rfl⟩:=hx;cases ru;exact big a rfl
 | tk ns=>simp only [Rep] at hx;obtain ⟨a,rfl,_⟩:=hx;cases ru;exact big a rfl
 | pin a d=>simp only [Rep] at hx;obtain ⟨rfl,_⟩:=hx;cases ru;exact big a rfl
theorem caok_repr {K:KC}:CaOk K (rReprD K) Jn:=fun H B xs ds d Q hB r e kk=>by
 cases ds with
 | nil=>cases e
 | cons d0 ds =>
  cases ds with
  | cons _ _=>cases e
  | nil =>
   simp only [Jn] at e
   split at e
   case isFalse=>cases e
   rename_i hc
   cases e
   obtain ⟨v,rfl,hv⟩:=JK r
   exact ⟨v,B,d0,rfl,hv,hc,kk _ H (.refl H) (by simp [Rep])⟩
theorem boot_repr':bootBuiltins "repr"=some (.builtin "repr"):=by decide +kernel
theorem boot_str':bootBuiltins "str"=some (.type "str"):=by decide +kernel
theorem se_repr (hr:Room k X.A) (hg:Gl X "repr") (hm:X.mg "repr"=none) (ha:SA X st os [e] (zD te zW) (za fe zi)) (he:Ke [e] X.env=(false,Kz e X.env)::Ke [] X.env:=by rfl) (hpl:(Kq pos (Ke [] X.env)).any (·.1)=false:=by rfl) {K':KC} (hK:X.K=K':=by rfl) :
  SE X st os (.Call (.Name "repr" p) [e] [] pos) (tCB (rReprD K') (zD te zW)) (fA Jn (za fe zi)):=by
 subst hK
 exact WK (call_reprD hr) caok_repr hg hm boot_repr' ha (by decide) (by decide) he hpl
theorem Wg (hg:Gl X "str") (hm:X.mg "str"=none) (ha:SA X st os [e] (zD te zW) (za fe zi)) (he:Ke [e] X.env=(false,Kz e X.env)::Ke [] X.env:=by rfl) (hpl:(Kq pos (Ke [] X.env)).any (·.1)=false:=by rfl) :
  SE X st os (.Call (.Name "str" p) [e] [] pos) (tCB (fun xs H Q=>∃ i,xs=[.int i]/\i.natAbs.log2<1920/\Q (.str (toString i)) H) (zD te zW)) (fA jI (za fe zi)) :=
 j7 call_str_int caok_strI hg hm boot_str' ha (by decide) (by decide) he hpl
end
theorem ja {H H':Hp} {B B' O:Kc->Prop} (h1:∀ e o,H e=some o->¬ O e->H' e=some o) (hO:∀ e,O e->H e=none\/∃ xs,H e=some (.lst xs)) (hOB:∀ e xs,O e->H e=some (.lst xs)->B e) (hB:∀ e,B' e->B e\/H e=none):Goes H H' B B':=by
 have no:∀ e o,H e=some o->(∀ xs,o≠.lst xs)->¬ O e:=fun e o q n z=>by
  rcases hO e z with h | ⟨xs,h⟩
  ·rw [h] at q;cases q
  ·rw [h] at q;cases q;exact n xs rfl
 refine ⟨fun a xs q=>?_,fun a xs q n=>⟨?_,fun z=>?_⟩,fun a KO q n=>⟨?_,fun z=>?_⟩,fun a o u q=>h1 _ _ q (no _ _ q fun xs z=>by cases z),fun a xs q=>h1 _ _ q (no _ _ q fun xs z=>by cases z)⟩
 ·rcases q with q | ⟨o,q⟩
  ·exact .inl (h1 _ _ q (no _ _ q fun xs z=>by cases z))
  ·exact .inr ⟨o,h1 _ _ q (no _ _ q fun xs z=>by cases z)⟩
 ·rcases q with q | ⟨o,q⟩
  ·exact .inl (h1 _ _ q fun z=>n (hOB _ _ z q))
  ·exact .inr ⟨o,h1 _ _ q (no _ _ q fun xs z=>by cases z)⟩
 ·rcases hB a z with h | h
  ·exact n h
  ·rcases q with q | ⟨o,q⟩ <;> (rw [h] at q;cases q)
 ·exact h1 _ _ q (no _ _ q fun xs z=>by cases z)
 ·rcases hB a z with h | h
  ·exact n h
  ·rw [h] at q;cases q
structure Lv where
 a:Kc
 q:Kc
 ps:List Kc
def Lv.own (l:Lv):List Kc:=l.a::l.q::l.ps
def yR (w:Kc) (ls:List Lv):List Kc:=w::ls.flatMap Lv.own
def Bq (Ua:Kc->Prop) (w:Kc) (ls:List Lv):Kc->Prop:=fun x=>Ua x\/x∈yR w ls
def Lv.ok (H:Hp) (l:Lv):Prop:=H l.q=some (.lst ((l.a::l.ps).map V.ref))/\∀ p∈l.ps,H p=some (.lst [])
def Cq (K:KC) (H:Hp) (B:Kc->Prop):List Fr->List Lv->Prop
 | [],[_]=>True
 | f::fs,l::l'::ls=>(∃ (vs pv:List V) (b:Kc),H l'.a=some (.lst (vs++[.ref b]))/\zr K H B f.done vs/\H b=some (.tup (.str f.x::(pv++(l.a::l.ps).map V.ref)))/\zr K H B f.pre pv/\f.post=l.ps.map fun _=>D.lst [])/\Cq K H B fs (l'::ls)
 | _,_=>False
structure Zq (K:KC) (P9:Hp) (Ua:Kc->Prop) (H:Hp) (w:Kc) (l:Lv) (ls:List Lv) (top:List D) (fs:List Fr):Prop where
 whr:H w=some (.lst (((l::ls).reverse).map fun x=>V.ref x.q))
 top:∃ vs,H l.a=some (.lst vs)/\zr K H (Bq Ua w (l::ls)) top vs
 lv:∀ x∈l::ls,x.ok H
 ch:Cq K H (Bq Ua w (l::ls)) fs (l::ls)
 nd:(yR w (l::ls)).Nodup
 new:∀ x∈yR w (l::ls),P9 x=none/\¬ Ua x
theorem Cq.len {K:KC} {H:Hp} {B:Kc->Prop}:∀ {fs:List Fr} {ls:List Lv},Cq K H B fs ls->ls.length=fs.length+1
 | [],[_],_=>rfl
 | f::fs,l::l'::ls,h=>by simp only [Qg];have:=Cq.len h.2;simp only [Qg] at this;omega
 | [],[],h=>by cases h
 | [],_::_::_,h=>by cases h
 | _::_,[],h=>by cases h
 | _::_,[_],h=>by cases h
theorem Cq.mv {K:KC} {H H':Hp} {B B':Kc->Prop} (g:Goes H H' B B'):∀ {fs:List Fr} {l:Lv} {ls:List Lv},(∀ x∈ls,∀ o,H x.a=some o->H' x.a=some o)->Cq K H B fs (l::ls)->Cq K H' B' fs (l::ls)
 | [],l,[],_,_=>trivial
 | f::fs,l,l'::ls,h1,⟨⟨vs,pv,b,q1,q2,q3,q4,q5⟩,r⟩ =>
  ⟨⟨vs,pv,b,h1 l' Qj _ q1,zr.goes g _ _ q2,g.tkt _ _ q3,zr.goes g _ _ q4,q5⟩,Cq.mv g (fun x hx=>h1 x (Qc _ hx)) r⟩
 | [],_,_::_,_,h=>by cases h
 | _::_,_,[],_,h=>by cases h
theorem Cq.track {K:KC} {H:Hp} {B:Kc->Prop}:∀ {fs:List Fr} {l:Lv} {ls:List Lv},Cq K H B fs (l::ls)->∀ x∈ls,∃ xs,H x.a=some (.lst xs)
 | f::fs,l,l'::ls,⟨⟨vs,pv,b,q1,_⟩,r⟩,x,hx=>by
  rcases Qa.mp hx with rfl | hx
  ·exact ⟨_,q1⟩
  ·exact Cq.track r x hx
 | [],_,[],_,x,hx=>by cases hx
 | [],_,_::_,h,_,_=>by cases h
 | _::_,_,[],h,_,_=>by cases h
section
variable {K:KC} {P9 H H' H1:Hp} {Ua:Kc->Prop} {w:Kc} {l:Lv} {ls:List Lv} {top:List D} {fs:List Fr}
theorem Zc {x:Kc} {ls:List Lv}:x∈yR w ls↔x=w\/∃ l∈ls,x=l.a\/x=l.q\/x∈l.ps:=by
 unfold yR
 rw [Qa,Pu]
 simp only [Lv.own,Qa]
theorem Zq.lists (z:Zq K P9 Ua H w l ls top fs):∀ x∈yR w (l::ls),∃ xs,H x=some (.lst xs):=fun x hx=>by
 rcases Zc.mp hx with rfl | ⟨v,hv,rfl | rfl | hp⟩
 ·exact ⟨_,z.whr⟩
 ·rcases Qa.mp hv with rfl | hv
  ·obtain ⟨vs,h,_⟩:=z.top;exact ⟨_,h⟩
  ·exact z.ch.track v hv
 ·exact ⟨_,(z.lv v hv).1⟩
 ·exact ⟨_,(z.lv v hv).2 x hp⟩
theorem Zq.up (z:Zq K P9 Ua H w l ls top fs) (s:zO H H1):Zq K P9 Ua H1 w l ls top fs :=
 ⟨s _ _ z.whr,(by obtain ⟨vs,h1,h2⟩:=z.top;exact ⟨vs,s _ _ h1,h2.up s⟩),fun x hx=>⟨s _ _ (z.lv x hx).1,fun p hp=>s _ _ ((z.lv x hx).2 p hp)⟩,z.ch.mv (.same s) (fun x _ o h=>s _ _ h),z.nd,z.new⟩
theorem Ja (h:(yR w (l::ls)).Nodup):w≠l.a/\w≠l.q/\l.a≠l.q/\w∉l.ps/\l.a∉l.ps/\l.q∉l.ps/\l.ps.Nodup/\(yR w ls).Nodup/\∀ v∈ls,∀ x,(x=v.a\/x=v.q\/x∈v.ps)->x≠l.a/\x≠l.q/\x∉l.ps/\x≠w:=by
 unfold yR at h
 rw [QZ] at h
 have hw:=Qy.mp h
 have hl:=QX.mp hw.2
 have h1:=Qy.mp hl.1
 have h2:=Qy.mp h1.2
 have hm:∀ v∈ls,∀ x,(x=v.a\/x=v.q\/x∈v.ps)->x∈ls.flatMap Lv.own:=fun v hv x hx=>Pu.mpr ⟨v,hv,by simp only [Lv.own,Qa];exact hx⟩
 refine ⟨fun e=>hw.1 (by simp [Lv.own,e]),fun e=>hw.1 (by simp [Lv.own,e]),fun e=>h1.1 (by simp [e]),fun e=>hw.1 (by simp [Lv.own,e]),fun e=>h1.1 (by simp [e]),h2.1,h2.2,Qy.mpr ⟨fun e=>hw.1 (Qq.mpr (.inr e)),hl.2.1⟩,fun v hv x hx=>⟨fun e=>?_,fun e=>?_,fun e=>?_,fun e=>?_⟩⟩
 ·exact hl.2.2 l.a (by simp [Lv.own]) x (hm v hv x hx) e.symm
 ·exact hl.2.2 l.q (by simp [Lv.own]) x (hm v hv x hx) e.symm
 ·exact hl.2.2 x (by simp [Lv.own,e]) x (hm v hv x hx) rfl
 ·exact hw.1 (Qq.mpr (.inr (e▸hm v hv x hx)))
theorem Zq.add (z:Zq K P9 Ua H w l ls top fs) {vs:List V} {d:D} {v:V} (hv:H l.a=some (.lst vs)) (hd:Rep K H (Bq Ua w (l::ls)) d v) (ha:H' l.a=some (.lst (vs++[v]))) (hn:∀ e o,H e=some o->e≠l.a->H' e=some o):Zq K P9 Ua H' w l ls (top++[d]) fs:=by
 obtain ⟨wa,wq,aq,wp,ap,qp,pn,_,out⟩:=Ja z.nd
 have g:Goes H H' (Bq Ua w (l::ls)) (Bq Ua w (l::ls)):=ja (O:=fun e=>e=l.a) hn (fun e he=>by rw [he];exact .inr ⟨_,hv⟩) (fun e xs he _=>.inr (by rw [he];exact Zc.mpr (.inr ⟨l,by simp,.inl rfl⟩))) (fun e he=>.inl he)
 obtain ⟨vs',h1,h2⟩:=z.top
 rw [hv] at h1;cases h1
 refine ⟨hn _ _ z.whr wa,⟨_,ha,(zr.goes g _ _ h2).append (.one (Rep.goes g _ _ hd))⟩,fun x hx=>?_,z.ch.mv g (fun x hx o h=>hn _ _ h (out x hx x.a (.inl rfl)).1),z.nd,z.new⟩
 rcases Qa.mp hx with rfl | hx'
 ·exact ⟨hn _ _ (z.lv x hx).1 (Ne.symm aq),fun p hp=>hn _ _ ((z.lv x hx).2 p hp) fun e=>ap (e▸hp)⟩
 ·exact ⟨hn _ _ (z.lv x hx).1 (out x hx' _ (.inr (.inl rfl))).1,fun p hp=>hn _ _ ((z.lv x hx).2 p hp) (out x hx' p (.inr (.inr hp))).1⟩
theorem Zq.push (z:Zq K P9 Ua H w l ls top fs) (gr:zO P9 H) (hb0:∀ x,Ua x->∃ o,H x=some o) {vs:List V} (hv:H l.a=some (.lst vs)) {b q c:Kc} {x:Kw} {cs:List Kc} (hnd:(c::q::cs).Nodup) (fr:∀ e∈c::q::cs,H e=none)
  (ha:H' l.a=some (.lst (vs++[.ref b]))) (hb:H' b=some (.tup (.str x::(c::cs).map V.ref))) (hq:H' q=some (.lst ((c::cs).map V.ref))) (hc:∀ e∈c::cs,H' e=some (.lst [])) (hw:H' w=some (.lst (((l::ls).reverse).map (fun x=>V.ref x.q)++[.ref q]))) (hn:∀ e o,H e=some o->e≠l.a->e≠w->H' e=some o) :
  Zq K P9 Ua H' w ⟨c,q,cs⟩ (l::ls) [] (⟨top,x,[],cs.map fun _=>.lst []⟩::fs)/\Goes H H' (Bq Ua w (l::ls)) (Bq Ua w (⟨c,q,cs⟩::l::ls)):=by
 obtain ⟨wa,wq,aq,wp,ap,qp,pn,_,out⟩:=Ja z.nd
 have mem':∀ e,e∈yR w (⟨c,q,cs⟩::l::ls)↔e∈yR w (l::ls)\/e∈c::q::cs:=fun e=>by
  rw [Zc,Zc]
  constructor
  ·rintro (h | ⟨v,hv,h⟩)
   ·exact .inl (.inl h)
   ·rcases Qa.mp hv with rfl | hv
    ·right;simp only [Qa];exact h
    ·exact .inl (.inr ⟨v,hv,h⟩)
  ·rintro ((h | ⟨v,hv,h⟩) | h)
   ·exact .inl h
   ·exact .inr ⟨v,Qc _ hv,h⟩
   ·exact .inr ⟨_,Qj,by simpa only [Qa] using h⟩
 have old:∀ e∈yR w (l::ls),e∉c::q::cs:=fun e he hm=>by
  obtain ⟨xs,h⟩:=z.lists e he
  rw [fr e hm] at h;cases h
 have g:Goes H H' (Bq Ua w (l::ls)) (Bq Ua w (⟨c,q,cs⟩::l::ls)):=ja (O:=fun e=>e=l.a\/e=w) (fun e o h n=>hn e o h (fun z=>n (.inl z)) fun z=>n (.inr z)) (fun e he=>by
   rcases he with rfl | rfl
   ·exact .inr ⟨_,hv⟩
   ·exact .inr ⟨_,z.whr⟩) (fun e xs he _=>.inr (by
   rcases he with rfl | rfl
   ·exact Zc.mpr (.inr ⟨l,by simp,.inl rfl⟩)
   ·exact Zc.mpr (.inl rfl))) (fun e he=>by
   rcases he with he | he
   ·exact .inl (.inl he)
   ·rcases (mem' e).mp he with he | he
    ·exact .inl (.inr he)
    ·exact .inr (fr e he))
 obtain ⟨vs',h1,h2⟩:=z.top
 rw [hv] at h1;cases h1
 refine ⟨⟨by rw [hw];simp,⟨[],hc c (by simp),.nil⟩,fun v hv'=>?_,⟨⟨vs,[],b,ha,zr.goes g _ _ h2,hb,.nil,rfl⟩,z.ch.mv g fun v hv' o h=>hn _ _ h (out v hv' v.a (.inl rfl)).1 (out v hv' v.a (.inl rfl)).2.2.2⟩,?_,fun e he=>?_⟩,g⟩
 ·rcases Qa.mp hv' with rfl | hv'
  ·exact ⟨hq,fun p hp=>hc p (Qc _ hp)⟩
  ·have hk:=z.lv v hv'
   rcases Qa.mp hv' with rfl | hv2
   ·exact ⟨hn _ _ hk.1 (Ne.symm aq) (Ne.symm wq),fun p hp=>hn _ _ (hk.2 p hp) (fun e=>ap (e▸hp)) fun e=>wp (e▸hp)⟩
   ·exact ⟨hn _ _ hk.1 (out v hv2 _ (.inr (.inl rfl))).1 (out v hv2 _ (.inr (.inl rfl))).2.2.2,fun p hp=>hn _ _ (hk.2 p hp) (out v hv2 p (.inr (.inr hp))).1 (out v hv2 p (.inr (.inr hp))).2.2.2⟩
 ·have nd:=z.nd
  unfold yR at nd ⊢
  have nd2:=Qy.mp nd
  rw [QZ]
  refine Qy.mpr ⟨fun e=>?_,QX.mpr ⟨hnd,nd2.2,fun e1 he1 e2 he2 ee=>?_⟩⟩
  ·rcases Qq.mp e with e | e
   ·exact old w (Zc.mpr (.inl rfl)) e
   ·exact nd2.1 e
  ·subst ee
   exact old e1 (Qc _ he2) he1
 ·rcases (mem' e).mp he with he | he
  ·exact z.new e he
  ·exact ⟨gr.free (fr e he),fun q=>by obtain ⟨o,h⟩:=hb0 e q;rw [fr e he] at h;cases h⟩
theorem Zq.next {f:Fr} {p:Kc} {ps:List Kc} (z:Zq K P9 Ua H w l ls top (f::fs)) (hps:l.ps=p::ps) (hq:H' l.q=some (.lst ((p::ps).map V.ref))) (hn:∀ e o,H e=some o->e≠l.q->H' e=some o) :
  Zq K P9 Ua H' w ⟨p,l.q,ps⟩ ls [] (⟨f.done,f.x,f.pre++[.lst top],ps.map fun _=>.lst []⟩::fs)/\Goes H H' (Bq Ua w (l::ls)) (Bq Ua w (⟨p,l.q,ps⟩::ls)):=by
 obtain ⟨wa,wq,aq,wp,ap,qp,pn,ndl,out⟩:=Ja z.nd
 have mem':∀ e,e∈yR w (⟨p,l.q,ps⟩::ls)->e∈yR w (l::ls)/\e≠l.a:=fun e he=>by
  rcases Zc.mp he with rfl | ⟨v,hv,h⟩
  ·exact ⟨Zc.mpr (.inl rfl),wa⟩
  ·rcases Qa.mp hv with rfl | hv
   ·rcases h with h | h | h
    ·simp only at h;rw [h];exact ⟨Zc.mpr (.inr ⟨l,by simp,.inr (.inr (by rw [hps];simp))⟩),fun q=>ap (by rw [hps,<- q];simp)⟩
    ·simp only at h;rw [h];exact ⟨Zc.mpr (.inr ⟨l,by simp,.inr (.inl rfl)⟩),Ne.symm aq⟩
    ·simp only at h;exact ⟨Zc.mpr (.inr ⟨l,by simp,.inr (.inr (by rw [hps];simp [h]))⟩),fun q=>ap (by rw [hps,<- q];simp [h])⟩
   ·exact ⟨Zc.mpr (.inr ⟨v,Qc _ hv,h⟩),(out v hv e h).1⟩
 have g:Goes H H' (Bq Ua w (l::ls)) (Bq Ua w (⟨p,l.q,ps⟩::ls)):=ja (O:=fun e=>e=l.q) hn (fun e he=>by rw [he];exact .inr ⟨_,(z.lv l (by simp)).1⟩) (fun e xs he _=>.inr (by rw [he];exact Zc.mpr (.inr ⟨l,by simp,.inr (.inl rfl)⟩))) (fun e he=>by
  rcases he with he | he
  ·exact .inl (.inl he)
  ·exact .inl (.inr (mem' e he).1))
 have lp:=(z.lv l (by simp)).2
 have pq:∀ e∈l.ps,e≠l.q:=fun e he q=>qp (q▸he)
 obtain ⟨us,t1,t2⟩:=z.top
 refine ⟨?_,g⟩
 cases ls with
 | nil=>exact absurd z.ch.len (by simp)
 | cons l' ls =>
  obtain ⟨⟨vs,pv,b,q1,q2,q3,q4,q5⟩,r⟩:=z.ch
  refine ⟨?_,⟨[],hn _ _ (lp p (by rw [hps];simp)) (pq p (by rw [hps];simp)),.nil⟩,fun v hv=>?_,⟨⟨vs,pv++[.ref l.a],b,hn _ _ q1 (out l' (by simp) _ (.inl rfl)).2.1,zr.goes g _ _ q2,?_,(zr.goes g _ _ q4).append (.one ?_),rfl⟩,r.mv g fun v hv o h=>hn _ _ h (out v (Qc _ hv) _ (.inl rfl)).2.1⟩,?_,fun e he=>z.new e (mem' e he).1⟩
  ·rw [hn _ _ z.whr wq];simp
  ·rcases Qa.mp hv with rfl | hv
   ·exact ⟨hq,fun e he=>hn _ _ (lp e (by rw [hps];simp [he])) (pq e (by rw [hps];simp [he]))⟩
   ·have hk:=z.lv v (Qc _ hv)
    exact ⟨hn _ _ hk.1 (out v hv _ (.inr (.inl rfl))).2.1,fun e he=>hn _ _ (hk.2 e he) (out v hv e (.inr (.inr he))).2.1⟩
  ·rw [g.tkt _ _ q3,hps];simp
  ·simp only [Rep]
   refine ⟨l.a,us,rfl,⟨.inl (hn _ _ t1 aq),fun q=>?_⟩,zr.goes g _ _ t2⟩
   rcases q with q | q
   ·exact (z.new l.a (Zc.mpr (.inr ⟨l,by simp,.inl rfl⟩))).2 q
   ·exact (mem' _ q).2 rfl
  ·have pn':(p::ps).Nodup:=hps▸pn
   have nd:=ndl
   unfold yR at nd ⊢
   have nd2:=Qy.mp nd
   rw [QZ]
   refine Qy.mpr ⟨fun e=>?_,QX.mpr ⟨?_,nd2.2,fun e1 he1 e2 he2 ee=>?_⟩⟩
   ·rcases Qq.mp e with e | e
    ·simp only [Lv.own,Qa] at e
     rcases e with e | e | e
     ·exact wp (by rw [hps,e];simp)
     ·exact wq e
     ·exact wp (by rw [hps];simp [e])
    ·exact nd2.1 e
   ·simp only [Lv.own]
    have pp:=Qy.mp pn'
    refine Qy.mpr ⟨fun e=>?_,Qy.mpr ⟨fun e=>qp (by rw [hps];simp [e]),pp.2⟩⟩
    rcases Qa.mp e with e | e
    ·exact qp (by rw [hps,<- e];simp)
    ·exact pp.1 e
   ·subst ee
    obtain ⟨v,hv,hx⟩:=Pu.mp he2
    simp only [Lv.own,Qa] at hx he1
    have ho:=out v hv e1 hx
    rcases he1 with h | h | h
    ·exact ho.2.2.1 (by rw [hps,h];simp)
    ·exact ho.2.1 h
    ·exact ho.2.2.1 (by rw [hps];simp [h])
theorem Zq.out {f:Fr} {l':Lv} (z:Zq K P9 Ua H w l (l'::ls) top (f::fs)) (hps:l.ps=[]) (hw:H' w=some (.lst (((l'::ls).reverse).map fun x=>V.ref x.q))) (hn:∀ e o,H e=some o->e≠l.q->e≠w->H' e=some o) :
  Zq K P9 Ua H' w l' ls (shut f top) fs/\Goes H H' (Bq Ua w (l::l'::ls)) (Bq Ua w (l'::ls)):=by
 obtain ⟨wa,wq,aq,wp,ap,qp,pn,ndl,out⟩:=Ja z.nd
 have mem':∀ e,e∈yR w (l'::ls)->e∈yR w (l::l'::ls)/\e≠l.a:=fun e he=>by
  rcases Zc.mp he with rfl | ⟨v,hv,h⟩
  ·exact ⟨Zc.mpr (.inl rfl),wa⟩
  ·exact ⟨Zc.mpr (.inr ⟨v,Qc _ hv,h⟩),(out v hv e h).1⟩
 have g:Goes H H' (Bq Ua w (l::l'::ls)) (Bq Ua w (l'::ls)):=ja (O:=fun e=>e=l.q\/e=w) (fun e o h n=>hn e o h (fun z=>n (.inl z)) fun z=>n (.inr z)) (fun e he=>by
   rcases he with rfl | rfl
   ·exact .inr ⟨_,(z.lv l (by simp)).1⟩
   ·exact .inr ⟨_,z.whr⟩) (fun e xs he _=>.inr (by
   rcases he with rfl | rfl
   ·exact Zc.mpr (.inr ⟨l,by simp,.inr (.inl rfl)⟩)
   ·exact Zc.mpr (.inl rfl))) (fun e he=>by
   rcases he with he | he
   ·exact .inl (.inl he)
   ·exact .inl (.inr (mem' e he).1))
 obtain ⟨us,t1,t2⟩:=z.top
 obtain ⟨⟨vs,pv,b,q1,q2,q3,q4,q5⟩,r⟩:=z.ch
 have keep:∀ v∈l'::ls,∀ x,(x=v.a\/x=v.q\/x∈v.ps)->∀ o,H x=some o->H' x=some o:=fun v hv x hx o h=>hn _ _ h (out v hv x hx).2.1 (out v hv x hx).2.2.2
 refine ⟨⟨hw,⟨vs++[.ref b],keep l' (by simp) _ (.inl rfl) _ q1,?_⟩,fun v hv=>?_,r.mv g fun v hv o h=>keep v (Qc _ hv) _ (.inl rfl) o h,ndl,fun e he=>z.new e (mem' e he).1⟩,g⟩
 ·refine (zr.goes g _ _ q2).append (.one ?_)
  rw [hps] at q3 q5
  simp only [Rep]
  refine ⟨b,_,rfl,.inl (.inl (g.tkt _ _ q3)),.cons (by simp [Rep]) ((zr.goes g _ _ q4).append ?_)⟩
  rw [q5]
  refine .one ?_
  simp only [Rep]
  refine ⟨l.a,us,rfl,⟨.inl (hn _ _ t1 aq (Ne.symm wa)),fun q=>?_⟩,zr.goes g _ _ t2⟩
  rcases q with q | q
  ·exact (z.new l.a (Zc.mpr (.inr ⟨l,by simp,.inl rfl⟩))).2 q
  ·exact (mem' _ q).2 rfl
 ·have hk:=z.lv v (Qc _ hv)
  exact ⟨keep v hv _ (.inr (.inl rfl)) _ hk.1,fun p hp=>keep v hv p (.inr (.inr hp)) _ (hk.2 p hp)⟩
theorem Cq.root:∀ {fs:List Fr} {l:Lv} {ls:List Lv} {top:List D},(∀ v∈l::ls,(∀ x,(x=v.a\/x∈v.ps)->¬ Ua x)/\∀ p∈v.ps,H p=some (.lst []))->Rep K H Ua (.lst top) (.ref l.a)->Cq K H Ua fs (l::ls)->Rep K H Ua (.lst (Zb top fs)) (.ref ((l::ls).getLast (by simp)).a)
 | [],l,[],top,_,h,_=>h
 | f::fs,l,l'::ls,top,hn,h,⟨⟨vs,pv,b,q1,q2,q3,q4,q5⟩,r⟩=>by
  have e:(l::l'::ls).getLast (by simp)=(l'::ls).getLast (by simp):=by rw [Pn (by simp)]
  rw [e,Zb]
  refine Cq.root (fun x hx=>hn x (Qc _ hx)) ?_ r
  simp only [Rep]
  refine ⟨l'.a,_,rfl,⟨.inl q1,(hn l' (by simp)).1 _ (.inl rfl)⟩,q2.append (.one ?_)⟩
  simp only [Rep]
  refine ⟨b,_,rfl,.inl (.inl q3),.cons (by simp [Rep]) (q4.append ?_)⟩
  rw [q5]
  exact .cons h (reps_reps fun c hc=>⟨(hn l (by simp)).2 c hc,(hn l (by simp)).1 c (.inr hc)⟩)
 | [],_,_::_,_,_,_,h=>by cases h
 | _::_,_,[],_,_,_,h=>by cases h
theorem Zq.root (z:Zq K P9 Ua H w l ls top fs):Rep K H Ua (.lst (Zb top fs)) (.ref ((l::ls).getLast (by simp)).a):=by
 have g:Goes H H (Bq Ua w (l::ls)) Ua:=.less (fun e h=>.inl h) (.refl H)
 obtain ⟨vs,h1,h2⟩:=z.top
 refine Cq.root (fun v hv=>⟨fun x hx=>(z.new x (Zc.mpr (.inr ⟨v,hv,hx.elim .inl fun h=>.inr (.inr h)⟩))).2,(z.lv v hv).2⟩) ?_ (z.ch.mv g fun _ _ _ h=>h)
 simp only [Rep]
 exact ⟨l.a,vs,rfl,⟨.inl h1,(z.new l.a (Zc.mpr (.inr ⟨l,by simp,.inl rfl⟩))).2⟩,zr.goes g _ _ h2⟩
end
abbrev tQ (K:KC):TE:=tOp (rIxL K) (Zn 6) (tUn (rU fun i=>.int (-i)) (tC (.int 1)))
abbrev tPopB (K:KC):TS:=Z8 (ym (tBM K "list" rPopAt (tQ K) (zD (tC (.int 0)) zW))) (JE (Y2 (tOp (rEqD K false) (tQ K) (ji zW))) (ym (tBM0 K "list" rPop (Zn 6))) Ww)
theorem lay_emps:∀ ps:List Kc,PyData.canLayAll0 (Zx (ps.map fun _=>D.lst []))=true/\PyData.depthAll (Zx (ps.map fun _=>D.lst []))<=1
 | []=>⟨by rw [QJ,Zx,PyData.canLayAll0],by rw [QJ,Zx,PyData.depthAll];omega⟩
 | p::ps=>by
  obtain ⟨h1,h2⟩:=lay_emps ps
  rw [Qk,Zx,PyData.canLayAll0,PyData.depthAll,h1,zZ,Zx,PyData.canLay0,PyData.canLayAll0,PyData.depth,PyData.depthAll]
  exact ⟨rfl,by omega⟩
theorem py_emps (ps:List Kc):YX (.lst (ps.map fun _=>D.lst []))=true:=by
 obtain ⟨h1,h2⟩:=lay_emps ps
 unfold YX SeqAt.shaped
 rw [zZ,PyData.canLay0,PyData.depth,h1,KS (by omega)];rfl
theorem eq_emps (ps:List Kc):eqD (.lst (ps.map fun _=>D.lst [])) (.lst [])=decide (ps=[]):=by
 unfold eqD
 cases ps with
 | nil=>rw [QJ,zZ,Zx,PyData.eqv];simp [PyData.eqvAll]
 | cons p ps=>rw [Qk,zZ,Zx,zZ,Zx,PyData.eqv];simp [PyData.eqvAll]
section
variable {K:KC} {P9 H:Hp} {Ua:Kc->Prop} {w:Kc} {l:Lv} {ls:List Lv} {top:List D} {f:Fr} {fs:List Fr} {σ:St} {E:Ends}
theorem Zq.whr' (z:Zq K P9 Ua H w l ls top fs):H w=some (.lst ((ls.reverse.map fun x=>V.ref x.q)++[.ref l.q])):=by
 rw [z.whr];simp
theorem pop15 (z:Zq K P9 Ua H w l ls top (f::fs)) (g6:σ[6]?=some (some (.ref w)))
  (k1:∀ (p:Kc) (ps:List Kc) (H':Hp),l.ps=p::ps->Zq K P9 Ua H' w ⟨p,l.q,ps⟩ ls [] (⟨f.done,f.x,f.pre++[.lst top],ps.map fun _=>.lst []⟩::fs)->Goes H H' (Bq Ua w (l::ls)) (Bq Ua w (⟨p,l.q,ps⟩::ls))->(∀ e o,H e=some o->e∉yR w (l::ls)->H' e=some o)->E.nx σ H')
  (k2:∀ (l':Lv) (ls':List Lv) (H':Hp),ls=l'::ls'->l.ps=[]->Zq K P9 Ua H' w l' ls' (shut f top) fs->Goes H H' (Bq Ua w (l::ls)) (Bq Ua w ls)->(∀ e o,H e=some o->e∉yR w (l::ls)->H' e=some o)->E.nx σ H'):tPopB K E σ H:=by
 obtain ⟨wa,wq,aq,wp,ap,qp,pn,ndl,out⟩:=Ja z.nd
 have hw:=z.whr'
 obtain ⟨hq,hp⟩:=z.lv l (by simp)
 have oq:l.q∈yR w (l::ls):=Zc.mpr (.inr ⟨l,by simp,.inr (.inl rfl)⟩)
 have ow:w∈yR w (l::ls):=Zc.mpr (.inl rfl)
 refine ⟨.ref w,g6,1,rfl,w,_,-1,.ref l.q,rfl,rfl,.inl (.inl hw),jh,.inl ⟨rfl,_,.inl (.inl hq)⟩,l.q,(l.a::l.ps).map V.ref,0,0,.ref l.a,rfl,rfl,hq,by decide,by decide,?_,rfl,?_⟩
 ·rw [Qe,Qg];unfold seqIndex?;simp
 have e1:((l.a::l.ps).map V.ref).eraseIdx 0=l.ps.map V.ref:=rfl
 rw [e1]
 have w1:upd H l.q (.lst (l.ps.map V.ref)) w=some (.lst ((ls.reverse.map fun x=>V.ref x.q)++[.ref l.q])):=by rw [zh wq];exact hw
 have q1:upd H l.q (.lst (l.ps.map V.ref)) l.q=some (.lst (l.ps.map V.ref)):=zm
 have n1:∀ e o,H e=some o->e≠l.q->upd H l.q (.lst (l.ps.map V.ref)) e=some o:=fun e o h n=>by rw [zh n];exact h
 generalize upd H l.q (.lst (l.ps.map V.ref))=H1 at *
 refine ⟨.ref w,g6,1,rfl,w,_,-1,.ref l.q,rfl,rfl,.inl (.inl w1),jh,by show 0<=Kg;decide,fun e he=>?_⟩
 have s2:zO H1 (upd H1 e (.lst [])):=zB he
 have e2:upd H1 e (.lst []) e=some (.lst []):=zm
 generalize upd H1 e (.lst [])=H2 at *
 have n2:∀ e o,H e=some o->e≠l.q->H2 e=some o:=fun e o h n=>s2 _ _ (n1 e o h n)
 refine ⟨fun _=>False,.lst (l.ps.map fun _=>.lst []),.lst [],?_,?_,py_emps _,by decide,decide (l.ps=[]),?_,?_⟩
 ·simp only [Rep]
  exact ⟨l.q,_,rfl,⟨.inl (s2 _ _ q1),fun z=>z⟩,reps_reps fun c hc=>⟨n2 _ _ (hp c hc) fun z=>qp (z▸hc),fun z=>z⟩⟩
 ·simp only [Rep]
  exact ⟨e,[],rfl,⟨.inl e2,fun z=>z⟩,.nil⟩
 ·rw [KR Qh,eq_emps]
 ·cases hps:l.ps with
  | nil =>
   rw [KS rfl]
   refine ifT ?_
   cases ls with
   | nil=>exact absurd z.ch.len (by simp)
   | cons l' ls' =>
    have w2:=s2 _ _ w1
    refine ⟨.ref w,g6,.inl ⟨rfl,_,.inl (.inl w2)⟩,w,_,.ref l.q,rfl,rfl,w2,by simp,?_⟩
    rw [Q2]
    obtain ⟨zo,go⟩:=z.out (H':=upd H2 w (.lst ((l'::ls').reverse.map fun x=>V.ref x.q))) hps zm (fun e o h n n'=>by rw [zh n'];exact n2 e o h n)
    exact k2 l' ls' _ rfl hps zo go fun e o h n=>by
     rw [zh (show e≠w from fun z=>n (by rw [z];exact ow))]
     exact n2 e o h fun z=>n (by rw [z];exact oq)
  | cons p ps =>
   rw [KU (by simp)]
   refine ifF ?_
   obtain ⟨zn,gn⟩:=z.next (H':=H2) hps (by rw [<- hps];exact s2 _ _ q1) n2
   exact k1 p ps _ hps zn gn fun e o h n=>n2 e o h fun z=>n (by rw [z];exact oq)
end
theorem cutV_from {xs:List V} (k:Nat):Jh xs (some (k:Int)) none=xs.drop k:=by
 unfold Jh
 rw [HT.sIx_nat,HT.sIx_none]
 by_cases h2:k<=xs.length
 ·rw [Nat.min_eq_left h2,Pa (by simp)]
 ·rw [Nat.min_eq_right (by omega),List.drop_eq_nil_of_le (by omega:xs.length<=k),Pf];simp
abbrev tRest (K:KC) (n:Nat):TE:=wy 1 (iTup K (tSl (rSlT K) (Zn 9) (tPart (tC (.int 1))) w6)) (ZA n) tYes (Zn n)
section
variable {K:KC} {H:Hp} {σ:St}
theorem comp_rest {n:Nat} {b:Kc} {x:V} {vs:List V} {Q:VK} (hσ:σ.length=n) (g9:σ[9]?=some (some (.ref b))) (hb:SqT K H b (x::vs)) (hl:vs.length<=1000)
  (q:∀ (t e:Kc) (H':Hp),H t=none->e≠t->H e=none->H' e=some (.lst vs)->zO H H'->Q (.ref e) H'):tRest K n σ H Q:=by
 refine ⟨.ref b,g9,1,rfl,b,x::vs,rfl,hb,?_,fun t ht=>?_⟩
 ·have:=HT.sIx_nat (x::vs).length 0 1
  rintro ⟨z,-⟩
  rw [show ((1:Int))=((1:Nat):Int) from rfl,HT.sIx_nat] at z
  simp only [Qg] at z
  omega
 have ec:Jh (x::vs) (some 1) none=vs:=cutV_from 1
 rw [ec]
 have s1:zO H (upd H t (.tup vs)):=zB ht
 have t1:upd H t (.tup vs) t=some (.tup vs):=zm
 have f1:∀ e,upd H t (.tup vs) e=none->e≠t/\H e=none:=fun e he=>by
  have h1:e≠t:=fun z=>by rw [z,zm] at he;cases he
  rw [zh h1] at he
  exact ⟨h1,he⟩
 generalize upd H t (.tup vs)=H1 at *
 refine ⟨t,rfl,⟨vs,.inl (.inl t1)⟩,fun e he=>?_⟩
 obtain ⟨et,hen⟩:=f1 e he
 refine ⟨fun i m ys σ' H'=>ys=vs.take i/\m=vs.length - i/\i<=vs.length/\H' e=some (.lst ys)/\(∀ a o,H1 a=some o->H' a=some o)/\∃ z,σ'=σ++[z],⟨vs.length,rfl,by simp,Q5 _,zm,fun a o h=>?_,none,rfl⟩,?_⟩
 ·rw [zh (fun z=>by rw [z,he] at h;cases h)];exact h
 rintro i m ys σ' H' ⟨rfl,rfl,hi,he',hs,z,rfl⟩
 refine ⟨he',?_⟩
 have tt:=hs _ _ t1
 by_cases hlt:i<vs.length
 ·right
  refine ⟨⟨vs,vs[i],.inl (.inl tt),by simp [hlt]⟩,fun v H2 y=>?_⟩
  obtain ⟨rfl,hy⟩:=y
  have hv:=hy vs (.inl (.inl tt))
  rw [QN hlt] at hv
  cases hv
  unfold ZA tYes
  dsimp only
  rw [KQ rfl]
  have e1:(σ++[z]).set n (some vs[i])=σ++[some vs[i]]:=by
   rw [<- hσ,List.set_append_right _ _ (by omega)];simp
  refine ⟨vs[i],?_,he',by rw [Q3];exact Q0 (Nat.min_le_right _ _) (w9 (by omega)),vs.length - (i+1),by omega,?_,rfl,hlt,zm,fun a o h=>?_,some vs[i],e1⟩
  ·rw [e1,QY (by omega),<- hσ];simp
  ·rw [List.take_succ,QN hlt];rfl
  ·rw [zh (fun z=>by rw [z,he] at h;cases h)];exact hs a o h
 ·left
  have hi':i=vs.length:=by omega
  subst hi'
  rw [PM] at he'
  exact ⟨⟨vs,.inl (.inl tt),by simp⟩,q t e H' ht et hen he' fun a o h=>hs _ _ (s1 _ _ h)⟩
end
def jW:List V:=[.str "either",.str "loop"]
def addQ (deep:Int) (d:D) (top:List D) (fs:List Fr):Option (List D×List Fr):=match d with
 | .tup (.str x::ps)=>if top.length<Kg/\fs.length<1000/\ps.length<=1000 then
   if inV (.str x) jW=true/\((fs.length+1:Nat):Int)<deep then
    (if 0<ps.length/\ps.all (fun d=>match d with | .lst []=>true | _=>false)=true then some ([],⟨top,x,[],ps.tail⟩::fs) else none)
   else some (top++[d],fs)
  else none
 | _=>none
abbrev tAdd15 (K:KC):TS:=ym (tBM K "list" yk (tOp (rIxL K) (tQ K) (tC (.int 0))) (zD (Zn 9) zW))
abbrev tT15 (K:KC):TT:=tAnd (Y2 (tOp (rIn K false) (tOp (rIxT K) (Zn 9) (tC (.int 0))) (Wv (zD (tC (.str "either")) (zD (tC (.str "loop")) zW))))) (Y2 (tOp (rI0 fun i j=>.bl (decide (i<j))) (tCB (lenR K) (zD (Zn 6) zW)) (Zn 3)))
abbrev tPush15 (K:KC) (n:Nat):TS:=ym (tBM K "list" yk (Zn 6) (zD (tRest K n) zW))
abbrev tJoin15 (K:KC) (n:Nat):TS:=Z8 (tAdd15 K) (JE (tT15 K) (tPush15 K n) Ww)
section
variable {K:KC} {P9 H2 H:Hp} {Ua:Kc->Prop} {w:Kc} {l:Lv} {ls:List Lv} {top top':List D} {fs fs':List Fr} {σ:St} {E:Ends}
theorem join15 {n:Nat} {b:Kc} {x:Kw} {ps:List D} {tr:List V} {deep:Int} (z:Zq K P9 Ua H2 w l ls top fs) (gr:zO P9 H2) (hb0:∀ x,Ua x->∃ o,H2 x=some o) (s3:zO H2 H) (hσ:σ.length=n) (g6:σ[6]?=some (some (.ref w))) (g9:σ[9]?=some (some (.ref b))) (g3:σ[3]?=some (some (.int deep)))
  (htup:SqT K H b (.str x::tr)) (hps:zr K H (Bq Ua w (l::ls)) ps tr) (alt:Yi ps=true\/∃ cs:List Kc,ps=cs.map (fun _=>D.lst [])/\tr=cs.map V.ref/\cs.Nodup/\(∀ e∈cs,H2 e=none/\H e=some (.lst []))/\H b=some (.tup (.str x::cs.map V.ref)))
  (hs:addQ deep (.tup (.str x::ps)) top fs=some (top',fs'))
  (k:∀ (l':Lv) (ls':List Lv) (H':Hp),Zq K P9 Ua H' w l' ls' top' fs'->Goes H2 H' (Bq Ua w (l::ls)) (Bq Ua w (l'::ls'))->(∀ e o,H2 e=some o->e∉yR w (l::ls)->H' e=some o)->(l'::ls').getLast (by simp)=(l::ls).getLast (by simp)->E.nx σ H'):tJoin15 K n E σ H:=by
 unfold addQ at hs
 simp only at hs
 split at hs
 case isFalse=>cases hs
 rename_i hsz
 obtain ⟨wa,wq,aq,wp,ap,qp,pn,ndl,out⟩:=Ja z.nd
 have z3:=z.up s3
 have hw:=z3.whr'
 obtain ⟨hq,hp⟩:=z3.lv l (by simp)
 obtain ⟨vs,hv2,hvs⟩:=z.top
 have hv:=s3 _ _ hv2
 have oa:l.a∈yR w (l::ls):=Zc.mpr (.inr ⟨l,by simp,.inl rfl⟩)
 have ow:w∈yR w (l::ls):=Zc.mpr (.inl rfl)
 have hvl:vs.length<Kg:=by rw [hvs.length];exact hsz.1
 refine ⟨.ref w,g6,1,rfl,w,_,-1,.ref l.q,rfl,rfl,.inl (.inl hw),jh,l.q,(l.a::l.ps).map V.ref,0,.ref l.a,rfl,rfl,.inl (.inl hq),zL (j:=0) rfl,.inl ⟨rfl,vs,.inl (.inl hv)⟩,.ref b,g9,l.a,vs,.ref b,rfl,rfl,hv,hvl,?_⟩
 have gadd:Goes H (upd H l.a (.lst (vs++[.ref b]))) (Bq Ua w (l::ls)) (Bq Ua w (l::ls)):=.write (.inr oa) hv trivial
 have tup4:SqT K (upd H l.a (.lst (vs++[.ref b]))) b (.str x::tr):=by
  rcases htup with q | q
  ·exact .inl (gadd.tup _ _ q)
  ·exact .inr q
 have a4:upd H l.a (.lst (vs++[.ref b])) l.a=some (.lst (vs++[.ref b])):=zm
 have n4:∀ e o,H e=some o->e≠l.a->upd H l.a (.lst (vs++[.ref b])) e=some o:=fun e o h n=>by rw [zh n];exact h
 generalize upd H l.a (.lst (vs++[.ref b]))=H4 at *
 have w4:=n4 _ _ hw wa
 refine ⟨.ref b,g9,b,_,0,.str x,rfl,rfl,tup4,zL (j:=0) rfl,by show 2<=Kg;decide,fun e he=>⟨e,jW,rfl,.inr (.inl (.inl zm)),rfl,rfl,inV (.str x) jW,rfl,?_⟩⟩
 have s5:zO H4 (upd H4 e (.tup [.str "either",.str "loop"])):=zB he
 generalize upd H4 e (.tup [V.str "either",V.str "loop"])=H5 at *
 have w5:=s5 _ _ w4
 have a5:=s5 _ _ a4
 have n5:∀ e o,H e=some o->e≠l.a->H5 e=some o:=fun e o h n=>s5 _ _ (n4 e o h n)
 have tup5:SqT K H5 b (.str x::tr):=SqT.same s5 tup4
 have wl:(((ls.reverse.map fun x=>V.ref x.q)++[.ref l.q]):List V).length=fs.length+1:=by
  have:=z.ch.len
  simp only [Qg] at this
  rw [Qf,Qe,List.length_reverse];simp only [Qg,QB];omega
 have plain:fs'=fs/\top'=top++[.tup (.str x::ps)]->E.nx σ H5:=by
  rintro ⟨rfl,rfl⟩
  have r':Rep K H (Bq Ua w (l::ls)) (.tup (.str x::ps)) (.ref b):=by
   simp only [Rep]
   exact ⟨b,_,rfl,htup,.cons (by simp [Rep]) hps⟩
  refine k l ls H5 (z3.add hv r' a5 n5) (ja (O:=fun e=>e=l.a) (fun e o h n=>n5 e o (s3 _ _ h) n) (fun e he=>by rw [he];exact .inr ⟨_,hv2⟩) (fun e xs he _=>.inr (by rw [he];exact oa)) fun e he=>.inl he) (fun e o h n=>n5 e o (s3 _ _ h) fun q=>n (by rw [q];exact oa)) rfl
 by_cases hin:inV (.str x) jW=true
 ·rw [hin]
  refine ifT ?_
  refine ⟨.ref w,g6,w,_,rfl,.inl (.inl (.inl w5)),.int deep,g3,_,deep,rfl,rfl,decide (((((ls.reverse.map fun x=>V.ref x.q)++[.ref l.q]):List V).length:Int)<deep),rfl,?_⟩
  by_cases hd:((fs.length+1:Nat):Int)<deep
  ·rw [wl,KS hd]
   refine ifT ?_
   rw [KQ ⟨hin,hd⟩] at hs
   split at hs
   case isFalse=>cases hs
   rename_i hop
   cases hs
   have pe:=all_emp hop.2
   rcases alt with hfl | ⟨cs,rfl,rfl,hnd,hcs,hb'⟩
   ·exfalso
    cases ps with
    | nil=>simp at hop
    | cons q ps' =>
     have:=pe q (by simp)
     subst this
     simp [D.flat,Yi] at hfl
   ·cases cs with
    | nil=>simp at hop
    | cons c cs =>
     refine ⟨.ref w,g6,.inl ⟨rfl,_,.inl (.inl w5)⟩,?_⟩
     show tRest K n σ H5 (fun x H1=>zW σ H1 fun xs H2=>yk (.ref w) (x::xs) H2 fun _ H1=>E.nx σ H1)
     refine comp_rest hσ g9 tup5 (by have:=hsz.2.2;simpa using this) fun t e' H6 ht net he' hq' s6=>?_
     refine ⟨w,_,.ref e',rfl,rfl,s6 _ _ w5,by rw [wl];exact w9 (by omega),?_⟩
     have ea:e'≠l.a:=fun q=>by rw [q,a5] at he';cases he'
     have ew:e'≠w:=fun q=>by rw [q,w5] at he';cases he'
     have h2n:∀ y,H5 y=none->H2 y=none:=fun y hy=>by
      cases q:H2 y with
      | none=>rfl
      | some o =>
       by_cases e:y=l.a
       ·rw [e,a5] at hy;cases hy
       ·rw [n5 y o (s3 _ _ q) e] at hy;cases hy
     have ec:∀ y∈c::cs,y≠l.a/\y≠w:=fun y hy=>by
      refine ⟨fun q=>?_,fun q=>?_⟩
      ·have:=(hcs y hy).1;rw [q,hv2] at this;cases this
      ·have:=(hcs y hy).1;rw [q,z.whr] at this;cases this
     have c5:∀ y∈c::cs,H5 y=some (.lst []):=fun y hy=>n5 _ _ (hcs y hy).2 (ec y hy).1
     have eq:∀ y∈c::cs,y≠e':=fun y hy q=>by have:=c5 y hy;rw [q,he'] at this;cases this
     have bl:b≠l.a:=fun q=>by rw [q,hv] at hb';cases hb'
     have bw:b≠w:=fun q=>by rw [q,hw] at hb';cases hb'
     have hn6:∀ y o,H2 y=some o->y≠l.a->y≠w->upd H6 w (.lst (((ls.reverse.map fun x=>V.ref x.q)++[.ref l.q])++[.ref e'])) y=some o:=fun y o h n1 n2=>by rw [zh n2];exact s6 _ _ (n5 _ _ (s3 _ _ h) n1)
     obtain ⟨zp,gp⟩:=z.push (H':=upd H6 w (.lst (((ls.reverse.map fun x=>V.ref x.q)++[.ref l.q])++[.ref e']))) gr hb0 hv2 (b:=b) (q:=e') (c:=c) (x:=x) (cs:=cs) (by
       have hc:=Qy.mp hnd
       refine Qy.mpr ⟨fun q=>?_,Qy.mpr ⟨fun q=>eq e' (Qc _ q) rfl,hc.2⟩⟩
       rcases Qa.mp q with q | q
       ·exact eq c (by simp) q
       ·exact hc.1 q) (fun y hy=>by
       rcases Qa.mp hy with rfl | hy
       ·exact (hcs _ (by simp)).1
       ·rcases Qa.mp hy with rfl | hy
        ·exact h2n _ he'
        ·exact (hcs _ (Qc _ hy)).1)
      (by rw [zh (Ne.symm wa)];exact s6 _ _ a5) (by rw [zh bw];exact s6 _ _ (n5 _ _ hb' bl)) (by rw [zh ew];exact hq') (fun y hy=>by rw [zh (ec y hy).2];exact s6 _ _ (c5 y hy)) (by rw [zm];simp) hn6
     have et:(List.map (fun _=>D.lst []) (c::cs)).tail=cs.map fun _=>D.lst []:=rfl
     rw [et] at k
     exact k _ _ _ zp gp (fun y o h n=>hn6 y o h (fun q=>n (by rw [q];exact oa)) fun q=>n (by rw [q];exact ow)) (by rw [Pn (by simp)])
  ·rw [wl,KU hd]
   refine ifF ?_
   rw [KR (fun q=>hd q.2)] at hs
   cases hs
   exact plain ⟨rfl,rfl⟩
 ·rw [Bool.eq_false_iff.mpr hin]
  refine ifF (ifF ?_)
  rw [KR (fun q=>hin q.1)] at hs
  cases hs
  exact plain ⟨rfl,rfl⟩
end
def popQ (top:List D):List Fr->Option (List D×List Fr)
 | f::fs=>match f.post with
  | []=>some (shut f top,fs)
  | _::ps=>some ([],⟨f.done,f.x,f.pre++[.lst top],ps⟩::fs)
 | []=>none
def evQ (ρ:Ev) (u:Int):Ev:=(((((ρ.set 5 none).set 6 none).set 9 none).set 10 none).set 8 none).set 7 (some (.int u))
def isRowT:D->Bool
 | .tup (.str _::_)=>true
 | _=>false
def stepQ (deep KN:Int) (ρ:Ev) (f c1 c2:Ev->Option D) (c:Int) (top:List D) (fs:List Fr) (u:Int):Option ((List D×List Fr)×Int) :=
 if c % 8=0/\0<fs.length then (popQ top fs).map fun r=>(r,u)
 else (f ((evQ ρ u).set 8 (some (.int c)))).bind fun d=>if isRowT d=true then (c1 (((evQ ρ u).set 8 (some (.int c))).set 9 (some d))).bind fun k1=>(c2 ((((evQ ρ u).set 8 (some (.int c))).set 9 (some d)).set 10 (some k1))).bind fun k2=>(asI k2).bind fun k =>
  if u+k<=KN then (addQ deep d top fs).map fun r=>(r,u+k) else some ((top,fs),u)
  else none
def goQ (deep KN:Int) (ρ:Ev) (f c1 c2:Ev->Option D):List Int->List D->List Fr->Int->Option (List D×Int)
 | [],top,fs,u=>some (Zb top fs,u)
 | c::cs,top,fs,u=>(stepQ deep KN ρ f c1 c2 c top fs u).bind fun r=>goQ deep KN ρ f c1 c2 cs r.1.1 r.1.2 r.2
abbrev tc8 (K:KC):TT:=tAnd (Y2 (tOp rEq (tOp (rI (fun _ j=>0<j) fun i j=>.int (i % j)) (Zn 8) (tC (.int 8))) (tC (.int 0)))) (Y2 (tOp (rI0 fun i j=>.bl (decide (j<i))) (tCB (lenR K) (zD (Zn 6) zW)) (tC (.int 1))))
abbrev tSum15:TE:=tOp (rI0 fun i j=>.int (i+j)) (Zn 7) (Zn 10)
abbrev tCell15 (K:KC) (n:Nat) (te tk1 tk2:TE):TS:=JE (tc8 K) (tPopB K) (Z8 (yQ te (ZA 9)) (Z8 (yQ tk1 (ZA 10)) (Z8 (yQ tk2 (ZA 10)) (JE (Y2 (tOp (rI0 fun i j=>.bl (decide (i<=j))) tSum15 (Zn 4))) (Z8 (yQ tSum15 (ZA 7)) (tJoin15 K n)) Ww))))
theorem md_sub {K:KC} {P9 H:Hp} {B:Kc->Prop} {σ:St} {ρ ρ':Ev} (m:Md K P9 B [] σ H ρ) (hl:ρ'.length=ρ.length) (h:∀ (i:Nat) d,ρ'[i]?=some (some d)->ρ[i]?=some (some d)):Md K P9 B [] σ H ρ' :=
 ⟨m.grow,m.blk,by rw [hl];exact m.len,fun i d q n=>m.sh i d (h i d q) n,fun i hi=>(by cases hi),fun i j a hi=>by cases hi⟩
structure St15 (K:KC) (H:Hp) (Ua:Kc->Prop) (ρ:Ev) (p:Kc) (top:List D) (fs:List Fr) (u:Int) (r:Kc) (σ':St) (H':Hp):Prop where
 ex:∃ (w:Kc) (l:Lv) (ls:List Lv),Md K H (Bq Ua w (l::ls)) [] σ' H' (evQ ρ u)/\Zq K H Ua H' w l ls top fs/\σ'[6]?=some (some (.ref w))/\((l::ls).getLast (by simp)).a=r/\σ'[5]?=some (some (.ref r))/\σ'[0]?=some (some (.ref p))
section
variable {K:KC} {te tk1 tk2:TE} {f c1 c2:Ev->Option D} {H:Hp} {Ua:Kc->Prop} {ρ:Ev} {p r:Kc} {top top':List D} {fs fs':List Fr} {c u u' deep KN:Int} {N:St->Hp->Prop} {E:Ends}
theorem bq_le {w:Kc} {l:Lv} {ls:List Lv} {H':Hp} (hb:∀ x,Ua x->∃ o,H' x=some o) (z:Zq K H Ua H' w l ls top fs):∀ x,Bq Ua w (l::ls) x->∃ o,H' x=some o:=fun x h=>by
 rcases h with h | h
 ·exact hb x h
 ·obtain ⟨xs,q⟩:=z.lists x h;exact ⟨_,q⟩
theorem Yd:(evQ ρ u).length=ρ.length:=by unfold evQ;simp
theorem Ju {i:Nat} (h:i≠5/\i≠6/\i≠7/\i≠8/\i≠9/\i≠10):(evQ ρ u)[i]?=ρ[i]?:=by
 unfold evQ
 rw [zf h.2.2.1,zf h.2.2.2.1,zf h.2.2.2.2.2,zf h.2.2.2.2.1,zf h.2.1,zf h.1]
theorem evQ_no {i:Nat} (h:i=5\/i=6\/i=8\/i=9\/i=10) {d:D}:(evQ ρ u)[i]?≠some (some d):=by
 unfold evQ
 intro q
 rw [zf (by omega)] at q
 by_cases h8:i=8
 ·subst h8;have:=yD q;cases this
 ·rw [zf h8] at q
  by_cases h10:i=10
  ·subst h10;have:=yD q;cases this
  ·rw [zf h10] at q
   by_cases h9:i=9
   ·subst h9;have:=yD q;cases this
   ·rw [zf h9] at q
    by_cases h6:i=6
    ·subst h6;have:=yD q;cases this
    ·rw [zf h6] at q
     have h5:i=5:=by omega
     subst h5;have:=yD q;cases this
theorem Wm {ρ':Ev} {u':Int} (hl:ρ'.length=ρ.length) (h7:ρ'[7]?=some (some (.int u'))) (h:∀ i,i≠5/\i≠6/\i≠7/\i≠8/\i≠9/\i≠10->ρ'[i]?=ρ[i]?):∀ (i:Nat) d,(evQ ρ u')[i]?=some (some d)->ρ'[i]?=some (some d):=fun i d q=>by
 by_cases h1:i=5\/i=6\/i=8\/i=9\/i=10
 ·exact absurd q (evQ_no h1)
 ·by_cases hi:i=7
  ·subst hi
   have:(evQ ρ u')[7]?=some (some (.int u')):=by
    unfold evQ
    rw [QR]
    have:=(Qs.mp h7).1
    simp only [Qu];omega
   rw [this] at q;cases q;exact h7
  ·rw [h i (by omega),<- Ju (ρ:=ρ) (u:=u') (by omega)];exact q
theorem cell15 (hrow:∀ (P9:Hp) (Ua:Kc->Prop) (σ:St) (H:Hp) (ρ:Ev) (d:D) (Q:VK),Md K P9 Ua [] σ H ρ->f ρ=some d->(∀ v H',zO H H'->FR K H H' Ua d v->Q v H')->te σ H Q)
  (hk1:∀ (P9:Hp) (Ua:Kc->Prop) (σ:St) (H:Hp) (ρ:Ev) (d:D) (Q:VK),Md K P9 Ua [] σ H ρ->c1 ρ=some d->(∀ v H',zO H H'->Rep K H' Ua d v->Q v H')->tk1 σ H Q)
  (hk2:∀ (P9:Hp) (Ua:Kc->Prop) (σ:St) (H:Hp) (ρ:Ev) (d:D) (Q:VK),Md K P9 Ua [] σ H ρ->c2 ρ=some d->(∀ v H',zO H H'->Rep K H' Ua d v->Q v H')->tk2 σ H Q)
  {n:Nat} (hn:ρ.length=n) (hn2:10<n) (hb0:∀ x,Ua x->∃ o,H x=some o) (h3:ρ[3]?=some (some (.int deep))) (h4:ρ[4]?=some (some (.int KN)))
  {w:Kc} {l:Lv} {ls:List Lv} {σ:St} {H2:Hp} (md:Md K H (Bq Ua w (l::ls)) [] σ H2 ((evQ ρ u).set 8 (some (.int c)))) (z:Zq K H Ua H2 w l ls top fs) (g6:σ[6]?=some (some (.ref w))) (gr:((l::ls).getLast (by simp)).a=r) (g5:σ[5]?=some (some (.ref r))) (g0:σ[0]?=some (some (.ref p)))
  (hs:stepQ deep KN ρ f c1 c2 c top fs u=some ((top',fs'),u')) (hN:∀ σ' H',St15 K H Ua ρ p top' fs' u' r σ' H'->N σ' H') :
  tCell15 K n te tk1 tk2 { E with nx:=N,ct:=N } σ H2:=by
 have hlen:σ.length=n:=by rw [md.len,Qu,Yd,hn]
 have slot:∀ (i:Nat) (j:Int),((evQ ρ u).set 8 (some (.int c)))[i]?=some (some (.int j))->σ[i]?=some (some (.int j)):=fun i j q=>by
  obtain ⟨v,h1,h2⟩:=md.sh i _ q (by simp)
  simp only [Rep] at h2
  rw [h2] at h1;exact h1
 have s8:σ[8]?=some (some (.int c)):=slot 8 c (QR (by rw [Yd];omega))
 have e7:(evQ ρ u)[7]?=some (some (.int u)):=by unfold evQ;rw [QR (by simp only [Qu];omega)]
 have s7:σ[7]?=some (some (.int u)):=slot 7 u (by rw [zf (by decide)];exact e7)
 have s3':σ[3]?=some (some (.int deep)):=slot 3 deep (by rw [zf (by decide),Ju (by decide)];exact h3)
 have s4':σ[4]?=some (some (.int KN)):=slot 4 KN (by rw [zf (by decide),Ju (by decide)];exact h4)
 have wl:(((ls.reverse.map fun x=>V.ref x.q)++[.ref l.q]):List V).length=fs.length+1:=by
  have:=z.ch.len
  simp only [Qg] at this
  rw [Qf,Qe,List.length_reverse];simp only [Qg,QB];omega
 have other:¬ (c % 8=0/\0<fs.length)->Z8 (yQ te (ZA 9)) (Z8 (yQ tk1 (ZA 10)) (Z8 (yQ tk2 (ZA 10)) (JE (Y2 (tOp (rI0 fun i j=>.bl (decide (i<=j))) tSum15 (Zn 4))) (Z8 (yQ tSum15 (ZA 7)) (tJoin15 K n)) Ww))) { E with nx:=N,ct:=N } σ H2:=fun hno=>by
  unfold stepQ at hs
  rw [KR hno] at hs
  obtain ⟨d,hd,hs1⟩:=ze hs
  split at hs1
  case isFalse=>cases hs1
  rename_i hrt
  obtain ⟨k1,hk1',hs2⟩:=ze hs1
  obtain ⟨k2,hk2',hs3⟩:=ze hs2
  obtain ⟨k,hk',hs4⟩:=ze hs3
  clear hs hs1 hs2 hs3
  have ek2:k2=.int k:=by cases k2 <;> simp only [asI] at hk' <;> cases hk';rfl
  subst ek2
  refine hrow _ _ σ H2 _ d _ md hd fun v H3 s3 fr=>?_
  have md3:=md.up s3
  obtain ⟨x,ps,rfl⟩:∃ x ps,d=.tup (.str x::ps):=by
   unfold isRowT at hrt
   split at hrt
   ·exact ⟨_,_,rfl⟩
   ·cases hrt
  obtain ⟨b,tr,rfl,htup,hps,alt⟩:∃ (b:Kc) (tr:List V),v=.ref b/\SqT K H3 b (.str x::tr)/\zr K H3 (Bq Ua w (l::ls)) ps tr/\(Yi ps=true\/∃ cs:List Kc,ps=cs.map (fun _=>D.lst [])/\tr=cs.map V.ref/\cs.Nodup/\(∀ e∈cs,H2 e=none/\H3 e=some (.lst []))/\H3 b=some (.tup (.str x::cs.map V.ref))):=by
   rcases fr with ⟨_,q,_,_,_,hw⟩ | ⟨hfl,rep⟩ | ⟨b',x',cs,eb,ed,hnd,hls,hb'⟩
   ·cases q <;> simp only [Own] at hw
   ·simp only [Rep] at rep
    obtain ⟨b,ts,rfl,htup,hts⟩:=rep
    simp only [zr] at hts
    obtain ⟨tx,tr,rfl,hx,hps⟩:=hts
    simp only [Rep] at hx
    subst hx
    exact ⟨b,tr,rfl,htup,hps,.inl (by simpa [D.flat,Yi] using hfl)⟩
   ·cases ed
    exact ⟨b',_,eb,.inl (.inl hb'),JJ md.blk hls,.inr ⟨cs,rfl,rfl,hnd,hls,hb'⟩⟩
  have rd:Rep K H3 (Bq Ua w (l::ls)) (.tup (.str x::ps)) (.ref b):=by
   simp only [Rep]
   exact ⟨b,_,rfl,htup,.cons (by simp [Rep]) hps⟩
  have md9:Md K H (Bq Ua w (l::ls)) [] (σ.set 9 (some (.ref b))) H3 (((evQ ρ u).set 8 (some (.int c))).set 9 (some (.tup (.str x::ps)))):=md3.put (os':=[]) (fun _ z=>nomatch z) (fun _ z=>nomatch z) (by rw [y7];exact rd)
  refine hk1 _ _ _ H3 _ k1 _ md9 hk1' fun v1 H4 s4 r1=>?_
  have md10:=(md9.up s4).put (i:=10) (os':=[]) (v:=v1) (d:=k1) (fun _ z=>nomatch z) (fun _ z=>nomatch z) (by rw [y7];exact r1)
  refine hk2 _ _ _ H4 _ _ _ md10 hk2' fun v2 H5 s5 r2=>?_
  simp only [Rep] at r2
  subst r2
  have x7:((((σ.set 9 (some (.ref b))).set 10 (some v1)).set 10 (some (.int k))):St)[7]?=some (some (.int u)):=by rw [zf (by decide),zf (by decide),zf (by decide)];exact s7
  have x4:((((σ.set 9 (some (.ref b))).set 10 (some v1)).set 10 (some (.int k))):St)[4]?=some (some (.int KN)):=by rw [zf (by decide),zf (by decide),zf (by decide)];exact s4'
  have x10:((((σ.set 9 (some (.ref b))).set 10 (some v1)).set 10 (some (.int k))):St)[10]?=some (some (.int k)):=zK (by simp only [Qu];omega)
  refine ⟨.int u,x7,.int k,x10,u,k,rfl,rfl,.int KN,x4,u+k,KN,rfl,rfl,decide (u+k<=KN),rfl,?_⟩
  have s35:zO H2 H5:=s3.trans (s4.trans s5)
  by_cases hm:u+k<=KN
  ·rw [KS hm]
   refine ifT ?_
   rw [KQ hm] at hs4
   obtain ⟨rr,ha,e⟩:=map_some hs4
   cases e
   refine ⟨.int u,x7,.int k,x10,u,k,rfl,rfl,?_⟩
   have s45:zO H3 H5:=s4.trans s5
   refine join15 z md.grow (fun y hy=>md.blk y (.inl hy)) s35 (by simp only [Qu];exact hlen) (by rw [zf (by decide),zf (by decide),zf (by decide),zf (by decide)];exact g6) (by rw [zf (by decide),zf (by decide),zf (by decide)];exact zK (by omega)) (by rw [zf (by decide),zf (by decide),zf (by decide),zf (by decide)];exact s3') (SqT.same s45 htup) (hps.up s45) ?_ ha fun l' ls' H' zq gq keep hlast=>?_
   ·rcases alt with h | ⟨cs,a1,a2,a3,a4,a5⟩
    ·exact .inl h
    ·exact .inr ⟨cs,a1,a2,a3,fun e he=>⟨(a4 e he).1,s45 _ _ (a4 e he).2⟩,s45 _ _ a5⟩
   ·have grow:zO H H':=fun y o q=>keep y o (md.grow _ _ q) fun hm=>by rw [(z.new y hm).1] at q;cases q
    have m0:=md.go gq grow (bq_le (fun y hy=>by obtain ⟨o,q⟩:=hb0 y hy;exact ⟨o,grow _ _ q⟩) zq)
    have m1:=((((m0.forget (i:=9) (v:=some (.ref b)) (by simp)).forget (i:=10) (v:=some v1) (by simp)).forget (i:=10) (v:=some (.int k)) (by simp)).put (i:=7) (os':=[]) (v:=.int (u+k)) (d:=.int (u+k)) (fun _ z=>nomatch z) (fun _ z=>nomatch z) (by simp [Rep]))
    have m2:=md_sub m1 (ρ':=evQ ρ (u+k)) (by simp only [Qu,Yd]) (Wm (by simp only [Qu,Yd]) (QR (by simp only [Qu,Yd];omega)) fun i hi=>by
     rw [zf hi.2.2.1,zf hi.2.2.2.2.2,zf hi.2.2.2.2.2,zf hi.2.2.2.2.1,zf hi.2.2.2.1];exact Ju hi)
    exact hN _ _ ⟨w,l',ls',m2,zq,by rw [zf (by decide),zf (by decide),zf (by decide),zf (by decide)];exact g6,by rw [hlast];exact gr,by rw [zf (by decide),zf (by decide),zf (by decide),zf (by decide)];exact g5,by rw [zf (by decide),zf (by decide),zf (by decide),zf (by decide)];exact g0⟩
  ·rw [KU hm]
   refine ifF ?_
   rw [KR hm] at hs4
   cases hs4
   have m1:=(md10.up s5).put (i:=10) (os':=[]) (v:=.int k) (d:=.int k) (fun _ z=>nomatch z) (fun _ z=>nomatch z) (by simp [Rep])
   have m2:=md_sub m1 (ρ':=evQ ρ u) (by simp only [Qu,Yd]) (Wm (by simp only [Qu,Yd]) (by rw [zf (by decide),zf (by decide),zf (by decide),zf (by decide)];exact e7) fun i hi=>by
    rw [zf hi.2.2.2.2.2,zf hi.2.2.2.2.2,zf hi.2.2.2.2.1,zf hi.2.2.2.1];exact Ju hi)
   exact hN _ _ ⟨w,l,ls,m2,z.up s35,by rw [zf (by decide),zf (by decide),zf (by decide)];exact g6,gr,by rw [zf (by decide),zf (by decide),zf (by decide)];exact g5,by rw [zf (by decide),zf (by decide),zf (by decide)];exact g0⟩
 refine ⟨_,s8,c,8,rfl,rfl,(show (0:Int)<8 by decide),rfl,decide (c % 8=0),by rw [show (decide (V.int (c % 8)=V.int 0))=decide (c % 8=0) by simp],?_⟩
 by_cases h8:c % 8=0
 ·rw [KS h8]
  refine ifT ?_
  refine ⟨.ref w,g6,w,_,rfl,.inl (.inl (.inl z.whr')),_,1,rfl,rfl,decide ((1:Int)<(((ls.reverse.map fun x=>V.ref x.q)++[.ref l.q]):List V).length),rfl,?_⟩
  cases fs with
  | nil =>
   rw [KU (by rw [wl];simp)]
   refine ifF ?_
   exact other fun q=>absurd q.2 (by simp)
  | cons f0 fs0 =>
   rw [KS (by rw [wl];simp;omega)]
   refine ifT ?_
   unfold stepQ at hs
   rw [KQ ⟨h8,by simp⟩] at hs
   obtain ⟨rr,hp,e⟩:=map_some hs
   cases e
   cases ls with
   | nil=>exact absurd z.ch.len (by simp)
   | cons l1 ls1 =>
    have hpost:f0.post=l.ps.map fun _=>D.lst []:=by
     obtain ⟨⟨_,_,_,_,_,_,_,q5⟩,_⟩:=z.ch
     exact q5
    have fin:∀ (l':Lv) (ls':List Lv) (H':Hp),Zq K H Ua H' w l' ls' top' fs'->Goes H2 H' (Bq Ua w (l::l1::ls1)) (Bq Ua w (l'::ls'))->(∀ e o,H2 e=some o->e∉yR w (l::l1::ls1)->H' e=some o)->(l'::ls').getLast (by simp)=(l::l1::ls1).getLast (by simp)->N σ H':=fun l' ls' H' zq gq keep hlast=>by
     have grow:zO H H':=fun y o q=>keep y o (md.grow _ _ q) fun hm=>by rw [(z.new y hm).1] at q;cases q
     have m0:=md.go gq grow (bq_le (fun y hy=>by obtain ⟨o,q⟩:=hb0 y hy;exact ⟨o,grow _ _ q⟩) zq)
     have m2:=md_sub m0 (ρ':=evQ ρ u) (by simp only [Qu,Yd]) (Wm (by simp only [Qu,Yd]) (by rw [zf (by decide)];exact e7) fun i hi=>by
      rw [zf hi.2.2.2.1];exact Ju hi)
     exact hN _ _ ⟨w,l',ls',m2,zq,g6,by rw [hlast];exact gr,g5,g0⟩
    refine pop15 z g6 (fun p' ps' H' hps zq gq keep=>?_) (fun l' ls' H' hls hps zq gq keep=>?_)
    ·unfold popQ at hp
     simp only [hpost,hps,Qk] at hp
     cases hp
     exact fin _ _ H' zq gq keep ((Pn (by simp)).trans (Pn (by simp)).symm)
    ·cases hls
     unfold popQ at hp
     simp only [hpost,hps,QJ] at hp
     cases hp
     exact fin _ _ H' zq gq keep (Pn (by simp)).symm
 ·rw [KU h8]
  refine ifF (ifF ?_)
  exact other fun q=>h8 q.1
end
def mB15 (f c1 c2:Ev->Option D):Ev->Option Out:=fun ρ=>((ρ[0]?.join).bind asL).bind fun ds=>(Jm ds).bind fun cs=>((ρ[3]?.join).bind asI).bind fun deep=>((ρ[4]?.join).bind asI).bind fun KN =>
 if ρ.length=11 then (goQ deep KN ρ f c1 c2 cs [] [] 0).map fun r=>.rt (.tup [.lst r.1,.int r.2]) else none
abbrev tB15 (K:KC) (te tk1 tk2:TE):TS:=Z8 (yQ (ji zW) (ZA 5)) (Z8 (yQ (ji (zD (ji (zD (Zn 5) zW)) zW)) (ZA 6)) (Z8 (yQ (tC (.int 0)) (ZA 7)) (Z8 (tFor (iList K (Zn 0)) (ZA 8) (tCell15 K 11 te tk1 tk2)) (tRet (Wv (zD (Zn 5) (zD (Zn 7) zW)))))))
section
variable {K:KC} {te tk1 tk2:TE} {f c1 c2:Ev->Option D}
theorem sok_b15 {ol:List Nat} (hrow:∀ (P9:Hp) (Ua:Kc->Prop) (σ:St) (H:Hp) (ρ:Ev) (d:D) (Q:VK),Md K P9 Ua [] σ H ρ->f ρ=some d->(∀ v H',zO H H'->FR K H H' Ua d v->Q v H')->te σ H Q)
  (hk1:∀ (P9:Hp) (Ua:Kc->Prop) (σ:St) (H:Hp) (ρ:Ev) (d:D) (Q:VK),Md K P9 Ua [] σ H ρ->c1 ρ=some d->(∀ v H',zO H H'->Rep K H' Ua d v->Q v H')->tk1 σ H Q)
  (hk2:∀ (P9:Hp) (Ua:Kc->Prop) (σ:St) (H:Hp) (ρ:Ev) (d:D) (Q:VK),Md K P9 Ua [] σ H ρ->c2 ρ=some d->(∀ v H',zO H H'->Rep K H' Ua d v->Q v H')->tk2 σ H Q):SOk K false [] [] ol (tB15 K te tk1 tk2) (mB15 f c1 c2):=by
 intro P9 Ua σ H ρ o E mm q k
 obtain ⟨ds,q1,q2⟩:=ze q
 obtain ⟨x0,q3,q4⟩:=ze q1
 obtain ⟨cs,q5,q6⟩:=ze q2
 obtain ⟨deep,q8,q9⟩:=ze q6
 obtain ⟨y3,q10,q11⟩:=ze q8
 obtain ⟨KN,q12,q13⟩:=ze q9
 obtain ⟨y4,q14,q15⟩:=ze q12
 split at q13
 case isFalse=>cases q13
 rename_i hlen
 obtain ⟨res,q7,rfl⟩:=map_some q13
 have e3:y3=.int deep:=by cases y3 <;> simp only [asI] at q11 <;> cases q11;rfl
 have e4:y4=.int KN:=by cases y4 <;> simp only [asI] at q15 <;> cases q15;rfl
 subst e3 e4
 cases x0 <;> simp only [asL] at q4 <;> cases q4
 have eds:=JQ q5
 subst eds
 obtain ⟨v0,h0,r0⟩:=mm.sh 0 _ (Yh q3) (by simp)
 simp only [Rep] at r0
 obtain ⟨p,xs0,rfl,hl0,hr0⟩:=r0
 have e0:=hr0.ints'
 subst e0
 have hσ:σ.length=11:=by rw [mm.len];exact hlen
 have mb:=mm.base
 refine ⟨by show 0<=Kg;decide,fun a ha=>?_⟩
 have s1:zO H (upd H a (.lst [])):=zB ha
 refine ⟨.ref a,zK (by rw [hσ];decide),by show 1<=Kg;decide,fun qa hqa=>⟨by show 1<=Kg;decide,fun w hw=>?_⟩⟩
 have qne:qa≠a:=fun e=>by rw [e,zm] at hqa;cases hqa
 have s2:zO (upd H a (.lst [])) (upd (upd H a (.lst [])) qa (.lst [.ref a])):=zB hqa
 have wq:w≠qa:=fun e=>by rw [e,zm] at hw;cases hw
 have wa:w≠a:=fun e=>by rw [e,zh (Ne.symm qne),zm] at hw;cases hw
 have s3:zO (upd (upd H a (.lst [])) qa (.lst [.ref a])) (upd (upd (upd H a (.lst [])) qa (.lst [.ref a])) w (.lst [.ref qa])):=zB hw
 have hqH:H qa=none:=s1.free hqa
 have hwH:H w=none:=s1.free (s2.free hw)
 have nB:∀ y,H y=none->¬ Ua y:=fun y hy hb=>by obtain ⟨u,qu⟩:=mm.blk y hb;rw [hy] at qu;cases qu
 have a3:upd (upd (upd H a (.lst [])) qa (.lst [.ref a])) w (.lst [.ref qa]) a=some (.lst []):=by rw [zh (Ne.symm wa),zh (Ne.symm qne),zm]
 have q3':upd (upd (upd H a (.lst [])) qa (.lst [.ref a])) w (.lst [.ref qa]) qa=some (.lst [.ref a]):=by rw [zh (Ne.symm wq),zm]
 have w3:upd (upd (upd H a (.lst [])) qa (.lst [.ref a])) w (.lst [.ref qa]) w=some (.lst [.ref qa]):=zm
 have s13:=s1.trans (s2.trans s3)
 generalize upd (upd (upd H a (.lst [])) qa (.lst [.ref a])) w (.lst [V.ref qa])=H3 at *
 have own3:∀ y∈yR w [⟨a,qa,[]⟩],H y=none:=fun y hy=>by
  rcases Zc.mp hy with rfl | ⟨v,hv,h⟩
  ·exact hwH
  ·rw [Qm.mp hv] at h
   rcases h with rfl | rfl | h
   ·exact ha
   ·exact hqH
   ·cases h
 have z0:Zq K H Ua H3 w ⟨a,qa,[]⟩ [] [] []:=by
  refine ⟨w3,⟨[],a3,.nil⟩,fun v hv=>?_,trivial,?_,fun y hy=>⟨own3 y hy,nB y (own3 y hy)⟩⟩
  ·rw [Qm.mp hv];exact ⟨q3',fun p hp=>by cases hp⟩
  ·simp [yR,Lv.own,wa,wq,Ne.symm qne]
 have g13:Goes H H3 Ua (Bq Ua w [⟨a,qa,[]⟩]):=ja (O:=fun _=>False) (fun e o h _=>s13 _ _ h) (fun e z=>z.elim) (fun e xs z=>z.elim) (fun e he=>by
  rcases he with he | he
  ·exact .inl he
  ·exact .inr (own3 e he))
 have m2:Md K H (Bq Ua w [⟨a,qa,[]⟩]) [] (((σ.set 5 (some (.ref a))).set 6 (some (.ref w))).set 7 (some (.int 0))) H3 (evQ ρ 0):=by
  have m:=mb.go g13 s13 (bq_le (fun y hy=>by obtain ⟨u,qu⟩:=mm.blk y hy;exact ⟨u,s13 _ _ qu⟩) z0)
  have m1:=((m.forget (i:=5) (v:=some (.ref a)) (by simp)).forget (i:=6) (v:=some (.ref w)) (by simp)).put (i:=7) (os':=[]) (v:=.int 0) (d:=.int 0) (fun _ z=>nomatch z) (fun _ z=>nomatch z) (by simp [Rep])
  exact md_sub m1 (by simp only [Qu,Yd]) (Wm (by simp only [Qu]) (QR (by simp only [Qu];omega)) fun i hi=>by
   rw [zf hi.2.2.1,zf hi.2.1,zf hi.1])
 have st0:St15 K H Ua ρ p [] [] 0 a (((σ.set 5 (some (.ref a))).set 6 (some (.ref w))).set 7 (some (.int 0))) H3:=by
  refine ⟨w,⟨a,qa,[]⟩,[],m2,z0,?_,rfl,?_,?_⟩
  ·rw [zf (by decide)];exact zK (by simp [hσ])
  ·rw [zf (by decide),zf (by decide)];exact zK (by rw [hσ];decide)
  ·rw [zf (by decide),zf (by decide),zf (by decide)];exact h0
 have e00:∀ u,(evQ ρ u)[0]?=some (some (.lst (cs.map .int))):=fun u=>by
  rw [Ju (by decide)];exact Yh q3
 have cells:∀ {top fs u σ' H'},St15 K H Ua ρ p top fs u a σ' H'->SqL K H' p (cs.map V.int):=fun {top fs u σ' H'} st=>by
  obtain ⟨w',l',ls',md,-,-,-,-,g0⟩:=st.ex
  obtain ⟨v,u1,u2⟩:=md.sh 0 _ (e00 u) (by simp)
  rw [g0] at u1;cases u1
  simp only [Rep] at u2
  obtain ⟨p',xs,ep,hl,hr⟩:=u2
  cases ep
  rw [hr.ints'] at hl
  exact hl.sq
 have h0':((((σ.set 5 (some (V.ref a))).set 6 (some (.ref w))).set 7 (some (.int 0))):St)[0]?=some (some (.ref p)):=by
  rw [zf (by decide),zf (by decide),zf (by decide)];exact h0
 refine ⟨.ref p,h0',p,rfl,⟨_,cells st0⟩,?_⟩
 refine ⟨fun i n σ' H'=>n=cs.length - i/\i<=cs.length/\∃ top fs u,St15 K H Ua ρ p top fs u a σ' H'/\goQ deep KN ρ f c1 c2 (cs.drop i) top fs u=some res,⟨cs.length,by simp,Q5 _,[],[],0,st0,by simpa using q7⟩,?_⟩
 rintro i n σ' H' ⟨rfl,hile,top,fs,u,st,hg⟩
 have hc:=cells st
 by_cases hlt:i<cs.length
 ·right
  rw [Ph hlt] at hg
  simp only [goQ] at hg
  obtain ⟨⟨⟨top',fs'⟩,u'⟩,r3,r4⟩:=ze hg
  refine ⟨⟨_,.int cs[i],hc,by simp [hlt]⟩,fun σ2 H3=>St15 K H Ua ρ p top' fs' u' a σ2 H3,fun σ2 H3 st2=>⟨cs.length - (i+1),by omega,rfl,hlt,top',fs',u',st2,r4⟩,fun x H3 y=>?_⟩
  obtain ⟨rfl,hy⟩:=y
  have hx:=hy _ hc
  rw [QO,QN hlt] at hx
  cases hx
  obtain ⟨w',l',ls',md,zp,g6,gl,g5,g0⟩:=st.ex
  have md2:=md.put (i:=8) (os':=[]) (v:=.int cs[i]) (d:=.int cs[i]) (fun _ z=>nomatch z) (fun _ z=>nomatch z) (by simp [Rep])
  exact cell15 (E:={ nx:=fun _ _=>True,rt:=E.rt,bk:=tRet (Wv (zD (Zn 5) (zD (Zn 7) zW))) E,ct:=fun _ _=>True }) hrow hk1 hk2 hlen (by decide) mm.blk (Yh q10) (Yh q14) md2 zp (by rw [zf (by decide)];exact g6) gl (by rw [zf (by decide)];exact g5) (by rw [zf (by decide)];exact g0) r3 fun σ2 H4 h=>h
 ·left
  have hi:i=cs.length:=by omega
  subst hi
  rw [Pf] at hg
  cases hg
  refine ⟨⟨_,hc,by simp⟩,?_⟩
  obtain ⟨w',l',ls',md,zp,g6,gl,g5,g0⟩:=st.ex
  have s7:σ'[7]?=some (some (.int u)):=by
   obtain ⟨v,h1,h2⟩:=md.sh 7 (.int u) (by unfold evQ;rw [QR (by simp only [Qu];omega)]) (by simp)
   simp only [Rep] at h2
   rw [h2] at h1;exact h1
  refine ⟨.ref a,g5,.int u,s7,by show 2<=Kg;decide,fun t ht=>?_⟩
  have st':zO H' (upd H' t (.tup [.ref a,.int u])):=zB ht
  have hr:=zp.root
  rw [gl] at hr
  refine k _ _ ((mm.grow.trans md.grow).trans st') (fun y hy=>by obtain ⟨o,q⟩:=md.blk y (.inl hy);exact ⟨o,st' _ _ q⟩) ?_
  simp only [Rep]
  exact ⟨t,_,rfl,.inl (.inl zm),.cons (hr.up st') (.cons (by simp [Rep]) .nil)⟩
end
theorem sss_b15 {X:Cx} {ol:List Nat} {s1 s2 s3 s5:Kx} {a Zg:List Kx} {tg it t9 t10 t11 c8:Kv} {p9 p10 p11 pi pf:KB} {te tk1 tk2:TE} {f c1 c2:Ev->Option D} {er e1 e2:Kv} (hr:SR X true [] er te f) (h1:SE X true [] e1 tk1 c1) (h2:SE X true [] e2 tk2 c2)
  (hp:PE X er te->PE X e1 tk1->PE X e2 tk2->PSs X [s1,s2,s3,.For tg it [.If c8 a (.Assign [t9] er p9::.Assign [t10] e1 p10::.Assign [t11] e2 p11::Zg) pi] [] pf,s5] (tB15 X.K te tk1 tk2)) :
  SSs X false [] [] ol [s1,s2,s3,.For tg it [.If c8 a (.Assign [t9] er p9::.Assign [t10] e1 p10::.Assign [t11] e2 p11::Zg) pi] [] pf,s5] (tB15 X.K te tk1 tk2) (mB15 f c1 c2):=by
 have e:∀ (Ua:Kc->Prop) (σ:St),BB true Ua [] σ=Ua:=fun Ua σ=>y7
 exact ⟨hp hr.pe h1.pe h2.pe,sok_b15 (fun P9 Ua σ H ρ d Q md hf k=>hr.ok P9 Ua σ H ρ d Q md hf fun v H' s fr=>k v H' s (by rw [e] at fr;exact fr)) (fun P9 Ua σ H ρ d Q md hf k=>h1.ok P9 Ua σ H ρ d Q md hf fun v H' s fr=>k v H' s (by rw [e] at fr;exact fr)) (fun P9 Ua σ H ρ d Q md hf k=>h2.ok P9 Ua σ H ρ d Q md hf fun v H' s fr=>k v H' s (by rw [e] at fr;exact fr))⟩
structure Kd where
 hd:KC->Hp->(Kc->Prop)->(Kc->Prop)->Kc->List D->Prop
 mtb:∀ {K:KC} {H:Hp} {B P:Kc->Prop} {h:Kc} {S:List D},hd K H B P h S->∀ b,P b->∃ o,H b=some o/\Mut (some o)
 goes:∀ {K:KC} {H H':Hp} {B B' P:Kc->Prop} {h:Kc} {S:List D},hd K H B P h S->Goes H H' B B'->(∀ b o,P b->H b=some o->H' b=some o)->hd K H' B' P h S
section
variable {K:KC} {κ:Kd} {P9 H H':Hp} {Ua P:Kc->Prop} {os:List Nat} {σ:St} {ρ:Ev} {h:Kc} {i:Nat} {S S':List D}
theorem jb {B B' P:Kc->Prop} (h1:∀ e o,H e=some o->¬ P e->H' e=some o) (hm:∀ e o,P e->H e=some o->Mut (some o)) (hP:∀ e,P e->B e) (hB:∀ e,B' e->B e\/H e=none):Goes H H' B B':=by
 have nm:∀ e o,H e=some o->¬ Mut (some o)->H' e=some o:=fun e o q n=>h1 _ _ q fun z=>n (hm _ _ z q)
 have nb:∀ e o,H e=some o->¬ B e->H' e=some o/\¬ B' e:=fun e o q n=>⟨h1 _ _ q fun z=>n (hP _ z),fun z=>(hB e z).elim n fun z=>by rw [q] at z;cases z⟩
 refine ⟨fun a xs q=>?_,fun a xs q n=>?_,fun a KO q n=>nb _ _ q n,fun a o u q=>nm _ _ q fun z=>z,fun a xs q=>nm _ _ q fun z=>z⟩
 ·rcases q with q | ⟨o,q⟩
  ·exact .inl (nm _ _ q fun z=>z)
  ·exact .inr ⟨o,nm _ _ q fun z=>z⟩
 ·rcases q with q | ⟨o,q⟩
  ·exact ⟨.inl (nb _ _ q n).1,(nb _ _ q n).2⟩
  ·exact ⟨.inr ⟨o,(nb _ _ q n).1⟩,(nb _ _ q n).2⟩
structure Wd (K:KC) (κ:Kd) (P9:Hp) (Ua P:Kc->Prop) (os:List Nat) (i:Nat) (h:Kc) (S:List D) (σ:St) (H:Hp) (ρ:Ev):Prop where
 md:Md K P9 Ua os σ H ρ
 blk:∀ b,P b->Ua b
 new:∀ b,P b->P9 b=none
 at_:κ.hd K H (Bl Ua os σ) P h S
 slot:ρ[i]?=some (some (.adr h))
 off:i∉os
theorem Wd.ref (w:Wd K κ P9 Ua P os i h S σ H ρ):σ[i]?=some (some (.ref h)):=by
 obtain ⟨v,h1,h2⟩:=w.md.sh i _ w.slot w.off
 simp only [Rep] at h2
 rw [h2] at h1;exact h1
theorem Wd.goes (w:Wd K κ P9 Ua P os i h S σ H ρ) (hk:∀ b o,H b=some o->¬ P b->H' b=some o):Goes H H' (Bl Ua os σ) (Bl Ua os σ) :=
 jb hk (fun e o z q=>by obtain ⟨o',q',n⟩:=κ.mtb w.at_ e z;rw [q] at q';cases q';exact n) (fun e z=>.inl (w.blk e z)) fun e z=>.inl z
def WEnd (K:KC) (κ:Kd) (P9:Hp) (Ua P:Kc->Prop) (os' ol:List Nat) (i:Nat) (h:Kc) (E:Ends):Out->List D->Prop
 | .nx ρ',S'=>∀ σ' H',Wd K κ P9 Ua P os' i h S' σ' H' ρ'->E.nx σ' H'
 | .rt d,S'=>∀ v H',zO P9 H'->κ.hd K H' Ua P h S'->(∀ b,Ua b->∃ o,H' b=some o)->Rep K H' Ua d v->E.rt v H'
 | .bk ρ',S'=>∀ σ' H',Wd K κ P9 Ua P ol i h S' σ' H' ρ'->E.bk σ' H'
 | .ct ρ',S'=>∀ σ' H',Wd K κ P9 Ua P ol i h S' σ' H' ρ'->E.ct σ' H'
def WOk (K:KC) (κ:Kd) (os os' ol:List Nat) (i:Nat) (t:TS) (M:Ev->List D->Option (Out×List D)):Prop :=
 ∀ (P9:Hp) (Ua P:Kc->Prop) (h:Kc) (σ:St) (H:Hp) (ρ:Ev) (S:List D) (o:Out) (S':List D) (E:Ends),Wd K κ P9 Ua P os i h S σ H ρ->M ρ S=some (o,S')->WEnd K κ P9 Ua P os' ol i h E o S'->t E σ H
open Classical in
def bare (os:List Nat) (σ:St) (H:Hp):Hp:=fun b=>if ∃ j,j∈os/\σ[j]?=some (some (.ref b)) then none else H b
end
abbrev WF:=Ev->List D->Option (D×List D)
abbrev WM:=Ev->List D->Option (Out×List D)
section
variable {K:KC} {κ:Kd} {os os1 os' ol:List Nat} {i:Nat} {t u:TS} {M1 M2:WM} {P9 H H':Hp} {Ua P:Kc->Prop} {σ:St} {ρ:Ev} {h:Kc} {S S':List D}
abbrev WL:=Ev->List D->Option (List D×List D)
def spW (K:KC) (κ:Kd) (i0:Nat) (m:List D->List D->Option (D×List D)):Sp:=fun vs H Q _=>∃ (B P:Kc->Prop) (ds:List D) (d:D) (S S':List D) (h:Kc),(∀ a,B a->∃ o,H a=some o)/\(∀ b,P b->B b)/\κ.hd K H B P h S/\zr K H B ds vs/\ds[i0]?=some (.adr h)/\m ds S=some (d,S') /\
 ∀ v H',(∀ b o,H b=some o->¬ P b->H' b=some o)->κ.hd K H' B P h S'->Rep K H' B d v->Q v H'
end
section
variable {K:KC} {κ:Kd} {P9 H H':Hp} {Ua P:Kc->Prop} {os os':List Nat} {σ σ':St} {ρ ρ':Ev} {h:Kc} {i:Nat} {S S':List D}
open Classical in
def bareH (os:List Nat) (σ:St) (P:Kc->Prop) (H:Hp):Hp:=fun b=>if P b then none else bare os σ H b
end
section
variable {K:KC} {κ:Kd} {os ol:List Nat} {i:Nat}
end
section
variable {K:KC} {κ:Kd} {os:List Nat} {i:Nat}
end
structure WSs (X:Cx) (κ:Kd) (os os' ol:List Nat) (i:Nat) (st:List Kx) (t:TS) (M:WM):Prop where
 ps:PSs X st t
 ok:WOk X.K κ os os' ol i t M
section
variable {X:Cx} {κ:Kd} {st fr:Bool} {os os1 os' ol:List Nat} {i:Nat} {e a b:Kv} {es:List Kv} {t u:TS} {ta tb te:TE} {tl:TA} {F F':WF} {G:WL} {M1 M2:WM} {x:Kw} {p pos:KB}
end
section
variable {X:Cx} {κ:Kd} {os os' ol:List Nat} {i:Nat} {pos:KB} {scope:Scope} {own N':List Kw} {k:Nat} {elt target iter:Kv} {wi:TI} {g:TG} {te:TE} {fi:Ev->Option (List D)} {u:D->Ev->Option Ev} {F:WF}
end
section
variable {P:Ki} {w:Kk} {K:KC} {κ:Kd} {mg:Kw->Option Ka} {base:Kl}
def wDef (k n:Nat) (M:WM):List D->List D->Option (D×List D):=fun ds S=>if ds.length=k then (M (Zd n ds) S).bind fun r=>(outD r.1).map fun d=>(d,r.2) else none
end
open Classical in
def mLend (j:Nat) (M:WM):Ev->Option Out:=fun ρ=>(ρ[j]?.join).bind fun x=>(asL x).bind fun S =>
 if h:∃ r:Ev×List D,∀ a,M (ρ.set j (some (.adr a))) S=some (.nx (r.1.set j (some (.adr a))),r.2) then some (.nx (h.choose.1.set j (some (.lst h.choose.2)))) else none
section
variable {K:KC} {fr:Bool} {os os1 ol ol1:List Nat} {j:Nat}
end
section
variable {K:KC} {C:Kc} {os os' ol:List Nat} {i:Nat} {st:Bool}
end
section
variable {X:Cx} {C:Kc} {os os' ol:List Nat} {i:Nat} {st:Bool} {x:Kw} {p pos:KB}
variable {k:Nat} {fn:Kc} {fd:Kh} {ps:List Kw} {mf:List D->List D->Option (D×List D)} {mn:Kw}
end
def gc (s:Kx) (j:Nat):Kx:=match s with
 | .ClassDef _ _ _ body _ _ _ _ _ _ _=>body.getD j (.Pass ⟨0,0,0,0⟩)
 | _=>.Pass ⟨0,0,0,0⟩
open Classical in
def mLaid (mp:List D->Option D) (f:Ev->Option D) (M2:WM):Ev->Option Out:=fun ρ=>(f ρ).bind fun b=>(mp [b]).bind fun l =>
 if h:∃ r:Int×List D,∀ a,∃ ρ',M2 (ρ.set 1 (some (.adr a))) [.int 1,b,l]=some (.nx ρ',r.2)/\ρ'[2]?=some (some (.int r.1)) then
  match h.choose.2 with
  | .int c::_::_::st=>some (.rt (.tup [.int c,.lst st,.int h.choose.1]))
  | _=>none
 else none
section
variable {P:Ki} {w:Kk} {K:KC} {mg:Kw->Option Ka} {base:Kl} {C:Kc}
end
def mXL (i:Nat) (mf:List D->Option D) (fl:Ev->Option (List D)) (m:Ev->Option Out):Ev->Option Out:=fun ρ=>(fl ρ).bind fun ds=>(mf ds).bind fun d=>if i<ρ.length then m (ρ.set i (some d)) else none
section
variable {X:Cx} {fr:Bool} {i:Nat} {os' ol:List Nat} {Zg:List Kx} {t:TS} {m:Ev->Option Out} {pos:KB}
end
section
variable {K:KC} {κ:Kd} {os os1 os' ol:List Nat} {i:Nat} {t u:TS} {P9 H H':Hp} {Ua P:Kc->Prop} {σ:St} {ρ:Ev} {h:Kc} {S S':List D}
end
section
variable {K:KC} {κ:Kd} {os:List Nat} {i:Nat} {st:Bool}
end
section
variable {X:Cx} {κ:Kd} {st:Bool} {os os' ol:List Nat} {i:Nat} {e a b:Kv} {ta tb te:TE} {F G:WF} {x:Kw} {p pos:KB}
end
section
variable {X:Cx} {κ:Kd} {os os' ol:List Nat} {i:Nat} {pos:KB} {scope:Scope} {own N':List Kw} {k:Nat} {elt target iter:Kv} {wi:TI} {g:TG} {te:TE} {fi:Ev->Option (List D)} {u:D->Ev->Option Ev} {F:WF}
end
section
variable {i j:Nat} {f:Ev->Option D}
end
section
variable {K:KC} {fr:Bool} {os os' os1 os2 ol ol1:List Nat} {j:Nat}
end
section
variable {X:Cx} {st:Bool} {os:List Nat} {e:Kv} {es:List Kv} {tl:TA} {fl:Ev->Option (List D)} {x:Kw} {p pos:KB}
end
open Classical in
def hideF (mf:Kc->List D->Option D):List D->Option D:=fun ds=>if h:∃ d,∀ f,mf f (ds++[.adr f])=some d then some h.choose else none
def WA:List D->Option (List Kw)
 | []=>some []
 | .str x::r=>(WA r).map (x::·)
 | _::_=>none
theorem of_strsD {K:KC} {H:Hp} {B:Kc->Prop}:∀ {ds:List D} {xs:List Kw} {vs:List V},WA ds=some xs->zr K H B ds vs->vs=xs.map V.str
 | [],xs,vs,e,r=>by cases e;simp only [zr] at r;exact r
 | .str x::ds,xs,vs,e,r=>by
  obtain ⟨ys,e1,rfl⟩:=map_some e
  simp only [zr] at r
  obtain ⟨v,t,rfl,h1,h2⟩:=r
  simp only [Rep] at h1
  rw [h1,of_strsD e1 h2];rfl
 | .non::_,_,_,e,_ | .bl _::_,_,_,e,_ | .int _::_,_,_,e,_ | .tup _::_,_,_,e,_ | .lst _::_,_,_,e,_ | .dict _ _::_,_,_,e,_ | .scr _::_,_,_,e,_ | .adr _::_,_,_,e,_ | .kset _::_,_,_,e,_ | .tk _::_,_,_,e,_ | .pin _ _::_,_,_,e,_=>by simp [WA] at e
end M
namespace L2
open PySem PySem.Spec PyProof.Rows
section
variable {prog:Ki} {w:Kk} {A:Kj} {E:Ka->Kb->Prop} {s:Kb}
variable {z TI TO i1 i2 l1 l2:Kc} {j1 j2:Bool} {k1 k2:Nat} {xs ys:Array Ka} {x y a b:Ka}
end
section
variable {prog:Ki} {w:Kk} {A:Kj} {E:Ka->Kb->Prop} {s:Kb}
variable {z TI TO i1 i2 l1 l2:Kc} {j1 j2:Bool} {xs ys:Array Ka}
end
end L2
namespace L2
open PySem PySem.Spec PyProof.Rows
section
variable {X:Cx} {a b:Kv} {ta:TA} {p p2 pos pos2:KB}
end
end L2
namespace L2
open PySem PySem.Spec PyProof.Rows
section
variable {X:Cx}
end
end L2
namespace M
open PySem PySem.Spec L2
open PySem.W (Frag)
section
variable {X:Cx} {os:List Nat} {a b:Kv} {ta tb:TE} {ca cb:Ev->Option (List D)} {p p2 pos pos2:KB} {k:Nat}
end
def tNever:TS:=fun _ _ _=>False
def mNever:Ev->Option Out:=fun _=>none
theorem ss_never {X:Cx} {fr:Bool} {os os' ol:List Nat} {st:Kx}:SS X fr os os' ol st tNever mNever :=
 ⟨fun _ _ _ _ _ _ h=>h.elim,fun _ _ _ _ _ _ _ _ q _=>by cases q⟩
section
variable {X:Cx} {st:Bool} {os:List Nat} {a b:Kv} {ta tb:TE} {fa fb:Ev->Option D} {pos:KB}
end
end M
namespace L2
open PySem PySem.Spec PyProof.Rows
section
variable {prog:Ki} {w:Kk} {A:Kj} {E:Ka->Kb->Prop} {s:Kb}
variable {z TI TO i1 i2 i3 l1 l2 l3:Kc} {j:Bool} {k:Nat} {xs ys zs:Array Ka} {x y u a b c:Ka}
end
section
variable {prog:Ki} {w:Kk} {A:Kj} {E:Ka->Kb->Prop} {s:Kb}
end
end L2
namespace L2
open PySem PySem.Spec PyProof.Rows
section
variable {prog:Ki} {w:Kk} {A:Kj} {E:Ka->Kb->Prop} {s:Kb} {z TI TO i1 i2 i3 l1 l2 l3:Kc} {j:Bool} {k:Nat} {xs ys zs:Array Ka} {x y u a b c:Ka}
end
section
variable {X:Cx}
end
end L2
namespace M
open PySem PySem.Spec L2
open PySem.W (Frag)
section
variable {X:Cx} {s j:Bool} {os:List Nat} {a b c:Kv} {ta tb tc:TE} {ca cb cc:Ev->Option (List D)} {pos p:KB}
end
section
variable {X:Cx} {st:Bool} {os:List Nat} {o e:Kv} {to te:TE} {fo fe:Ev->Option D} {apos cpos:KB}
end
theorem sqT {X:Cx} {os:List Nat} {e:Kv} {t:TE} {f:Ev->Option D} (h:SE X true os e t f):SC X true os e t (zk true f):=h.seq
theorem sqF {X:Cx} {os:List Nat} {e:Kv} {t:TE} {f:Ev->Option D} (h:SE X true os e t f):SC X false os e t (zk false f):=h.seq
theorem fsc {N P:List Kw} {sc:Scope} (h1:sc.kind=.function:=by rfl) (h2:sc.isCoroutine=false:=by rfl) (h3:sc.isGenerator=false:=by rfl) (h4:N.Nodup:=by decide +kernel) (h5:N.take P.length=P:=by rfl) (h6:∀ x∈P,sc.names.lookup x=some .local\/sc.names.lookup x=some .cell:=by decide +kernel) (h7:∀ y∈sc.names,y.2≠.free:=by decide +kernel):FnScope N P sc:=⟨h1,h2,h3,h4,h5,h6,h7⟩
end M
namespace L2
open PySem PySem.Spec
open PySem.W (Frag)
theorem Fun.one {K:KC} {x qual y:Kw} {st:Kx} {f:Kc} {fd:Kh} (F:Fun K x qual st f fd)
  (h:∀ (kV doc pm:Ka) (an:Option Kc) (cdv ct u:Ka),bindArgs (fnOf x qual (Ye st) (ZJ st) (zT st) .none kV doc pm an cdv ct) ⟨[u],[]⟩=pure [(y,u)]:=by exact fun _ _ _ _ _ _ _=>rfl) (s:Kb) (v:Ka):BindsTo s fd ⟨[v],[]⟩ [(y,v)]:=by
 obtain ⟨oc,od,kV,doc,pm,an,cdv,ct,osl,rfl,lk,hcd⟩:=F.ex
 exact .of_eq (h _ _ _ _ _ _ _)
end L2
namespace M
open PySem PySem.Spec L2
open PySem.W (Frag)
def ownT:Kv->List Kw
 | .Name x _=>[x]
 | .Tuple es _ _=>es.filterMap fun e=>match e with | .Name x _=>some x | _=>none
 | _=>[]
def ndB:List Kw->Bool
 | []=>true
 | x::xs=>!xs.contains x&&ndB xs
theorem nd_of:∀ {N:List Kw},ndB N=true->N.Nodup
 | [],_=>List.nodup_nil
 | x::xs,h=>by
  simp only [ndB,QC,Pp] at h
  have q:x∉xs:=fun z=>by
   have:=h.1
   rw [List.contains_iff_mem.mpr z] at this
   exact nomatch this
  exact Qy.mpr (And.intro q (nd_of h.2))
section
variable {X:Cx} {fr:Bool} {os os' ol:List Nat} {pos:KB} {s:Bool} {scope:Scope} {k:Nat} {elt target iter:Kv} {ifs:List Kv} {wi:TI} {g:TG} {tc:TT} {te:TE} {fi:Ev->Option (List D)} {u:D->Ev->Option Ev} {cf:Ev->Option Bool} {e:Ev->Option D}
theorem ZV {i:Nat} {x:Kw} (hN:ndB X.N=true:=by kernel_rfl) (hi:X.N[i]?=some x:=by rfl) (hx:Loc X.env.scope x:=by first | exact Or.inl rfl | exact Or.inr rfl) (ho:i∉os:=by decide) (hf:X.fn x=true\/X.env.scope.names.lookup x=some .local:=by first | exact .inl rfl | exact .inr rfl | assumption) :
  SG X os (.Name x pos) (ZA i) (zI i):=sg_name (nd_of hN) hi hx ho hf
abbrev cxT (X:Cx) (scope:Scope) (target:Kv) (s₂:Kb) (H₂:Hp) (fp:List Kc) (C:Kc):Cx:=Zu X scope (ownT target) (X.N++ownT target) s₂ H₂ fp C
theorem Yn (hi:SI X false os target iter wi fi) (hg:∀ s₂ H₂ fp C,SG (cxT X scope target s₂ H₂ fp C) os target g u) (ht:∀ s₂ H₂ fp C,SPF (cxT X scope target s₂ H₂ fp C) os ifs tc cf) (he:∀ s₂ H₂ fp C,SE (cxT X scope target s₂ H₂ fp C) true os elt te e)
  (c:CompOk X scope (ownT target) (X.N++ownT target) k:=by exact ww (by kernel_rfl)) (hc:X.calm=true:=by rfl) (hs:∀ x,foldedSetIterable iter X.env x=pure x:=by intro _;rfl):SF X os (.ListComp elt [⟨target,iter,ifs,0⟩] scope pos) (wy k wi g tc te) (Zs k fi u cf e):=sf_comp c hc hi hg ht he hs
theorem ss_sT {i:Nat} {x:Kw} {pos' spos:KB} (hN:X.N.Nodup) (hi:SI X false os target iter wi fi:=by left) (hg:∀ s₂ H₂ fp C,SG (cxT X scope target s₂ H₂ fp C) os target g u:=by left) (ht:∀ s₂ H₂ fp C,SPF (cxT X scope target s₂ H₂ fp C) os ifs tc cf:=by left) (he:∀ s₂ H₂ fp C,SE (cxT X scope target s₂ H₂ fp C) true os elt te e:=by left)
  (c:CompOk X scope (ownT target) (X.N++ownT target) k:=by exact ww (by kernel_rfl)) (hix:X.N[i]?=some x:=by rfl) (hx:X.env.scope.names.lookup x=some .local:=by rfl) (hc:X.calm=true:=by rfl) (hsw:Kt (.ListComp elt [⟨target,iter,ifs,0⟩] scope pos) (some (.Name x pos')) spos.line X.env=pure true:=by rfl)
  (h1:∀ j∈os',j∈os/\j≠i:=by decide) (h2:∀ j∈os,j∈os'\/j=i:=by decide) (hs:∀ x,foldedSetIterable iter X.env x=pure x:=by intro _;rfl) :
  SS X fr os os' ol (.Assign [.Name x pos'] (.ListComp elt [⟨target,iter,ifs,0⟩] scope pos) spos) (yQ (wy k wi g tc te) (ZA i)) (Zj i (Zs k fi u cf e)):=WB hN hix hx c hc hi hg ht he hsw h1 h2 hs
end
def Kn (P:Ki) (w:Kk) (K:KC) (mg:Kw->Option Ka) (base:Kl) (x:Kw) (k:Nat) (ps:List Kw) (sp:Sp):Prop :=
 ∃ f fd,FnOk P w K mg base CX0 k f fd ps sp/\mg x=some (.ref f)/\keepIn K (.ref f)=true/\YQ K fd ps []
def KnM (P:Ki) (w:Kk) (K:KC) (mg:Kw->Option Ka) (base:Kl) (C:Kc) (x:Kw) (k:Nat) (ps:List Kw) (sp:Sp):Prop :=
 ∃ f fd,FnOk P w K mg base CX0 k f fd ps sp/\Meth K C x f/\YQ K fd ps []
def Df (K:KC) (mg:Kw->Option Ka) (x:Kw) (st:Kx):Prop:=∃ f fd,Fun K x x st f fd/\mg x=some (.ref f)
def DfM (K:KC) (C:Kc) (x q:Kw) (st:Kx):Prop:=∃ f fd,Fun K x q st f fd/\Meth K C x f
def DfI (K:KC) (C:Kc) (q:Kw) (st:Kx):Prop:=∃ f fd,Fun K "__init__" q st f fd/\Mk K C f
def BD (x q:Kw) (st:Kx) (ps:List Kw):Prop:=∀ (kV doc pm:Ka) (an:Option Kc) (cdv ct:Ka) (us:List Ka),us.length=ps.length->bindArgs (fnOf x q (Ye st) (ZJ st) (zT st) .none kV doc pm an cdv ct) ⟨us,[]⟩=pure (ps.zip us)
abbrev BoX (P:Ki) (w:Kk) (K:KC) (mg:Kw->Option Ka) (base:Kl) (N:List Kw) (q:Kw) (st:Kx) (k:Nat) (R:Cx->Prop):Prop :=
 ∀ (f:Kc) (cdv:Ka) (A:Kj) (outer:List Env) (s:Kb) (H:Hp) (E:XK),Room k (A.deeper (PyProof.Rows.envOfC q (zT st) s.heap.objs.size f cdv))->R (cxOf CX0 P w K mg base N q (zT st) f cdv A outer s H E).nox
def KnI (P:Ki) (w:Kk) (K:KC) (mg:Kw->Option Ka) (base:Kl) (C:Kc) (k:Nat) (ps:List Kw) (sp:Sp):Prop :=
 ∃ f fd,FnOk P w K mg base CX0 k f fd ps sp/\Mk K C f/\YQ K fd ps []
theorem bd1 {x q:Kw} {st:Kx} {ps:List Kw} (h:BD x q st ps:=by exact fun _ _ _ _ _ _ us hl=>by first | exact (match us,hl with | [_],_=>rfl) | exact (match us,hl with | [_,_],_=>rfl) | exact (match us,hl with | [_,_,_],_=>rfl) | exact (match us,hl with | [_,_,_,_],_=>rfl) | exact (match us,hl with | [_,_,_,_,_],_=>rfl) | exact (match us,hl with | [_,_,_,_,_,_],_=>rfl) | exact (match us,hl with | [],_=>rfl)):BD x q st ps:=h
section
variable (P:Ki) (w:Kk) {K:KC} {mg:Kw->Option Ka} (base:Kl) {x q:Kw} {st:Kx} {κ:Kd} {C:Kc} {f:Kc} {fd:Kh}
theorem fn_kX (k:Nat) (N ps:List Kw) (m:Ev->Option Out) (F:Fun K x x st f fd) (nd:N.Nodup) (h:N.Nodup->BoX P w K mg base N x st k fun X=>∃ t os',SSs X false [] os' [] (ZJ st) t m) (S:N.Nodup->FnScope N ps (zT st):=by exact fun nd=>⟨rfl,rfl,rfl,nd,rfl,by decide +kernel,by decide +kernel⟩):FnOk P w K mg base CX0 (k+1) f fd ps (spM K (ZE ps.length N.length m)):=fn_ok F (S nd) (h nd f)
theorem y0 (k:Nat) (N ps:List Kw) (m:Ev->Option Out) (F:Df K mg x st) (nd:N.Nodup) (h:N.Nodup->BoX P w K mg base N x st k fun X=>∃ t os',SSs X false [] os' [] (ZJ st) t m) (S:N.Nodup->FnScope N ps (zT st):=by exact fun nd=>⟨rfl,rfl,rfl,nd,rfl,by decide +kernel,by decide +kernel⟩) (b:BD x x st ps:=by exact bd1):Kn P w K mg base x (k+1) ps (spM K (ZE ps.length N.length m)):=by
 obtain ⟨f,fd,F,hm⟩:=F
 exact ⟨f,fd,fn_ok F (S nd) (h nd f),hm,F.kp,F.binds b⟩
theorem fn_kF (k:Nat) (N ps:List Kw) (m:Ev->Option Out) (F:Df K mg x st) (nd:N.Nodup) (h:N.Nodup->BoX P w K mg base N x st k fun X=>∃ t os',SSs X true [] os' [] (ZJ st) t m) (S:N.Nodup->FnScope N ps (zT st):=by exact fun nd=>⟨rfl,rfl,rfl,nd,rfl,by decide +kernel,by decide +kernel⟩) (b:BD x x st ps:=by exact bd1):Kn P w K mg base x (k+1) ps (spF K (ZE ps.length N.length m)):=by
 obtain ⟨f,fd,F,hm⟩:=F
 exact ⟨f,fd,fn_okF F (S nd) (h nd f),hm,F.kp,F.binds b⟩
end
section
variable {P:Ki} {w:Kk} {K:KC} {mg:Kw->Option Ka} {base:Kl} {x q:Kw} {st:Kx} {N ps:List Kw} {k i0:Nat} {κ:Kd} {C:Kc}
theorem Kn.no (F:Df K mg x st) (b:BD x x st ps:=by exact bd1):Kn P w K mg base x k ps (spM K fun _=>none):=by
 obtain ⟨f,fd,F,hm⟩:=F
 exact ⟨f,fd,FnOk.no,hm,F.kp,F.binds b⟩
theorem ZP {h:Kl} {f:Kc} {oc:Ka} {od an:Option Kc} {osl:Array (Option Ka)} {kV doc pm cdv ct:Ka} (X:K.In h) (G:h.Ns Kf mg) (a:nsIn K Kf x=some (some (.ref f)))
  (l:K.lookup f=some ⟨oc,od,.func (fnOf x x (Ye st) (ZJ st) (zT st) .none kV doc pm an cdv ct),osl⟩) (c:codeIn K cdv x=true) (k:keepIn K (.ref f)=true):Df K mg x st:=⟨f,_,fun_mk l c k,PySem.W.mg_of X G a⟩
theorem wo {f:Kc} {oc:Ka} {od an:Option Kc} {osl:Array (Option Ka)} {kV doc pm cdv ct:Ka} (a:KD K (.ref C) x=some (some (.ref f)))
  (l:K.lookup f=some ⟨oc,od,.func (fnOf x q (Ye st) (ZJ st) (zT st) .none kV doc pm an cdv ct),osl⟩) (c:codeIn K cdv q=true) (k:keepIn K (.ref f)=true) (i:PySem.W.isFn K (.ref f)=true):DfM K C x q st:=⟨f,_,fun_mk l c k,a,i,k⟩
theorem df_mkI {f:Kc} {oc:Ka} {od an:Option Kc} {osl:Array (Option Ka)} {kV doc pm cdv ct:Ka} (a:KD K (.ref C) "__init__"=some (some (.ref f)))
  (l:K.lookup f=some ⟨oc,od,.func (fnOf "__init__" q (Ye st) (ZJ st) (zT st) .none kV doc pm an cdv ct),osl⟩) (c:codeIn K cdv q=true) (k:keepIn K (.ref f)=true) (mk:PySem.W.makesIn K C=true) (i:PySem.W.isFn K (.ref f)=true) (kc:keepIn K (.ref C)=true):DfI K C q st:=⟨f,_,fun_mk l c k,mk,a,i,kc⟩
end
section
variable {X:Cx} {st:Bool} {os:List Nat} {e:Kv} {es:List Kv} {tl:TA} {fl:Ev->Option (List D)} {pos p:KB} {x:Kw} {k:Nat} {ps:List Kw} {m:List D->Option D}
theorem zN (G:Kn X.prog X.w X.K X.mg X.base x k ps (spM X.K m)) (hr:Room k X.A) (ha:SA X st os (e::es) tl fl) (hg:Gl X x:=by rfl) (hdb:(x == ("__debug__":Kw))=false:=by decide) (he:Ke (e::es) X.env=(false,Kz e X.env)::Ke es X.env:=by rfl) (hpl:(Kq pos (Ke es X.env)).any (·.1)=false:=by rfl) {K':KC} (hK:X.K=K':=by rfl) :
  SE X st os (.Call (.Name x p) (e::es) [] pos) (wz (spM K' m) [] E0 tl) (fA m fl):=by
 obtain ⟨f,fd,F,hm,hk,hb⟩:=G
 exact se_call F hr hg hm hk hb ha hdb he hpl hK
theorem sr_kn (G:Kn X.prog X.w X.K X.mg X.base x k ps (spF X.K m)) (hr:Room k X.A) (ha:SA X st os (e::es) tl fl:=by left) (hg:Gl X x:=by rfl) (hdb:(x == ("__debug__":Kw))=false:=by decide) (he:Ke (e::es) X.env=(false,Kz e X.env)::Ke es X.env:=by rfl) (hpl:(Kq pos (Ke es X.env)).any (·.1)=false:=by rfl) :
  SR X st os (.Call (.Name x p) (e::es) [] pos) (wz (spF X.K m) [] E0 tl) (fA m fl):=by
 obtain ⟨f,fd,F,hm,hk,hb⟩:=G
 exact sr_call F hr hg hm hk hb ha hdb he hpl
theorem Jr {i:Int} (hm:∃ tk,X.mg x=some (.int i tk)) (hg:Gl X x:=by rfl) (hd:(x == ("__debug__":Kw))=false:=by decide):SE X st os (.Name x pos) (tC (.int i)) (fC (.int i)):=by
 obtain ⟨tk,hm⟩:=hm
 exact se_globI hg hm hd
theorem pe_kn {sp:Sp} {t:TA} (G:Kn X.prog X.w X.K X.mg X.base x k ps sp) (hr:Room k X.A) (hg:Gl X x) (ha:PA X (e::es) t) (hdb:(x == ("__debug__":Kw))=false:=by decide) (he:Ke (e::es) X.env=(false,Kz e X.env)::Ke es X.env:=by rfl) (hpl:(Kq pos (Ke es X.env)).any (·.1)=false:=by rfl) :
  PE X (.Call (.Name x p) (e::es) [] pos) (wz sp [] E0 t):=by
 obtain ⟨f,fd,F,hm,hk,hb⟩:=G
 exact Wk F hr hg hm hk hb .nil WU ha hdb he hpl
end
theorem gl_mk {mg:Kw->Option Ka} {x:Kw} {i:Int} {tk:Tok} (h:mg x=some (.int i tk)):∃ tk,mg x=some (.int i tk):=⟨tk,h⟩
theorem tx_mk {p:Kc->(Nat->Kc)->Prop} {C a:Kc} (h:p C fun _=>a):∃ C Z,p C Z:=⟨C,_,h⟩
theorem walk_kn {l:PySem.W.OpenLaw} {k:Nat} {q:Ki} {loose:List Kw} {XP:(Kw->Option Ka)->Kl->Prop} {YP:Kk->Kl->Prop} {d:DefRec} {K:Params->KC} {x:Kw} {m:List D->Option D} {st:Kx} (hn:l.most=some 63) (hdf:d.params.defaults=[]) (himp:PyProof.Rows.importsNone q=true) (htree:l.prog.given.tree=none)
  (hY:∀ (w:Kk) (h:Kl),YP w h->(K w.params).In h) (hd:d.name="law") (hr:Room k callerA)
  (hbd:∀ (kV doc pm:Ka) (an:Option Kc) (cdv ct u:Ka),bindArgs (fnOf "law" "law" (Ye st) (ZJ st) (zT st) .none kV doc pm an cdv ct) ⟨[u],[]⟩=pure [(x,u)])
  (F:∀ (w:Kk) (mg:Kw->Option Ka) (h:Kl),(K w.params).In h->h.Ns Kf mg->Df (K w.params) mg "law" st/\∀ (base:Kl) (f:Kc) (fd:Kh),Fun (K w.params) "law" "law" st f fd->FnOk l.prog w (K w.params) mg base CX0 k f fd [x] (spM (K w.params) m))
  (hl:∀ ns:List Int,ns.length<=63->m [.scr ns]=some (.bl true)) :
  PySem.W.WalkO q loose XP YP l.row.toRowW d [] (fun f vs=>PySem.call f vs) :=
 L2.walk_of (n:=63) (k:=k) (x:=x) (CX:=fun _=>CX0) (sp:=fun w=>spM (K w.params) m) hn (by decide) hdf hr himp htree hY (fun w mg fa h X G hm=>by
  obtain ⟨⟨f,fd,Fu,hf⟩,hF⟩:=F w mg h X G
  rw [hd,hf] at hm
  cases hm
  exact ⟨fd,Fu.one hbd,fun base _ _=>hF base _ fd Fu⟩) (fun _ _ a ns hlen hO hS=>law_end (l:=l) hO hS (hl ns hlen)) fun _ _ _ _ _ z=>z
abbrev sKv (m r s:Kc) (v1 v2 v3:V):List (Key×V):=[(.inr "moves",.ref m),(.inr "rows",.ref r),(.inr "stand",.ref s),(.inr "place",v1),(.inr "over",v2),(.inr "at",v3)]
abbrev sKs:List Key:=[.inr "moves",.inr "rows",.inr "stand",.inr "place",.inr "over",.inr "at"]
structure SHd (K:KC) (H:Hp) (B P:Kc->Prop) (h m r s:Kc) (ms rs ss:List V) (v1 v2 v3:V) (a b c:List D) (d1 d2 d3:D):Prop where
 p:∀ x,P x↔x=h\/x=m\/x=r\/x=s
 hm:h≠m
 hr:h≠r
 hs:h≠s
 mr:m≠r
 ns:m≠s
 rn:r≠s
 e0:H h=some (.dK (sKv m r s v1 v2 v3))
 e1:H m=some (.lst ms)
 e2:H r=some (.lst rs)
 e3:H s=some (.lst ss)
 r1:zr K H B a ms
 r2:zr K H B b rs
 r3:zr K H B c ss
 fl:Yi [d1,d2,d3]=true
 r4:zr K H B [d1,d2,d3] [v1,v2,v3]
section
variable {K:KC} {H H':Hp} {B B' P:Kc->Prop} {h m r s:Kc} {ms rs ss ms':List V} {v1 v2 v3 v:V} {a b c a':List D} {d1 d2 d3 d:D}
theorem SHd.goes (q:SHd K H B P h m r s ms rs ss v1 v2 v3 a b c d1 d2 d3) (g:Goes H H' B B') (k:∀ b o,P b->H b=some o->H' b=some o):SHd K H' B' P h m r s ms rs ss v1 v2 v3 a b c d1 d2 d3 :=
 ⟨q.p,q.hm,q.hr,q.hs,q.mr,q.ns,q.rn,k _ _ ((q.p _).2 (.inl rfl)) q.e0,k _ _ ((q.p _).2 (.inr (.inl rfl))) q.e1,k _ _ ((q.p _).2 (.inr (.inr (.inl rfl)))) q.e2,k _ _ ((q.p _).2 (.inr (.inr (.inr rfl)))) q.e3,zr.goes g _ _ q.r1,zr.goes g _ _ q.r2,zr.goes g _ _ q.r3,q.fl,zr.goes g _ _ q.r4⟩
end
section
variable {K:KC} {P9 H:Hp} {Ua P:Kc->Prop} {os os' ol:List Nat} {σ:St} {ρ:Ev} {h:Kc} {i:Nat} {S:List D} {st st':Bool}
end
section
variable {X:Cx} {st st':Bool} {os os' ol:List Nat} {o a i e z:Kv} {td ta ti te tz:TE} {fo fa fi f fz:Ev->Option D} {p p' pos pos':KB} {k:Nat}
end
section
variable {X:Cx} {st st':Bool} {os os' ol:List Nat} {i k n kd:Nat} {e:Kv} {te:TE} {f:Ev->Option D} {x y:Kw} {p pos ipos kp spos apos cpos:KB}
end
open Classical in
def mState (j1 j2:Nat) (f1 f3 f6:Ev->Option D) (M:WM):Ev->Option Out:=fun ρ=>(f1 ρ).bind fun d1=>(asL d1).bind fun c=>(f3 (ρ.set j1 (some d1))).bind fun d3=>(asL d3).bind fun b=>(f6 (ρ.set j1 (some d1))).bind fun d6 =>
 if h:(j1<ρ.length/\j2<ρ.length/\j1≠j2/\d6.flat=true/\Yi b=true/\Yi c=true)/\∃ S':List D,∀ s p,M ((ρ.set j1 (some (.adr s))).set j2 (some (.adr p))) [.lst [],.lst b,.lst c,.int 0,.bl false,d6]=some (.nx ((ρ.set j1 (some (.adr s))).set j2 (some (.adr p))),S') then
  some (.nx ((ρ.set j1 none).set j2 (some (.dict sKs h.2.choose)))) else none
section
variable {K:KC} {fr:Bool} {ol:List Nat} {j1 j2:Nat} {t1 t2 t3 t6:TE} {f1 f3 f6:Ev->Option D} {tw:TS} {Mw:WM}
end
end M
namespace L2
open PySem PySem.Spec PyProof.Rows
section
variable {X:Cx}
def rStarts:V->List V->Hp->VK->Prop:=fun x vs H Q=>∃ a b,x=.str a/\vs=[.str b]/\Q (.bl (Txt.startswith a b)) H
theorem mt_starts:MtR X "str.startswith" rStarts:=by
 intro KJ s σ H x vs v us Q I rx rv h
 obtain ⟨a,b,rfl,rfl,q⟩:=h
 obtain ⟨t,rfl⟩:=rx
 obtain ⟨u,rfl,t2,rfl⟩:=rv.one
 exact SC.startswith ⟨.bl _,H,I,rfl,q⟩
theorem vals_strs:∀ {texts:List Kw} {KP:List Ka},zU (texts.map V.str) KP->∃ l:List (Kw×Tok),KP=strValues l/\l.map (·.1)=texts
 | [],KP,h=>by cases h;exact ⟨[],rfl,rfl⟩
 | x::texts,KP,h=>by
  rw [Qk] at h
  cases h with
  | cons r rr =>
   obtain ⟨l,rfl,e⟩:=vals_strs rr
   obtain ⟨t,rfl⟩:=r
   exact ⟨(x,t)::l,rfl,by rw [Qk,e]⟩
theorem strs_vals:∀ l:List (Kw×Tok),zU ((l.map (·.1)).map V.str) (strValues l)
 | []=>.nil
 | p::l=>.cons ⟨p.2,rfl⟩ (strs_vals l)
def rJoin (K:KC):V->List V->Hp->VK->Prop:=fun x vs H Q=>∃ a p texts,x=.str a/\vs=[.ref p]/\SqL K H p (texts.map V.str)/\JoinOk a texts=true/\Q (.str (Txt.join a texts)) H
theorem mt_join:MtR X "str.join" (rJoin X.K):=by
 intro KJ s σ H x vs v us Q I rx rv h
 obtain ⟨a,p,texts,rfl,rfl,hp,ok,q⟩:=h
 obtain ⟨t,rfl⟩:=rx
 obtain ⟨u,rfl,ru⟩:=rv.one
 cases ru
 obtain ⟨KP,r,e,hz⟩:=I.list hp
 obtain ⟨l,rfl,el⟩:=vals_strs r
 exact SC.join e.isList el ok fun t' k=>⟨.str _,H,I.kept (t':=k) fun _ _ q=>q,⟨t',rfl⟩,q⟩
def rSplit:V->List V->Hp->VK->Prop:=fun x vs H Q=>∃ a b,x=.str a/\vs=[.str b]/\(b.length == 0)=false/\a.length+2<=Kg/\∀ p,H p=none->Q (.ref p) (upd H p (.lst ((Txt.split a b).map V.str)))
theorem mt_split:MtR X "str.split" rSplit:=by
 intro KJ s σ H x vs v us Q I rx rv h
 obtain ⟨a,b,rfl,rfl,hb,hsz,q⟩:=h
 obtain ⟨t,rfl⟩:=rx
 obtain ⟨u,rfl,t2,rfl⟩:=rv.one
 have fin:∀ (l:List (Kw×Tok)) (k:Nat),l.map (·.1)=Txt.split a b->l.length<=Kg->EP X KJ σ Q (.ref s.heap.objs.size) { s with toks:=k,heap:=s.heap.push { cls:=.type "list",data:=.seq (strValues l).toArray } }:=fun l k e hl=>by
  refine ⟨.ref s.heap.objs.size,upd H s.heap.objs.size (.lst ((Txt.split a b).map V.str)),I.laid (t':=k) (fun _ _ q=>Qd _ q) (Ql _) ?_,rfl,q _ (I.hok.fresh (Ql _))⟩
  exact ⟨by rw [Qe,<- e,Qe];exact hl,strValues l,0,by rw [<- e];exact strs_vals l,Qo _ rfl⟩
 have T:=typeIs_str s a t
 have one:∀ k,Txt.split a b=[a]->EP X KJ σ Q (.ref s.heap.objs.size) { s with toks:=k,heap:=s.heap.push { cls:=.type "list",data:=.seq (strValues [(a,t)]).toArray } }:=fun k e=>fin [(a,t)] k e.symm (by show 1<=Kg;decide)
 cases h1:(decide (a.length<b.length)||decide (Builtin.Str.strKind a<Builtin.Str.strKind b)) with
 | true =>
  refine call_meets F.slot_str_split T F.entry_str_split (F.args_str_split_2 _ _) (meets_str_split_cannot_occur a b t t2 h1) (one s.toks ?_)
  unfold Txt.split
  rw [KQ h1]
 | false =>
  cases hf:(Builtin.Str.occurrences a b 0 a.length (a.length+1)).isEmpty with
  | true =>
   refine call_meets F.slot_str_split T F.entry_str_split (F.args_str_split_2 _ _) (meets_str_split_not_found a b t t2 h1 hb hf) (one s.toks ?_)
   unfold Txt.split
   rw [KR (by rw [h1];decide),KQ hf]
  | false =>
   have el:Txt.split a b=Builtin.Str.partsBetween a (Builtin.Str.occurrences a b 0 a.length (a.length+1)) b.length:=by
    unfold Txt.split
    rw [KR (by rw [h1];decide),KR (by rw [hf];decide)]
   have hpl:(Builtin.Str.partsBetween a (Builtin.Str.occurrences a b 0 a.length (a.length+1)) b.length).length<=Kg:=by
    have:=StrLaws.occ_length_le_len a b 0 a.length (a.length+1)
    unfold Builtin.Str.partsBetween
    simp only [Qe,List.length_zip,Qg,Qf,QB]
    omega
   refine call_meets F.slot_str_split T F.entry_str_split (F.args_str_split_2 _ _) (meets_str_split_sep a b t t2 h1 hb hf (by omega) hpl) ?_
   have:=fin (numbered s.toks _) (s.toks+(Builtin.Str.partsBetween a (Builtin.Str.occurrences a b 0 a.length (a.length+1)) b.length).length) ((numbered_texts _ _).trans el.symm) (by
    have e:=congrArg List.length (numbered_texts s.toks (Builtin.Str.partsBetween a (Builtin.Str.occurrences a b 0 a.length (a.length+1)) b.length))
    rw [Qe] at e
    rw [e]
    exact hpl)
   rw [<- strsFrom_eq] at this
   exact this
end
end L2
namespace L2
open PySem PySem.Spec PyProof.Rows
section
variable {X:Cx}
def rSlS:V->Option Int->Option Int->Hp->VK->Prop:=fun x lo hi H Q=>∃ a,x=.str a/\a.length<=Kg/\Q (.str (Txt.slice a lo hi)) H
theorem sl_str:SlR X rSlS:=by
 intro KJ s σ H x v vl vu lo hi sl Q I rx hs pl pu h
 obtain ⟨a,rfl,hz,q⟩:=h
 obtain ⟨t,rfl⟩:=rx
 refine ⟨"str",_,F.slot_str_getitem.lookup,typeIs_str _ _ _,?_⟩
 obtain ⟨o,e1,e2,e3⟩:=hs
 have fin:∀ t' k,EP X KJ σ Q (.str (Txt.slice a lo hi) t') { s with toks:=k }:=fun t' k=>⟨.str _,H,I.kept (t':=k) fun _ _ q=>q,⟨t',rfl⟩,q⟩
 have hl:=QA (Txt.slice_le a lo hi) hz
 cases pl with
 | none =>
  cases pu with
  | none=>exact Pk (l:=none) (u:=none) (st:=none) ⟨o,e1,e2,e3⟩ rfl (post_val_or_str ⟨hl,fin⟩)
  | int j tj=>exact Pk (l:=none) (u:=some (j,tj)) (st:=none) ⟨o,e1,e2,e3⟩ rfl (post_val_or_str ⟨hl,fin⟩)
 | int i ti =>
  cases pu with
  | none=>exact Pk (l:=some (i,ti)) (u:=none) (st:=none) ⟨o,e1,e2,e3⟩ rfl (post_val_or_str ⟨hl,fin⟩)
  | int j tj=>exact Pk (l:=some (i,ti)) (u:=some (j,tj)) (st:=none) ⟨o,e1,e2,e3⟩ rfl (post_val_or_str ⟨hl,fin⟩)
def Its (a:Kw):It:=⟨fun i _=>∃ c,a.cps[i]?=some c,fun i H x H'=>H'=H/\∃ c,a.cps[i]?=some c/\x=.str ⟨#[c]⟩,fun i _=>a.cps[i]?=none⟩
theorem turn_str {P:Ki} {w:Kk} {K:KC} {tg:Kv} (a:Kw) (t:Tok) (it:Kc):J1 P w K tg (Its a) [it] it (fun i h=>h.IsStrIter it "str_ascii_iterator" a t i) where
 mem:=by simp
 obj:=fun i h st b hb=>by
  have e:b=it:=by simpa using hb
  subst e
  obtain ⟨o,e,c,d⟩:=st
  exact ⟨o,e,fun v z=>by rw [d] at z;cases z⟩
 keep:=fun i h h' st k=>by
  obtain ⟨o,e,c,d⟩:=st
  exact ⟨o,k it (by simp) o e,c,d⟩
 item:=by
  intro X hP hw hK hc i KJ s σ H E I hf st hg
  subst hP hw hK
  obtain ⟨c,hx⟩:=hg
  obtain ⟨f0,f1,f2,f3,f4,f5⟩:=hf it (by simp)
  refine wpAny_pyNext_ascii_item st hx fun h' st' sb=>?_
  have I1:Inv X KJ σ H { s with heap:=h',toks:=s.toks+1 }:=I.turned (t':=s.toks+1) (fun b o hb e=>(sb.2 b hb).trans e) f0 f1 f3 f4 f5
  obtain ⟨o,e,cl,d⟩:=id st'
  exact ⟨_,rfl,go_of (s:={ s with heap:=h',toks:=s.toks+1 }) e cl d (by decide) ⟨.str ⟨#[c]⟩,H,I1,⟨_,rfl⟩,⟨rfl,c,hx,rfl⟩,st',fun b hb=>(hf b hb).1⟩⟩
 done:=by
  intro X hP hw hK hc i KJ s σ H E I hf st hg
  subst hP hw hK
  obtain ⟨f0,f1,f2,f3,f4,f5⟩:=hf it (by simp)
  exact wpAny_pyNext_ascii_end (I.ok.hd hc) st hg fun h' eb=>⟨rfl,I.turned (t':=s.toks) (fun b o hb e=>eb b o hb e) f0 f1 f3 f4 f5⟩
 self:=fun _ _ _ _ _ st h=>wpAny_pyIter_striter_ascii st h
def iStr (tl:TE):TI:=fun σ H R=>tl σ H fun x H1=>∃ a,x=.str a/\a.cps.all (·<128)=true/\R (Its a) H1
theorem pi_str {tg l:Kv} {tl:TE} (hl:PE X l tl):PI X tg l (iStr tl):=by
 intro KJ s σ H R I h
 refine thn (hl KJ s σ H _ I h) fun v s1 ⟨x,H1,I1,r1,q1⟩=>?_
 obtain ⟨a,rfl,ha,q⟩:=q1
 obtain ⟨t,rfl⟩:=r1
 refine wpAny_pyIter_ascii ha ?_
 refine ⟨s1.heap.objs.size,[s1.heap.objs.size],_,_,H1,rfl,I1.kept (t':=s1.toks) fun b o e=>Qd _ e,turn_str a t _,⟨_,Qo _ rfl,rfl,rfl⟩,fun b hb=>?_,q⟩
 have e:b=s1.heap.objs.size:=by simpa using hb
 subst e
 exact I1.fpOk (Ql _) (I1.hok.fresh (Ql _))
end
end L2
namespace L2
open PySem PySem.Spec PyProof.Rows
theorem call_intT {X:Cx}:Yp X (.type "int") (fun xs H Q=>∃ x n,xs=[.str x]/\intText? x=some n/\x.length<=640/\Q (.int n) H):=by
 intro KJ s σ H xs us Q I rx h
 obtain ⟨x,n,rfl,hn,hl,q⟩:=h
 obtain ⟨u,rfl,t,rfl⟩:=rx.one
 exact PySem.W.KIN.call_text hn hl ⟨.int n,H,I.kept (t':=s.toks+1) fun _ _ q=>q,⟨_,rfl⟩,q⟩
end L2
namespace M
open PySem PySem.Spec L2
open PySem.W (Frag)
def Zy:D->D->Option D
 | .str a,.str b=>if a.length+b.length<=Kg then some (.str (a++b)) else none
 | _,_=>none
theorem ZD {K:KC}:ROk K (fun x y H Q=>∃ i j,x=.str i/\y=.str j/\i.length+j.length<=Kg/\Q (.str (i++j)) H) Zy:=fun H B x y d1 d2 d Q hB r1 r2 e k=>by
 cases d1 <;> cases d2 <;> simp only [Zy] at e <;> try (cases e;done)
 split at e
 case isFalse=>cases e
 rename_i hl
 cases e
 simp only [Rep] at r1 r2
 subst r1 r2
 exact ⟨_,_,rfl,rfl,hl,k _ H (.refl H) (by simp [Rep])⟩
def dInS:D->D->Option D
 | .str a,.str b=>some (.bl (!(Builtin.Str.occurrences b a 0 b.length 1).isEmpty))
 | _,_=>none
theorem rok_inS {K:KC}:ROk K (fun x y H Q=>∃ i j,x=.str i/\y=.str j/\Q (.bl (!(Builtin.Str.occurrences j i 0 j.length 1).isEmpty)) H) dInS:=fun H B x y d1 d2 d Q hB r1 r2 e k=>by
 cases d1 <;> cases d2 <;> simp only [dInS] at e <;> cases e
 simp only [Rep] at r1 r2
 subst r1 r2
 exact ⟨_,_,rfl,rfl,k _ H (.refl H) (by simp [Rep])⟩
def gLenS:List D->Option D
 | [.str a]=>if a.length<=Kg then some (.int a.length) else none
 | _=>none
theorem caok_lenS {K:KC}:CaOk K (fun xs H Q=>∃ z,xs=[.str z]/\z.length<=Kg/\Q (.int z.length) H) gLenS:=fun H B xs ds d Q hB r e k=>by
 unfold gLenS at e
 split at e
 case h_2=>cases e
 split at e
 case isFalse=>cases e
 rename_i hl
 cases e
 obtain ⟨v,rfl,h1⟩:=JK r
 simp only [Rep] at h1
 subst h1
 exact ⟨_,rfl,hl,k _ H (.refl H) Zz⟩
def gIntT:List D->Option D
 | [.str a]=>if a.length<=640 then (intText? a).map D.int else none
 | _=>none
theorem caok_intT {K:KC}:CaOk K (fun xs H Q=>∃ x n,xs=[.str x]/\intText? x=some n/\x.length<=640/\Q (.int n) H) gIntT:=fun H B xs ds d Q hB r e k=>by
 unfold gIntT at e
 split at e
 case h_2=>cases e
 split at e
 case isFalse=>cases e
 rename_i hl
 obtain ⟨n,e1,rfl⟩:=map_some e
 obtain ⟨v,rfl,h1⟩:=JK r
 simp only [Rep] at h1
 subst h1
 exact ⟨_,n,rfl,e1,hl,k _ H (.refl H) Zz⟩
section
variable {X:Cx} {st s:Bool} {os:List Nat} {o a e:Kv} {to ta te:TE} {fo fa fe:Ev->Option D} {p pos:KB}
theorem se_globStr {x y:Kw} {tk:Tok} (hg:Gl X x) (hm:X.mg x=some (.str y tk)) (hd:(x == ("__debug__":Kw))=false:=by decide):SE X st os (.Name x pos) (tC (.str y)) (fC (.str y)) :=
 ⟨pe_glob hg hm ⟨tk,rfl⟩ hd,fun P9 Ua σ H ρ d Q m q k=>by
  cases q
  exact k _ H (.refl H) (by simp [Rep])⟩
def YO:D->D->Option D
 | .str a,.str b=>some (.bl (Txt.startswith a b))
 | _,_=>none
theorem se_starts {apos cpos:KB} (ho:SE X st os o to fo) (ha:SE X st os a ta fa) (h1:Ke [a] X.env=(false,Kz a X.env)::Ke [] X.env:=by rfl)
  (hbase:Kp o "startswith" X.env (Kz o X.env)=Kz o X.env:=by rfl)
  (hfew:((Kq cpos (Ke [a] X.env)).all (fun x=>!x.1)&&(Kr cpos (Ks [] X.env)).all (fun x=>x.1.isSome)
   && decide ([a].length+([]:List Keyword).length+(if ([]:List Keyword).isEmpty then 0 else 1)<30))=true:=by rfl)
  (hline:(apos.endLine == cpos.line)=true:=by rfl) (hplain:(Kq cpos (Ke [] X.env)).any (·.1)=false:=by rfl) {K':KC} (hK:X.K=K':=by rfl) :
  SE X st os (.Call (.Attribute o "startswith" apos) [a] [] cpos) (tBM K' "str" rStarts to (zD ta zW)) (f2 YO fo fa):=by
 subst hK
 exact ⟨Yz PySem.F.plainAttrs_str PySem.F.slot_str_startswith PySem.F.type_str_startswith mt_starts ho.pe (zv ha.pe zz h1) hbase hfew hline h1 hplain,fun P9 Ua σ H ρ d Q m q kk=>by
  obtain ⟨x,q1,q2⟩:=ze q
  obtain ⟨y,q3,q4⟩:=ze q2
  cases x <;> cases y <;> simp only [YO] at q4 <;> cases q4
  refine ho.ok P9 Ua σ H ρ _ _ m q1 fun v H1 s1 r1=>?_
  simp only [Rep] at r1
  subst r1
  refine ⟨rfl,ha.ok P9 Ua σ H1 ρ _ _ (m.up s1) q3 fun u H2 s2 r2=>?_⟩
  simp only [Rep] at r2
  subst r2
  exact ⟨_,_,rfl,rfl,kk _ H2 (s1.trans s2) (by simp [Rep])⟩⟩
def dJoin:D->List D->Option D
 | .str a,ds=>(WA ds).bind fun xs=>if JoinOk a xs=true then some (.str (Txt.join a xs)) else none
 | _,_=>none
def gi (fo:Ev->Option D) (ca:Ev->Option (List D)):Ev->Option D:=fun ρ=>(fo ρ).bind fun x=>(ca ρ).bind fun ds=>dJoin x ds
theorem Wh {ca:Ev->Option (List D)} {apos cpos:KB} (ho:SE X st os o to fo) (ha:SC X true os a ta ca) (h1:Ke [a] X.env=(false,Kz a X.env)::Ke [] X.env:=by rfl)
  (hbase:Kp o "join" X.env (Kz o X.env)=Kz o X.env:=by rfl)
  (hfew:((Kq cpos (Ke [a] X.env)).all (fun x=>!x.1)&&(Kr cpos (Ks [] X.env)).all (fun x=>x.1.isSome)
   && decide ([a].length+([]:List Keyword).length+(if ([]:List Keyword).isEmpty then 0 else 1)<30))=true:=by rfl)
  (hline:(apos.endLine == cpos.line)=true:=by rfl) (hplain:(Kq cpos (Ke [] X.env)).any (·.1)=false:=by rfl) {K':KC} (hK:X.K=K':=by rfl) :
  SE X st os (.Call (.Attribute o "join" apos) [a] [] cpos) (tBM K' "str" (rJoin K') to (zD ta zW)) (gi fo ca):=by
 subst hK
 exact ⟨Yz PySem.F.plainAttrs_str PySem.F.slot_str_join PySem.F.type_str_join mt_join ho.pe (zv ha.pe zz h1) hbase hfew hline h1 hplain,fun P9 Ua σ H ρ d Q m q kk=>by
  obtain ⟨x,q1,q2⟩:=ze q
  obtain ⟨ds,q3,q4⟩:=ze q2
  cases x <;> simp only [dJoin] at q4 <;> try (cases q4;done)
  obtain ⟨xs,q5,q6⟩:=ze q4
  split at q6
  case isFalse=>cases q6
  rename_i hj
  cases q6
  refine ho.ok P9 Ua σ H ρ _ _ m q1 fun v H1 s1 r1=>?_
  simp only [Rep] at r1
  subst r1
  refine ⟨rfl,ha.ok P9 Ua σ H1 ρ _ _ (m.up s1) q3 fun p ys H2 s2 hq r2=>?_⟩
  have:=of_strsD q5 r2
  subst this
  exact ⟨_,p,xs,rfl,rfl,hq,hj,kk _ H2 (s1.trans s2) (by simp [Rep])⟩⟩
def YC:D->D->Option D
 | .str a,.str b=>if (b.length == 0)=false/\a.length+2<=Kg then some (.lst ((Txt.split a b).map D.str)) else none
 | _,_=>none
theorem reps_strs {K:KC} {H:Hp} {B:Kc->Prop}:∀ xs:List Kw,zr K H B (xs.map D.str) (xs.map V.str)
 | []=>.nil
 | x::xs=>.cons (by simp [Rep]) (reps_strs xs)
theorem sf_split {apos cpos:KB} (ho:SE X true os o to fo) (ha:SE X true os a ta fa) (h1:Ke [a] X.env=(false,Kz a X.env)::Ke [] X.env:=by rfl)
  (hbase:Kp o "split" X.env (Kz o X.env)=Kz o X.env:=by rfl)
  (hfew:((Kq cpos (Ke [a] X.env)).all (fun x=>!x.1)&&(Kr cpos (Ks [] X.env)).all (fun x=>x.1.isSome)
   && decide ([a].length+([]:List Keyword).length+(if ([]:List Keyword).isEmpty then 0 else 1)<30))=true:=by rfl)
  (hline:(apos.endLine == cpos.line)=true:=by rfl) (hplain:(Kq cpos (Ke [] X.env)).any (·.1)=false:=by rfl) {K':KC} (hK:X.K=K':=by rfl) :
  SF X os (.Call (.Attribute o "split" apos) [a] [] cpos) (tBM K' "str" rSplit to (zD ta zW)) (f2 YC fo fa):=by
 subst hK
 exact ⟨Yz PySem.F.plainAttrs_str PySem.F.slot_str_split PySem.F.type_str_split mt_split ho.pe (zv ha.pe zz h1) hbase hfew hline h1 hplain,fun P9 Ua σ H ρ d Q m q kk=>by
  obtain ⟨x,q1,q2⟩:=ze q
  obtain ⟨y,q3,q4⟩:=ze q2
  cases x <;> cases y <;> simp only [YC] at q4 <;> try (cases q4;done)
  split at q4
  case isFalse=>cases q4
  rename_i hc
  cases q4
  refine ho.ok P9 Ua σ H ρ _ _ m q1 fun v H1 s1 r1=>?_
  simp only [Rep] at r1
  subst r1
  refine ⟨rfl,ha.ok P9 Ua σ H1 ρ _ _ (m.up s1) q3 fun u H2 s2 r2=>?_⟩
  simp only [Rep] at r2
  subst r2
  have s12:=s1.trans s2
  exact ⟨_,_,rfl,rfl,hc.1,hc.2,fun p hp=>kk p _ _ (s12.trans (zB hp)) (s12.free hp) zm (by simp only [Own];exact reps_strs _)⟩⟩
def fCutS (fa:Ev->Option D) (fl fu:Ev->Option (Option Int)):Ev->Option D:=fun ρ=>(fa ρ).bind fun d=>(fl ρ).bind fun lo=>(fu ρ).bind fun hi=>match d with
 | .str a=>if a.length<=Kg then some (.str (Txt.slice a lo hi)) else none
 | _=>none
theorem se_cutS {lo hi:Option Kv} {t1 t2:TO} {g1 g2:Ev->Option (Option Int)} {p2:KB} (ha:SE X true os a ta fa) (hl:SO X os lo t1 g1) (hu:SO X os hi t2 g2):SE X st os (.Subscript a (.Slice lo hi none p2) pos) (tSl rSlS ta t1 t2) (fCutS fa g1 g2) :=
 ⟨JO sl_str ha.pe hl.po hu.po,fun P9 Ua σ H ρ d Q m q kk=>by
  obtain ⟨x,q1,qa⟩:=ze q
  obtain ⟨l,q2,qb⟩:=ze qa
  obtain ⟨u,q3,qc⟩:=ze qb
  cases x <;> simp only at qc <;> try (cases qc;done)
  split at qc
  case isFalse=>cases qc
  rename_i hc
  cases qc
  refine ha.ok P9 Ua σ H ρ _ _ m q1 fun v H1 s1 r1=>?_
  simp only [Rep] at r1
  subst r1
  refine hl.ok P9 Ua σ H1 ρ _ _ (m.up s1) q2 fun H2 s2=>hu.ok P9 Ua σ H2 ρ _ _ ((m.up s1).up s2) q3 fun H3 s3=>?_
  exact ⟨_,rfl,hc,kk _ H3 ((s1.trans s2).trans s3) (by simp [Rep])⟩⟩
def fSigns (fa:Ev->Option D):Ev->Option (List D):=fun ρ=>(fa ρ).bind fun d=>match d with
 | .str a=>if a.cps.all (·<128)=true then some (a.cps.toList.map fun c=>D.str ⟨#[c]⟩) else none
 | _=>none
theorem si_str {tg:Kv} (ha:SE X true os a ta fa):SI X s os tg a (iStr ta) (fSigns fa):=⟨pi_str ha.pe,fun P9 Ua σ H ρ ds R m q kk=>by
 obtain ⟨x,q1,q2⟩:=ze q
 cases x <;> simp only at q2 <;> try (cases q2;done)
 rename_i a
 split at q2
 case isFalse=>cases q2
 rename_i hc
 cases q2
 refine ha.ok P9 Ua σ H ρ _ _ m q1 fun v H1 s1 r1=>?_
 simp only [Rep] at r1
 subst r1
 refine ⟨_,rfl,hc,kk _ H1 (fun _ _=>True) s1 ⟨fun H B i d _ e=>?_,fun H B i d x H' _ e y=>?_,fun H B i _ h=>?_⟩ (fun _ _ _ _ _ _ _ _ _=>trivial) (fun _ _ _ _ _ _ _=>trivial) trivial⟩
 ·rw [QO] at e
  obtain ⟨c,e1,_⟩:=PN.mp e
  exact ⟨c,by rw [<- e1];simp⟩
 ·obtain ⟨rfl,c,hx,rfl⟩:=y
  rw [QO] at e
  obtain ⟨c',e1,rfl⟩:=PN.mp e
  have:c=c':=by
   have:=hx
   rw [<- Array.getElem?_toList,e1] at this
   exact (Option.some.inj this).symm
  subst this
  exact ⟨.refl _,by simp [Rep]⟩
 ·rw [Qe] at h
  show a.cps[i]?=none
  rw [<- Array.getElem?_toList]
  exact List.getElem?_eq_none h⟩
end
structure Rz where
 h:Kc
 dx:Kc
 b:Kc
 l:Kc
 g:Kc
 os:List Kc
 ds:List Kc
def Rz.all (z:Rz):List Kc:=z.h::z.b::z.l::z.g::(z.os++z.ds)
def Bz (Ua:Kc->Prop) (z:Rz) (a:Kc):Prop:=Ua a\/a∈z.all
def ZF (K:KC) (H:Hp) (B:Kc->Prop):List Kc->List (List D)->Prop
 | [],[]=>True
 | a::as,d::ds=>(∃ xs,H a=some (.lst xs)/\zr K H B d xs)/\ZF K H B as ds
 | _,_=>False
abbrev rFs (b l g:Kc):List (Kw×V):=[("bodies",.ref b),("lists",.ref l),("begun",.ref g)]
structure ZR (K:KC) (C:Kc) (H:Hp) (Ua:Kc->Prop) (z:Rz) (op dn:List (List D)) (bg:List Kw):Prop where
 nd:z.all.Nodup
 nB:∀ a∈z.all,¬ Ua a
 eh:H z.h=some (.ins C z.dx (rFs z.b z.l z.g))
 eb:H z.b=some (.lst ((z.ds++z.os.take 1).map V.ref))
 el:H z.l=some (.lst (z.os.map V.ref))
 eg:H z.g=some (.lst (bg.map V.str))
 lo:ZF K H (Bz Ua z) z.os op
 ld:ZF K H (Bz Ua z) z.ds dn
section
variable {K:KC} {H H':Hp} {B B' Ua:Kc->Prop} {C:Kc}
theorem ZF.goes (g:Goes H H' B B'):∀ {as:List Kc} {ds:List (List D)},ZF K H B as ds->(∀ a∈as,∀ o,H a=some o->H' a=some o)->ZF K H' B' as ds
 | [],[],_,_=>trivial
 | a::as,d::ds,h,k=>by
  obtain ⟨⟨xs,e,r⟩,t⟩:=h
  exact ⟨⟨xs,k a Qj _ e,zr.goes g _ _ r⟩,ZF.goes g t fun b hb=>k b (Qc _ hb)⟩
 | [],_::_,h,_=>h.elim
 | _::_,[],h,_=>h.elim
theorem ZF.len:∀ {as:List Kc} {ds:List (List D)},ZF K H B as ds->as.length=ds.length
 | [],[],_=>rfl
 | a::as,d::ds,h=>by simp [ZF.len h.2]
 | [],_::_,h=>h.elim
 | _::_,[],h=>h.elim
theorem ZF.snoc {a:Kc} {d:List D} {xs:List V}:∀ {as:List Kc} {ds:List (List D)},ZF K H B as ds->H a=some (.lst xs)->zr K H B d xs->ZF K H B (as++[a]) (ds++[d])
 | [],[],_,e,r=>⟨⟨xs,e,r⟩,trivial⟩
 | b::as,c::ds,h,e,r=>⟨h.1,ZF.snoc h.2 e r⟩
 | [],_::_,h,_,_=>h.elim
 | _::_,[],h,_,_=>h.elim
theorem ZF.last {a:Kc}:∀ {as:List Kc} {ds:List (List D)},ZF K H B (as++[a]) ds->∃ ds' d xs,ds=ds'++[d]/\ZF K H B as ds'/\H a=some (.lst xs)/\zr K H B d xs
 | [],[],h=>h.elim
 | [],[d],h=>by obtain ⟨⟨xs,e,r⟩,_⟩:=h;exact ⟨[],d,xs,rfl,trivial,e,r⟩
 | [],_::_::_,h=>h.2.elim
 | b::as,[],h=>h.elim
 | b::as,c::ds,h=>by
  obtain ⟨ds',d,xs,e,h1,h2,h3⟩:=ZF.last h.2
  exact ⟨c::ds',d,xs,by rw [e];rfl,⟨h.1,h1⟩,h2,h3⟩
structure Rz.Dj (z:Rz):Prop where
 hb:z.h≠z.b
 hl:z.h≠z.l
 hg:z.h≠z.g
 bl:z.b≠z.l
 bg:z.b≠z.g
 lg:z.l≠z.g
 o:∀ a∈z.os,a≠z.h/\a≠z.b/\a≠z.l/\a≠z.g/\a∉z.ds
 d:∀ a∈z.ds,a≠z.h/\a≠z.b/\a≠z.l/\a≠z.g/\a∉z.os
 no:z.os.Nodup
 nd:z.ds.Nodup
theorem Rz.dj {z:Rz} (h:z.all.Nodup):z.Dj:=by
 unfold Rz.all at h
 simp only [Qy,Qa,Qq,not_or,QX] at h
 obtain ⟨⟨a1,a2,a3,a4,a5⟩,⟨b1,b2,b3,b4⟩,⟨c1,c2,c3⟩,⟨d1,d2⟩,e1,e2,e3⟩:=h
 exact ⟨a1,a2,a3,b1,b2,c1,fun a ha=>⟨fun z=>a4 (z▸ha),fun z=>b3 (z▸ha),fun z=>c2 (z▸ha),fun z=>d1 (z▸ha),fun z=>e3 a ha a z rfl⟩,fun a ha=>⟨fun z=>a5 (z▸ha),fun z=>b4 (z▸ha),fun z=>c3 (z▸ha),fun z=>d2 (z▸ha),fun z=>e3 a z a ha rfl⟩,e1,e2⟩
theorem W1 {z:Rz}:z.h∈z.all:=Qj
theorem wC {z:Rz}:z.b∈z.all:=Qc _ Qj
theorem mem_l {z:Rz}:z.l∈z.all:=Qc _ (Qc _ Qj)
theorem mem_g {z:Rz}:z.g∈z.all:=Qc _ (Qc _ (Qc _ Qj))
theorem mem_o {z:Rz} {a:Kc} (h:a∈z.os):a∈z.all:=by unfold Rz.all;simp [h]
theorem mem_d {z:Rz} {a:Kc} (h:a∈z.ds):a∈z.all:=by unfold Rz.all;simp [h]
theorem gf {a:Kc} {o o':HO} (e:H a=some o) (m:Mut (some o)) (hB:B a) (hB':∀ e,B' e->B e\/H e=none):Goes H (upd H a o') B B' :=
 jb (P:=fun b=>b=a) (fun b u q n=>by rw [zh n];exact q) (fun b u z q=>by rw [z,e] at q;cases q;exact m) (fun b z=>by rw [z];exact hB) hB'
section
variable {z:Rz} {op dn:List (List D)} {bg:List Kw}
theorem ZR.row (q:ZR K C H Ua z op dn bg) {os:List Kc} {a:Kc} {op0:List (List D)} {d:List D} {xs:List V} {r:D} {v:V} (eo:z.os=os++[a]) (ed:op=op0++[d]) (ea:H a=some (.lst xs)) (hr:zr K H (Bz Ua z) d xs) (h0:ZF K H (Bz Ua z) os op0) (rv:Rep K H (Bz Ua z) r v) :
  ZR K C (upd H a (.lst (xs++[v]))) Ua z (op0++[d++[r]]) dn bg:=by
 have j:=Rz.dj q.nd
 have hao:a∈z.os:=by rw [eo];simp
 have ho:=j.o a hao
 have g:Goes H (upd H a (.lst (xs++[v]))) (Bz Ua z) (Bz Ua z):=gf ea trivial (.inr (mem_o hao)) fun e y=>.inl y
 have hno:a∉os:=by
  have:=j.no
  rw [eo,QX] at this
  exact fun hm=>this.2.2 a hm a (by simp) rfl
 refine ⟨q.nd,q.nB,by rw [zh (Ne.symm ho.1)];exact q.eh,by rw [zh (Ne.symm ho.2.1)];exact q.eb,by rw [zh (Ne.symm ho.2.2.1)];exact q.el,by rw [zh (Ne.symm ho.2.2.2.1)];exact q.eg,?_,?_⟩
 ·rw [eo]
  exact (h0.goes g fun b hb o e=>by rw [zh fun y=>hno (by rw [<- y];exact hb)];exact e).snoc zm (zr.goes g _ _ (hr.append (.one rv)))
 ·exact q.ld.goes g fun b hb o e=>by rw [zh fun y=>ho.2.2.2.2 (by rw [<- y];exact hb)];exact e
theorem ZR.word (q:ZR K C H Ua z op dn bg) (bg':List Kw):ZR K C (upd H z.g (.lst (bg'.map V.str))) Ua z op dn bg':=by
 have j:=Rz.dj q.nd
 have g:Goes H (upd H z.g (.lst (bg'.map V.str))) (Bz Ua z) (Bz Ua z):=gf q.eg trivial (.inr mem_g) fun e y=>.inl y
 refine ⟨q.nd,q.nB,by rw [zh j.hg];exact q.eh,by rw [zh j.bg];exact q.eb,by rw [zh j.lg];exact q.el,zm,q.lo.goes g fun b hb o e=>?_,q.ld.goes g fun b hb o e=>?_⟩
 ·rw [zh (j.o b hb).2.2.2.1];exact e
 ·rw [zh (j.d b hb).2.2.2.1];exact e
theorem ZF.alive:∀ {as:List Kc} {ds:List (List D)},ZF K H B as ds->∀ a∈as,∃ o,H a=some o
 | [],_,_,a,ha=>by cases ha
 | b::as,[],h,_,_=>h.elim
 | b::as,d::ds,h,a,ha=>by
  rcases Qa.mp ha with rfl | ha
  ·obtain ⟨⟨xs,e,_⟩,_⟩:=h;exact ⟨_,e⟩
  ·exact ZF.alive h.2 a ha
theorem ZR.alive (q:ZR K C H Ua z op dn bg):∀ a∈z.all,∃ o,H a=some o:=fun a ha=>by
 unfold Rz.all at ha
 simp only [Qa,Qq] at ha
 rcases ha with rfl | rfl | rfl | rfl | ha | ha
 ·exact ⟨_,q.eh⟩
 ·exact ⟨_,q.eb⟩
 ·exact ⟨_,q.el⟩
 ·exact ⟨_,q.eg⟩
 ·exact q.lo.alive a ha
 ·exact q.ld.alive a ha
theorem ZR.up (q:ZR K C H Ua z op dn bg) (s:zO H H'):ZR K C H' Ua z op dn bg :=
 ⟨q.nd,q.nB,s _ _ q.eh,s _ _ q.eb,s _ _ q.el,s _ _ q.eg,q.lo.goes (.same s) fun a _ o e=>s _ _ e,q.ld.goes (.same s) fun a _ o e=>s _ _ e⟩
theorem JY {z:Rz} {p a:Kc}:a∈({ z with os:=z.os++[p] }:Rz).all↔a∈z.all\/a=p:=by
 unfold Rz.all
 simp only [Qa,Qq,Qi,or_false]
 constructor
 ·rintro (h | h | h | h | (h | h) | h)
  ·exact .inl (.inl h)
  ·exact .inl (.inr (.inl h))
  ·exact .inl (.inr (.inr (.inl h)))
  ·exact .inl (.inr (.inr (.inr (.inl h))))
  ·exact .inl (.inr (.inr (.inr (.inr (.inl h)))))
  ·exact .inr h
  ·exact .inl (.inr (.inr (.inr (.inr (.inr h)))))
 ·rintro ((h | h | h | h | h | h) | h)
  ·exact .inl h
  ·exact .inr (.inl h)
  ·exact .inr (.inr (.inl h))
  ·exact .inr (.inr (.inr (.inl h)))
  ·exact .inr (.inr (.inr (.inr (.inl (.inl h)))))
  ·exact .inr (.inr (.inr (.inr (.inr h))))
  ·exact .inr (.inr (.inr (.inr (.inl (.inr h)))))
theorem ZR.push (q:ZR K C H Ua z op dn bg) {p:Kc} (hp:H p=none) (hB:¬ Ua p) (h1:z.os≠[]):ZR K C (upd (upd H p (.lst [])) z.l (.lst ((z.os++[p]).map V.ref))) Ua { z with os:=z.os++[p] } (op++[[]]) dn bg:=by
 have j:=Rz.dj q.nd
 have al:=q.alive
 have np:∀ a∈z.all,a≠p:=fun a ha y=>by obtain ⟨o,e⟩:=al a ha;rw [y,hp] at e;cases e
 have k:∀ a o,H a=some o->a≠z.l->upd (upd H p (.lst [])) z.l (.lst ((z.os++[p]).map V.ref)) a=some o:=fun a o e n=>by
  rw [zh n,zh fun y=>by rw [y,hp] at e;cases e];exact e
 have g:Goes H (upd (upd H p (.lst [])) z.l (.lst ((z.os++[p]).map V.ref))) (Bz Ua z) (Bz Ua { z with os:=z.os++[p] }) :=
  jb (P:=fun b=>b=z.l) k (fun b u y e=>by rw [y,q.el] at e;cases e;trivial) (fun b y=>by rw [y];exact .inr mem_l) fun e y=>by
   rcases y with y | y
   ·exact .inl (.inl y)
   ·rcases JY.mp y with y | y
    ·exact .inl (.inr y)
    ·exact .inr (by rw [y];exact hp)
 have tk:(z.os++[p]).take 1=z.os.take 1:=by
  cases h:z.os with
  | nil=>exact absurd h h1
  | cons a as=>rfl
 refine ⟨?_,fun a ha=>?_,k _ _ q.eh j.hl,?_,zm,k _ _ q.eg (Ne.symm j.lg),?_,?_⟩
 ·have nd:=q.nd
  unfold Rz.all at nd np ⊢
  simp only [Qy,Qa,Qq,not_or,QX,Qi,or_false] at nd np ⊢
  obtain ⟨⟨a1,a2,a3,a4,a5⟩,⟨b1,b2,b3,b4⟩,⟨c1,c2,c3⟩,⟨d1,d2⟩,e1,e2,e3⟩:=nd
  refine ⟨⟨a1,a2,a3,⟨a4,np z.h (.inl rfl)⟩,a5⟩,⟨b1,b2,⟨b3,np z.b (.inr (.inl rfl))⟩,b4⟩,⟨c1,⟨c2,np z.l (.inr (.inr (.inl rfl)))⟩,c3⟩,⟨⟨d1,np z.g (.inr (.inr (.inr (.inl rfl))))⟩,d2⟩,⟨e1,⟨by simp,by simp⟩,fun a ha b hb=>?_⟩,e2,fun a ha b hb=>?_⟩
  ·rw [hb];exact np a (.inr (.inr (.inr (.inr (.inl ha)))))
  ·rcases ha with ha | ha
   ·exact e3 a ha b hb
   ·rw [ha];exact fun y=>np b (.inr (.inr (.inr (.inr (.inr hb))))) y.symm
 ·rcases JY.mp ha with ha | ha
  ·exact q.nB a ha
  ·rw [ha];exact hB
 ·show _=some (HO.lst ((z.ds++(z.os++[p]).take 1).map V.ref))
  rw [tk]
  exact k _ _ q.eb j.bl
 ·refine (q.lo.goes g fun a ha o e=>k a o e (j.o a ha).2.2.1).snoc (xs:=[]) ?_ .nil
  rw [zh (fun y=>np z.l mem_l y.symm),zm]
 ·exact q.ld.goes g fun a ha o e=>k a o e (j.d a ha).2.2.1
theorem ZR.pop (q:ZR K C H Ua z op dn bg) {os:List Kc} {a:Kc} {op0:List (List D)} {d:List D} {xs:List V} (eo:z.os=os++[a]) (ea:H a=some (.lst xs)) (hr:zr K H (Bz Ua z) d xs) (h0:ZF K H (Bz Ua z) os op0) (h1:os≠[]) :
  ZR K C (upd H z.l (.lst (os.map V.ref))) Ua { z with os:=os } op0 dn bg/\Rep K (upd H z.l (.lst (os.map V.ref))) (Bz Ua { z with os:=os }) (.lst d) (.ref a):=by
 have j:=Rz.dj q.nd
 have hao:a∈z.os:=by rw [eo];simp
 have ho:=j.o a hao
 have sub:∀ b,b∈({ z with os:=os }:Rz).all->b∈z.all:=fun b hb=>by
  unfold Rz.all at hb ⊢
  rw [eo]
  simp only [Qa,Qq] at hb ⊢
  rcases hb with h | h | h | h | h | h
  ·exact .inl h
  ·exact .inr (.inl h)
  ·exact .inr (.inr (.inl h))
  ·exact .inr (.inr (.inr (.inl h)))
  ·exact .inr (.inr (.inr (.inr (.inl (.inl h)))))
  ·exact .inr (.inr (.inr (.inr (.inr h))))
 have hno:a∉os:=by
  have:=j.no
  rw [eo,QX] at this
  exact fun hm=>this.2.2 a hm a (by simp) rfl
 have na:a∉({ z with os:=os }:Rz).all:=fun hm=>by
  unfold Rz.all at hm
  simp only [Qa,Qq] at hm
  rcases hm with h | h | h | h | h | h
  ·exact ho.1 h
  ·exact ho.2.1 h
  ·exact ho.2.2.1 h
  ·exact ho.2.2.2.1 h
  ·exact hno h
  ·exact ho.2.2.2.2 h
 have g:Goes H (upd H z.l (.lst (os.map V.ref))) (Bz Ua z) (Bz Ua { z with os:=os }):=gf q.el trivial (.inr mem_l) fun e y=>.inl (y.imp id (sub e))
 have k:∀ b o,H b=some o->b≠z.l->upd H z.l (.lst (os.map V.ref)) b=some o:=fun b o e n=>by rw [zh n];exact e
 have tk:os.take 1=z.os.take 1:=by
  rw [eo]
  cases os with
  | nil=>exact absurd rfl h1
  | cons a as=>rfl
 refine ⟨⟨?_,fun b hb=>q.nB b (sub b hb),k _ _ q.eh j.hl,?_,zm,k _ _ q.eg (Ne.symm j.lg),h0.goes g fun b hb o e=>k b o e (j.o b (by rw [eo];simp [hb])).2.2.1,q.ld.goes g fun b hb o e=>k b o e (j.d b hb).2.2.1⟩,?_⟩
 ·have nd:=q.nd
  unfold Rz.all at nd ⊢
  rw [eo] at nd
  exact nd.sublist ((((List.Sublist.append (List.sublist_append_left os [a]) (List.Sublist.refl z.ds)).cons₂ _).cons₂ _).cons₂ _ |>.cons₂ _)
 ·show _=some (HO.lst ((z.ds++os.take 1).map V.ref))
  rw [tk]
  exact k _ _ q.eb j.bl
 ·simp only [Rep]
  exact ⟨a,xs,rfl,⟨.inl (k _ _ ea ho.2.2.1),fun y=>y.elim (q.nB a (mem_o hao)) na⟩,zr.goes g _ _ hr⟩
theorem ZF.append:∀ {as bs:List Kc} {ds es:List (List D)},ZF K H B as ds->ZF K H B bs es->ZF K H B (as++bs) (ds++es)
 | [],bs,[],es,_,h=>h
 | a::as,bs,d::ds,es,h,h'=>⟨h.1,ZF.append h.2 h'⟩
 | [],_,_::_,_,h,_=>h.elim
 | _::_,_,[],_,h,_=>h.elim
theorem ZR.body (q:ZR K C H Ua z op dn bg) {p w:Kc} (hp:H p=none) (hw:H w=none) (hpw:p≠w) (hB:¬ Ua p) (hB':¬ Ua w) (h1:z.os.length<=1) :
  ZR K C (upd (upd (upd (upd H p (.lst [])) w (.lst [.ref p])) z.h (.ins C z.dx (rFs z.b w z.g))) z.b (.lst ((z.ds++z.os.take 1).map V.ref++[.ref p]))) Ua { z with l:=w,os:=[p],ds:=z.ds++z.os } [[]] (dn++op) bg:=by
 have j:=Rz.dj q.nd
 have al:=q.alive
 have np:∀ a∈z.all,a≠p:=fun a ha y=>by obtain ⟨o,e⟩:=al a ha;rw [y,hp] at e;cases e
 have nw:∀ a∈z.all,a≠w:=fun a ha y=>by obtain ⟨o,e⟩:=al a ha;rw [y,hw] at e;cases e
 have tk:z.os.take 1=z.os:=Pa h1
 generalize hH':upd (upd (upd (upd H p (.lst [])) w (.lst [.ref p])) z.h (.ins C z.dx (rFs z.b w z.g))) z.b (.lst ((z.ds++z.os.take 1).map V.ref++[.ref p]))=H'
 have k:∀ a o,H a=some o->a≠z.h->a≠z.b->H' a=some o:=fun a o e n1 n2=>by
  have m1:a≠w:=fun y=>by rw [y,hw] at e;cases e
  have m2:a≠p:=fun y=>by rw [y,hp] at e;cases e
  rw [<- hH',zh n2,zh n1,zh m1,zh m2];exact e
 have sub:∀ b,b∈({ z with l:=w,os:=[p],ds:=z.ds++z.os }:Rz).all->b∈z.all\/b=p\/b=w:=fun b hb=>by
  unfold Rz.all at hb ⊢
  simp only [Qa,Qq,Qi,or_false] at hb ⊢
  rcases hb with h | h | h | h | h | h | h
  ·exact .inl (.inl h)
  ·exact .inl (.inr (.inl h))
  ·exact .inr (.inr h)
  ·exact .inl (.inr (.inr (.inr (.inl h))))
  ·exact .inr (.inl h)
  ·exact .inl (.inr (.inr (.inr (.inr (.inr h)))))
  ·exact .inl (.inr (.inr (.inr (.inr (.inl h)))))
 have g:Goes H H' (Bz Ua z) (Bz Ua { z with l:=w,os:=[p],ds:=z.ds++z.os }) :=
  jb (P:=fun b=>b=z.h\/b=z.b) (fun a o e n=>k a o e (fun y=>n (.inl y)) fun y=>n (.inr y)) (fun b u y e=>by
   rcases y with y | y
   ·rw [y,q.eh] at e;cases e;trivial
   ·rw [y,q.eb] at e;cases e;trivial) (fun b y=>by
   rcases y with y | y
   ·rw [y];exact .inr W1
   ·rw [y];exact .inr wC) fun e y=>by
   rcases y with y | y
   ·exact .inl (.inl y)
   ·rcases sub e y with y | y | y
    ·exact .inl (.inr y)
    ·exact .inr (by rw [y];exact hp)
    ·exact .inr (by rw [y];exact hw)
 refine ⟨?_,fun a ha=>?_,?_,?_,?_,k _ _ q.eg (Ne.symm j.hg) (Ne.symm j.bg),⟨⟨[],?_,.nil⟩,trivial⟩,?_⟩
 ·have nd:=q.nd
  unfold Rz.all at nd np nw ⊢
  simp only [Qy,Qa,Qq,not_or,QX,Qi,or_false,QF,QK] at nd np nw ⊢
  obtain ⟨⟨a1,a2,a3,a4,a5⟩,⟨b1,b2,b3,b4⟩,⟨c1,c2,c3⟩,⟨d1,d2⟩,e1,e2,e3⟩:=nd
  exact ⟨⟨a1,nw _ (.inl rfl),a3,np _ (.inl rfl),a5,a4⟩,⟨nw _ (.inr (.inl rfl)),b2,np _ (.inr (.inl rfl)),b4,b3⟩,⟨fun y=>nw z.g (.inr (.inr (.inr (.inl rfl)))) y.symm,fun y=>hpw y.symm,fun y=>nw w (.inr (.inr (.inr (.inr (.inr y))))) rfl,fun y=>nw w (.inr (.inr (.inr (.inr (.inl y))))) rfl⟩,⟨np _ (.inr (.inr (.inr (.inl rfl)))),d2,d1⟩,⟨fun y=>np p (.inr (.inr (.inr (.inr (.inr y))))) rfl,fun y=>np p (.inr (.inr (.inr (.inr (.inl y))))) rfl⟩,e2,e1,fun a ha b hb y=>e3 b hb a ha y.symm⟩
 ·rcases sub a ha with ha | ha | ha
  ·exact q.nB a ha
  ·rw [ha];exact hB
  ·rw [ha];exact hB'
 ·rw [<- hH',zh j.hb];exact zm
 ·rw [<- hH']
  show _=some (HO.lst ((z.ds++z.os++[p]).map V.ref))
  rw [zm,tk]
  simp only [Qz,Qk,QJ]
 ·rw [<- hH']
  show upd _ _ _ w=_
  rw [zh (fun y=>nw z.b wC y.symm),zh (fun y=>nw z.h W1 y.symm),zm]
  rfl
 ·rw [<- hH',zh (fun y=>np z.b wC y.symm),zh (fun y=>np z.h W1 y.symm),zh hpw,zm]
 ·exact (q.ld.goes g fun a ha o e=>k a o e (j.d a ha).1 (j.d a ha).2.1).append (q.lo.goes g fun a ha o e=>k a o e (j.o a ha).1 (j.o a ha).2.1)
end
end
structure Rst where
 op:List (List D)
 dn:List (List D)
 bg:List Kw
structure RCls (K:KC) (C:Kc):Prop where
 cls:Cls K C
 nb:Y0 K C "bodies"
 nl:Y0 K C "lists"
 ng:Y0 K C "begun"
section
variable {K:KC} {C:Kc} {H H':Hp} {Ua:Kc->Prop} {z z':Rz} {S:Rst}
abbrev ZS (K:KC) (C:Kc) (H:Hp) (Ua:Kc->Prop) (z:Rz) (S:Rst):Prop:=ZR K C H Ua z S.op S.dn S.bg
structure Mvs (H H':Hp) (z z':Rz):Prop where
 h:z'.h=z.h
 dx:z'.dx=z.dx
 keep:∀ a o,H a=some o->a∉z.all->H' a=some o
 new:∀ a∈z'.all,a∈z.all\/H a=none
theorem Mvs.refl:Mvs H H z z:=⟨rfl,rfl,fun _ _ e _=>e,fun _ h=>.inl h⟩
theorem Mvs.same (s:zO H H'):Mvs H H' z z:=⟨rfl,rfl,fun _ _ e _=>s _ _ e,fun _ h=>.inl h⟩
theorem Mvs.trans {H1 H2:Hp} {z1 z2:Rz} (m:Mvs H H1 z z1) (k:Mvs H1 H2 z1 z2):Mvs H H2 z z2:=by
 refine ⟨k.h.trans m.h,k.dx.trans m.dx,fun a o e n=>k.keep a o (m.keep a o e n) fun y=>?_,fun a ha=>?_⟩
 ·rcases m.new a y with y | y
  ·exact n y
  ·rw [e] at y;cases y
 ·rcases k.new a ha with y | y
  ·exact m.new a y
  ·by_cases hz:a∈z.all
   ·exact .inl hz
   ·refine .inr ?_
    cases e:H a with
    | none=>rfl
    | some o=>have:=m.keep a o e hz;rw [y] at this;cases this
theorem ZR.muts {op dn:List (List D)} {bg:List Kw} (q:ZR K C H Ua z op dn bg):∀ a∈z.all,∀ o,H a=some o->Mut (some o):=fun a ha o e=>by
 have ls:∀ {as:List Kc} {ds:List (List D)} {B:Kc->Prop},ZF K H B as ds->∀ a∈as,∃ xs,H a=some (.lst xs):=fun {as}=>by
  induction as with
  | nil=>intro ds B _ a ha;cases ha
  | cons b as ih =>
   intro ds B hL a ha
   cases ds with
   | nil=>exact hL.elim
   | cons d ds =>
    rcases Qa.mp ha with rfl | ha
    ·obtain ⟨⟨xs,e,_⟩,_⟩:=hL;exact ⟨_,e⟩
    ·exact ih hL.2 a ha
 unfold Rz.all at ha
 simp only [Qa,Qq] at ha
 rcases ha with rfl | rfl | rfl | rfl | ha | ha
 ·rw [q.eh] at e;cases e;trivial
 ·rw [q.eb] at e;cases e;trivial
 ·rw [q.el] at e;cases e;trivial
 ·rw [q.eg] at e;cases e;trivial
 ·obtain ⟨xs,e'⟩:=ls q.lo a ha;rw [e'] at e;cases e;trivial
 ·obtain ⟨xs,e'⟩:=ls q.ld a ha;rw [e'] at e;cases e;trivial
theorem ZR.goes {op dn:List (List D)} {bg:List Kw} (q:ZR K C H Ua z op dn bg) (m:Mvs H H' z z'):Goes H H' (Bz Ua z) (Bz Ua z') :=
 jb (P:=fun a=>a∈z.all) (fun a o e n=>m.keep a o e n) (fun a o ha e=>q.muts a ha o e) (fun a ha=>.inr ha) fun a y=>by
  rcases y with y | y
  ·exact .inl (.inl y)
  ·exact (m.new a y).imp .inr id
def spR (K:KC) (C:Kc) (m:Rst->List D->Option Rst):Sp:=fun vs H Q _=>∃ (Ua:Kc->Prop) (z:Rz) (S S':Rst) (ds:List D) (us:List V),vs=.ref z.h::us/\(∀ a,Ua a->∃ o,H a=some o)/\ZS K C H Ua z S/\zr K H (Bz Ua z) ds us/\m S ds=some S' /\
 ∀ H' z',Mvs H H' z z'->ZS K C H' Ua z' S'->Q .non H'
variable {σ:St} {Q:VK}
theorem fld_l (T:RCls K C) (q:ZS K C H Ua z S) (hs:σ[0]?=some (some (.ref z.h))) (k:Q (.ref z.l) H):jk K (Zn 0) "lists" σ H Q:=⟨.ref z.h,hs,z.h,C,z.dx,_,_,rfl,q.eh,T.cls,T.nl,rfl,k⟩
theorem ask_k {mA:List D->Option D} {E:XK} (hA:mA [.bl true]=some .non) (k:∀ H',zO H H'->Q .non H'):spM K mA [.bl true] H Q E :=
 ⟨fun _=>False,[.bl true],.non,fun _ y=>y.elim,.one (by simp [Rep]),hA,fun v H' s r=>by simp only [Rep] at r;rw [r];exact k H' s⟩
abbrev tLen (K:KC) (t:TE):TE:=tCB (fun xs H Q=>∃ p ys,xs=[.ref p]/\(SqL K H p ys\/SqT K H p ys)/\Q (.int ys.length) H) (zD t zW)
abbrev tAsk (K:KC) (mA:List D->Option D) (t:TE):TS:=ym (wz (spM K mA) [] E0 (zD t zW))
abbrev tGt0 (K:KC) (f:Kw):TE:=tOp (rI0 fun i j=>.bl (decide (j<i))) (tLen K (jk K (Zn 0) f)) (tC (.int 0))
abbrev tLast (K:KC) (f:Kw):TE:=tOp (rIxL K) (jk K (Zn 0) f) (tUn (rU fun i=>.int (-i)) (tC (.int 1)))
abbrev tAddRow (K:KC) (mA:List D->Option D):TS:=Z8 (tAsk K mA (tGt0 K "lists")) (ym (tBM K "list" yk (tLast K "lists") (zD (Zn 1) zW)))
def Je:List (List D)->D->Option (List (List D))
 | [],_=>none
 | [d],r=>some [d++[r]]
 | d::ds,r=>(Je ds r).map (d::·)
def Z3 (S:Rst):List D->Option Rst
 | [r]=>if S.op.all (fun d=>decide (d.length<Kg)) then (Je S.op r).map fun op=>{ S with op:=op } else none
 | _=>none
theorem J0 {r:D}:∀ {op op':List (List D)},Je op r=some op'->∃ op0 d,op=op0++[d]/\op'=op0++[d++[r]]
 | [],_,h=>by cases h
 | [d],_,h=>by cases h;exact ⟨[],d,rfl,rfl⟩
 | d::e::ds,op',h=>by
  obtain ⟨o,h1,rfl⟩:=map_some h
  obtain ⟨op0,d',e1,e2⟩:=J0 h1
  exact ⟨d::op0,d',by rw [e1];rfl,by rw [e2];rfl⟩
theorem read_add {mA:List D->Option D} {r:D} {v:V} {S':Rst} {E:Ends} (T:RCls K C) (hA:mA [.bl true]=some .non) (hs:σ[0]?=some (some (.ref z.h))) (h1:σ[1]?=some (some v)) (q:ZS K C H Ua z S) (rv:Rep K H (Bz Ua z) r v) (hm:Z3 S [r]=some S')
  (k:∀ H' z',Mvs H H' z z'->ZS K C H' Ua z' S'->E.nx σ H'):tAddRow K mA E σ H:=by
 have hm':(if S.op.all (fun d=>decide (d.length<Kg)) then (Je S.op r).map fun op=>({ S with op:=op }:Rst) else none)=some S':=hm
 split at hm'
 case isFalse=>cases hm'
 rename_i hall
 obtain ⟨op',e1,rfl⟩:=map_some hm'
 obtain ⟨op0,d,eo,rfl⟩:=J0 e1
 have hlen:=q.lo.len
 obtain ⟨os,a,ez⟩:∃ os a,z.os=os++[a]:=by
  rcases List.eq_nil_or_concat z.os with h | ⟨os,a,h⟩
  ·rw [h,eo] at hlen;simp at hlen
  ·exact ⟨os,a,by rw [h];simp⟩
 refine fld_l (Q:=_) T q hs ?_
 refine ⟨z.l,z.os.map V.ref,rfl,.inl (SqL.of q.el),_,_,rfl,rfl,?_⟩
 have:decide ((0:Int)<((z.os.map V.ref).length:Nat))=true:=KS (by rw [ez];simp)
 show spM K mA [V.bl (decide ((0:Int)<((z.os.map V.ref).length:Nat)))] H _ E0
 rw [this]
 refine ask_k hA fun H1 s1=>?_
 have q1:ZS K C H1 Ua z S:=ZR.up q s1
 refine ⟨.ref z.h,hs,z.h,C,z.dx,_,_,rfl,q1.eh,T.cls,T.nl,rfl,?_⟩
 refine ⟨1,rfl,z.l,z.os.map V.ref,-1,.ref a,rfl,rfl,SqL.of q1.el,by rw [ez,Qz];exact L2.jh _ _,?_⟩
 have hlo:=q1.lo
 have hSo:S.op=op0++[d]:=eo
 rw [ez] at hlo
 obtain ⟨op0',d',xs,e2,h0,ea,hr⟩:=hlo.last
 rw [hSo] at e2
 obtain ⟨rfl,e3⟩:=List.append_inj' e2 rfl
 cases e3
 have hd:d.length<Kg:=by
  rw [hSo] at hall
  simp only [List.all_append,PL,List.all_nil,Bool.and_true,QC,decide_eq_true_eq] at hall
  exact hall.2
 refine ⟨.inl ⟨rfl,xs,SqL.of ea⟩,v,h1,a,xs,v,rfl,rfl,ea,by rw [hr.length];exact hd,?_⟩
 have ha:a∈z.all:=mem_o (by rw [ez];simp)
 refine k _ z ((Mvs.same s1).trans ⟨rfl,rfl,fun b o e n=>by rw [zh fun y=>n (by rw [y];exact ha)];exact e,fun _ h=>.inl h⟩) ?_
 exact ZR.row q1 ez hSo ea hr h0 (Rep.up s1 rv)
abbrev tBeginRow (K:KC) (mA:List D->Option D) (n:Int):TS:=Z8 (tAsk K mA (tOp (rI0 fun i j=>.bl (decide (i<j))) (tLen K (jk K (Zn 0) "begun")) (tC (.int n)))) (Z8 (ym (tBM K "list" yk (jk K (Zn 0) "begun") (zD (Zn 1) zW))) (ym (tBM K "list" yk (jk K (Zn 0) "lists") (zD (ji zW) zW))))
def ZT (S:Rst):List D->Option Rst
 | [.str w]=>if S.bg.length<6/\S.op≠[]/\S.op.length<1000 then some { S with op:=S.op++[[]],bg:=S.bg++[w] } else none
 | _=>none
theorem read_begin {mA:List D->Option D} {w:Kw} {S':Rst} {E:Ends} (T:RCls K C) (hA:mA [.bl true]=some .non) (hs:σ[0]?=some (some (.ref z.h))) (h1:σ[1]?=some (some (.str w))) (hB:∀ a,Ua a->∃ o,H a=some o) (q:ZS K C H Ua z S) (hm:ZT S [.str w]=some S')
  (k:∀ H' z',Mvs H H' z z'->ZS K C H' Ua z' S'->E.nx σ H'):tBeginRow K mA 6 E σ H:=by
 have hm':(if S.bg.length<6/\S.op≠[]/\S.op.length<1000 then some ({ S with op:=S.op++[[]],bg:=S.bg++[w] }:Rst) else none)=some S':=hm
 split at hm'
 case isFalse=>cases hm'
 rename_i hc
 cases hm'
 have hlen:=q.lo.len
 refine ⟨.ref z.h,hs,z.h,C,z.dx,_,_,rfl,q.eh,T.cls,T.ng,rfl,?_⟩
 refine ⟨z.g,S.bg.map V.str,rfl,.inl (SqL.of q.eg),_,_,rfl,rfl,?_⟩
 have:decide (((S.bg.map V.str).length:Nat)<(6:Int))=true:=KS (by rw [Qe];omega)
 show spM K mA [V.bl (decide (((S.bg.map V.str).length:Nat)<(6:Int)))] H _ E0
 rw [this]
 refine ask_k hA fun H1 s1=>?_
 have q1:ZS K C H1 Ua z S:=ZR.up q s1
 refine ⟨.ref z.h,hs,z.h,C,z.dx,_,_,rfl,q1.eh,T.cls,T.ng,rfl,.inl ⟨rfl,_,SqL.of q1.eg⟩,.str w,h1,z.g,S.bg.map V.str,.str w,rfl,rfl,q1.eg,by rw [Qe];exact Nat.lt_trans hc.1 (by decide),?_⟩
 have q2:=q1.word (S.bg++[w])
 rw [Qz,Q1] at q2
 have m2:Mvs H1 (upd H1 z.g (.lst (S.bg.map V.str++[.str w]))) z z:=⟨rfl,rfl,fun b o e n=>by rw [zh fun y=>n (by rw [y];exact mem_g)];exact e,fun _ h=>.inl h⟩
 have m12:=(Mvs.same (z:=z) s1).trans m2
 refine ⟨.ref z.h,hs,z.h,C,z.dx,_,_,rfl,q2.eh,T.cls,T.nl,rfl,.inl ⟨rfl,_,SqL.of q2.el⟩,by show 0<=Kg;decide,fun p hp=>?_⟩
 have np:p≠z.l:=fun y=>by
  have e:=q2.el
  rw [<- y] at e
  have hp':upd H1 z.g (.lst (S.bg.map V.str++[.str w])) p=none:=hp
  rw [e] at hp'
  cases hp'
 have hBp:¬ Ua p:=fun y=>by
  obtain ⟨o,e⟩:=hB p y
  have:=m12.keep p o e fun hm=>(q.nB p hm) y
  have hp':upd H1 z.g (.lst (S.bg.map V.str++[.str w])) p=none:=hp
  rw [this] at hp'
  cases hp'
 have ho:z.os≠[]:=fun y=>by rw [y] at hlen;exact hc.2.1 (Px hlen.symm)
 refine ⟨z.l,z.os.map V.ref,.ref p,rfl,rfl,by rw [zh (Ne.symm np)];exact q2.el,by rw [Qe,hlen];exact Nat.lt_trans hc.2.2 (by decide),?_⟩
 have q3:=q2.push hp hBp ho
 rw [Qz,Q1] at q3
 refine k _ { z with os:=z.os++[p] } (m12.trans ⟨rfl,rfl,fun b o e n=>?_,fun b hb=>?_⟩) q3
 ·rw [zh fun y=>n (by rw [y];exact mem_l),zh fun y=>by rw [y] at e;rw [show upd H1 z.g (.lst (S.bg.map V.str++[.str w])) p=none from hp] at e;cases e]
  exact e
 ·rcases JY.mp hb with h | h
  ·exact .inl h
  ·exact .inr (by rw [h];exact hp)
end
section
variable {K:KC} {C:Kc} {H H':Hp} {Ua:Kc->Prop} {z z':Rz} {S:Rst} {σ:St} {Q:VK}
theorem Mvs.track (m:Mvs H H' z z') (q:ZS K C H Ua z S) (hB:∀ a,Ua a->∃ o,H a=some o):∀ a,Ua a->∃ o,H' a=some o:=fun a y=>by
 obtain ⟨o,e⟩:=hB a y
 exact ⟨o,m.keep a o e fun hm=>q.nB a hm y⟩
theorem track_all (q:ZS K C H Ua z S) (hB:∀ a,Ua a->∃ o,H a=some o):∀ a,Bz Ua z a->∃ o,H a=some o:=fun a y=>y.elim (hB a) (q.alive a)
theorem read_open {E:Ends} (T:RCls K C) (hs:σ[0]?=some (some (.ref z.h))) (hB:∀ a,Ua a->∃ o,H a=some o) (q:ZS K C H Ua z S) (h0:S.op≠[]) (h1:S.op.length<1000)
  (k:∀ H' z',Mvs H H' z z'->ZS K C H' Ua z' { S with op:=S.op++[[]] }->E.nx σ H'):ym (tBM K "list" yk (jk K (Zn 0) "lists") (zD (ji zW) zW)) E σ H:=by
 have hlen:=q.lo.len
 refine ⟨.ref z.h,hs,z.h,C,z.dx,_,_,rfl,q.eh,T.cls,T.nl,rfl,.inl ⟨rfl,_,SqL.of q.el⟩,by show 0<=Kg;decide,fun p hp=>?_⟩
 have hp':H p=none:=hp
 have np:p≠z.l:=fun y=>by have e:=q.el;rw [<- y,hp'] at e;cases e
 have hBp:¬ Ua p:=fun y=>by obtain ⟨o,e⟩:=hB p y;rw [hp'] at e;cases e
 have ho:z.os≠[]:=fun y=>by rw [y] at hlen;exact h0 (Px hlen.symm)
 refine ⟨z.l,z.os.map V.ref,.ref p,rfl,rfl,by rw [zh (Ne.symm np)];exact q.el,by rw [Qe,hlen];exact Nat.lt_trans h1 (by decide),?_⟩
 have q3:=q.push hp' hBp ho
 rw [Qz,Q1] at q3
 refine k _ { z with os:=z.os++[p] } ⟨rfl,rfl,fun b o e n=>?_,fun b hb=>?_⟩ q3
 ·rw [zh fun y=>n (by rw [y];exact mem_l),zh fun y=>by rw [y,hp'] at e;cases e];exact e
 ·rcases JY.mp hb with h | h
  ·exact .inl h
  ·exact .inr (by rw [h];exact hp')
abbrev tNeg1:TE:=tUn (rU fun i=>.int (-i)) (tC (.int 1))
theorem last_of {α:Type} {xs:List α} {x:α} (h:xs.getLast?=some x):∃ ys,xs=ys++[x]:=by
 obtain ⟨ys,rfl⟩:=List.getLast?_eq_some_iff.mp h
 exact ⟨ys,rfl⟩
abbrev tOther (K:KC) (mA:List D->Option D):TS:=Z8 (tAsk K mA (tOp (rEqD K false) (tSl (rSlL K) (jk K (Zn 0) "begun") (tPart tNeg1) w6) (ji (zD (tC (.str "either")) zW)))) (Z8 (yQ (tC (.str "or")) (gSub (jk K (Zn 0) "begun") tNeg1 rSetL)) (ym (tBM K "list" yk (jk K (Zn 0) "lists") (zD (ji zW) zW))))
def YW (S:Rst):List D->Option Rst
 | []=>if S.bg.getLast?=some ("either":Kw)/\S.op≠[]/\S.op.length<1000 then some { S with op:=S.op++[[]],bg:=S.bg.dropLast++[("or":Kw)] } else none
 | _=>none
theorem cut_last {xs:List V} {x:V}:Jh (xs++[x]) (some (-1)) none=[x]:=by
 have h1:HT.sIx (xs++[x]).length 0 (some (-1))=xs.length:=by
  show (if (-1:Int)<0 then ((-1:Int)+((xs++[x]).length:Nat)).toNat else min (-1:Int).toNat (xs++[x]).length)=_
  rw [KQ (by decide),Qf,Qv];omega
 have h2:HT.sIx (xs++[x]).length (xs++[x]).length none=xs.length+1:=by rw [HT.sIx_none,Qf,Qv]
 unfold Jh
 rw [h1,h2,List.drop_left' rfl]
 simp
theorem eq_either:eqD (.lst [.str "either"]) (.lst [.str "either"])=true:=by
 unfold eqD
 simp only [zZ,Zx,PyData.eqv,PyData.eqvAll]
 decide
theorem py_either:YX (.lst [.str "either"])=true:=by
 unfold YX SeqAt.shaped
 simp only [zZ,Zx,PyData.canLay0,PyData.canLayAll0,PyData.depth,PyData.depthAll]
 decide +kernel
theorem read_other {mA:List D->Option D} {S':Rst} {E:Ends} (T:RCls K C) (hA:mA [.bl true]=some .non) (hs:σ[0]?=some (some (.ref z.h))) (hB:∀ a,Ua a->∃ o,H a=some o) (q:ZS K C H Ua z S) (hm:YW S []=some S')
  (k:∀ H' z',Mvs H H' z z'->ZS K C H' Ua z' S'->E.nx σ H'):tOther K mA E σ H:=by
 have hm':(if S.bg.getLast?=some ("either":Kw)/\S.op≠[]/\S.op.length<1000 then some ({ S with op:=S.op++[[]],bg:=S.bg.dropLast++[("or":Kw)] }:Rst) else none)=some S':=hm
 split at hm'
 case isFalse=>cases hm'
 rename_i hc
 cases hm'
 obtain ⟨g0,eg⟩:=last_of hc.1
 have em:S.bg.map V.str=g0.map V.str++[.str "either"]:=by rw [eg];simp
 refine ⟨.ref z.h,hs,z.h,C,z.dx,_,_,rfl,q.eh,T.cls,T.ng,rfl,1,rfl,-1,rfl,z.g,S.bg.map V.str,rfl,SqL.of q.eg,fun p hp=>⟨by show 1<=Kg;decide,fun p2 hp2=>?_⟩⟩
 have hp':H p=none:=hp
 have hc1:Jh (S.bg.map V.str) (some (-1)) none=[.str "either"]:=by rw [em];exact cut_last
 have s1:zO H (upd H p (.lst (Jh (S.bg.map V.str) (some (-1)) none))):=zB hp'
 have s2:=s1.trans (zB (o:=.lst [.str "either"]) hp2)
 have n2:p≠p2:=fun y=>by rw [<- y] at hp2;rw [show upd H p (.lst (Jh (S.bg.map V.str) (some (-1)) none)) p=some _ from zm] at hp2;cases hp2
 refine ⟨fun _=>False,.lst [.str "either"],.lst [.str "either"],?_,?_,py_either,py_either,?_⟩
 ·simp only [Rep]
  exact ⟨p,[.str "either"],rfl,⟨.inl (by rw [zh n2,<- hc1];exact zm),fun y=>y⟩,.one (by simp [Rep])⟩
 ·simp only [Rep]
  exact ⟨p2,[.str "either"],rfl,⟨.inl zm,fun y=>y⟩,.one (by simp [Rep])⟩
 rw [KR Qh,eq_either]
 show spM K mA [V.bl true] _ _ E0
 refine ask_k hA fun H3 s3=>?_
 have s03:=s2.trans s3
 have q3:ZS K C H3 Ua z S:=ZR.up q s03
 have hix:ixN (S.bg.map V.str).length (-1)=some g0.length:=by
  rw [em]
  unfold ixN
  rw [KR (by decide),KQ (by simp;omega)]
  simp
  omega
 refine ⟨.ref z.h,hs,z.h,C,z.dx,_,_,rfl,q3.eh,T.cls,T.ng,rfl,1,rfl,z.g,S.bg.map V.str,-1,g0.length,rfl,rfl,q3.eg,hix,?_⟩
 have q4:=q3.word (g0++[("or":Kw)])
 have e4:(S.bg.map V.str).set g0.length (.str "or")=(g0++[("or":Kw)]).map V.str:=by rw [em];simp
 rw [<- e4] at q4
 have m4:Mvs H3 (upd H3 z.g (.lst ((S.bg.map V.str).set g0.length (.str "or")))) z z:=⟨rfl,rfl,fun b o e n=>by rw [zh fun y=>n (by rw [y];exact mem_g)];exact e,fun _ h=>.inl h⟩
 have m04:=(Mvs.same (z:=z) s03).trans m4
 have hB4:=m04.track q hB
 have ed:S.bg.dropLast=g0:=by rw [eg];simp
 refine read_open (S:={ S with bg:=g0++[("or":Kw)] }) T hs hB4 q4 hc.2.1 hc.2.2 fun H5 z5 m5 q5=>?_
 refine k H5 z5 (m04.trans m5) ?_
 rw [ed]
 exact q5
abbrev Wy (K:KC) (mA:List D->Option D):TS:=Z8 (tAsk K mA (tOp rEq (tLen K (jk K (Zn 0) "begun")) (tC (.int 0)))) (Z8 (sFld K (Zn 0) (ji (zD (ji zW) zW)) "lists") (ym (tBM K "list" yk (jk K (Zn 0) "bodies") (zD (tOp (rIxL K) (jk K (Zn 0) "lists") (tC (.int 0))) zW))))
def Z0 (S:Rst):List D->Option Rst
 | []=>if S.bg=[]/\S.op.length<=1/\S.dn.length<1000 then some ⟨[[]],S.dn++S.op,[]⟩ else none
 | _=>none
theorem read_body {mA:List D->Option D} {S':Rst} {E:Ends} (T:RCls K C) (hA:mA [.bl true]=some .non) (hs:σ[0]?=some (some (.ref z.h))) (hB:∀ a,Ua a->∃ o,H a=some o) (q:ZS K C H Ua z S) (hm:Z0 S []=some S')
  (k:∀ H' z',Mvs H H' z z'->ZS K C H' Ua z' S'->E.nx σ H'):Wy K mA E σ H:=by
 have hm':(if S.bg=[]/\S.op.length<=1/\S.dn.length<1000 then some (⟨[[]],S.dn++S.op,[]⟩:Rst) else none)=some S':=hm
 split at hm'
 case isFalse=>cases hm'
 rename_i hc
 cases hm'
 have hg:S.bg=[]:=hc.1
 refine ⟨.ref z.h,hs,z.h,C,z.dx,_,_,rfl,q.eh,T.cls,T.ng,rfl,z.g,S.bg.map V.str,rfl,.inl (SqL.of q.eg),rfl,?_⟩
 have e1:decide (V.int (((S.bg.map V.str).length:Nat):Int)=V.int 0)=true:=KS (by rw [hg];rfl)
 show spM K mA [V.bl (decide (V.int (((S.bg.map V.str).length:Nat):Int)=V.int 0))] H _ E0
 rw [e1]
 refine ask_k hA fun H1 s1=>?_
 have q1:ZS K C H1 Ua z S:=ZR.up q s1
 have hB1:∀ a,Ua a->∃ o,H1 a=some o:=fun a y=>by obtain ⟨o,e⟩:=hB a y;exact ⟨o,s1 _ _ e⟩
 refine ⟨by show 0<=Kg;decide,fun p hp=>⟨by show 1<=Kg;decide,fun w hw=>?_⟩⟩
 have hp':H1 p=none:=hp
 have hpw:p≠w:=fun y=>by rw [<- y,show upd H1 p (.lst []) p=some _ from zm] at hw;cases hw
 have hw':H1 w=none:=by have:upd H1 p (.lst []) w=none:=hw;rwa [zh (Ne.symm hpw)] at this
 have al:=q1.alive
 have np:∀ a∈z.all,a≠p:=fun a ha y=>by obtain ⟨o,e⟩:=al a ha;rw [y,hp'] at e;cases e
 have nw:∀ a∈z.all,a≠w:=fun a ha y=>by obtain ⟨o,e⟩:=al a ha;rw [y,hw'] at e;cases e
 have j:=Rz.dj q1.nd
 have nB:∀ b,H1 b=none->¬ Ua b:=fun b hb y=>by obtain ⟨o,e⟩:=hB1 b y;rw [hb] at e;cases e
 have lb:=q1.eb
 have lo:=q1.lo.len
 have ld:=q1.ld.len
 refine ⟨.ref z.h,hs,z.h,C,z.dx,rFs z.b z.l z.g,rfl,by rw [zh (nw _ W1),zh (np _ W1)];exact q1.eh,T.cls,T.nl,by show 3<1000;decide,?_⟩
 have x3:∀ {o:HO},upd (upd (upd H1 p (.lst [])) w (.lst [.ref p])) z.h o z.b=some (.lst ((z.ds++z.os.take 1).map V.ref)):=by
  intro o
  rw [zh (Ne.symm j.hb),zh (nw _ wC),zh (np _ wC)];exact lb
 have x4:∀ {o:HO},upd (upd (upd H1 p (.lst [])) w (.lst [.ref p])) z.h o w=some (.lst [.ref p]):=by
  intro o
  rw [zh (fun y=>nw z.h W1 y.symm)];exact zm
 refine ⟨.ref z.h,hs,z.h,C,z.dx,rFs z.b w z.g,.ref z.b,rfl,zm,T.cls,T.nb,rfl,.inl ⟨rfl,_,SqL.of x3⟩,.ref z.h,hs,z.h,C,z.dx,rFs z.b w z.g,.ref w,rfl,zm,T.cls,T.nl,rfl,w,[.ref p],0,.ref p,rfl,rfl,SqL.of x4,rfl,z.b,_,.ref p,rfl,rfl,x3,?_,?_⟩
 ·rw [Qe,Qf,Q3,ld,lo]
  have:(1000:Nat)<Kg:=by decide
  omega
 have q5:=q1.body hp' hw' hpw (nB p hp') (nB w hw') (by rw [lo];exact hc.2.1)
 rw [hg] at q5
 refine k _ { z with l:=w,os:=[p],ds:=z.ds++z.os } ((Mvs.same s1).trans ⟨rfl,rfl,fun b o e n=>?_,fun b hb=>?_⟩) q5
 ·have m1:b≠w:=fun y=>by rw [y,hw'] at e;cases e
  have m2:b≠p:=fun y=>by rw [y,hp'] at e;cases e
  rw [zh fun y=>n (by rw [y];exact wC),zh fun y=>n (by rw [y];exact W1),zh m1,zh m2];exact e
 ·unfold Rz.all at hb ⊢
  simp only [Qa,Qq,Qi,or_false] at hb ⊢
  rcases hb with h | h | h | h | h | h | h
  ·exact .inl (.inl h)
  ·exact .inl (.inr (.inl h))
  ·exact .inr (by rw [h];exact hw')
  ·exact .inl (.inr (.inr (.inr (.inl h))))
  ·exact .inr (by rw [h];exact hp')
  ·exact .inl (.inr (.inr (.inr (.inr (.inr h)))))
  ·exact .inl (.inr (.inr (.inr (.inr (.inl h)))))
def popD (op:List (List D)):Option (List (List D)×List D):=if 1<op.length then op.getLast?.map fun d=>(op.dropLast,d) else none
theorem popD_ {op o1:List (List D)} {d:List D} (h:popD op=some (o1,d)):op=o1++[d]/\o1≠[]:=by
 unfold popD at h
 split at h
 case isFalse=>cases h
 rename_i hl
 obtain ⟨x,h1,h2⟩:=map_some h
 cases h2
 obtain ⟨ys,rfl⟩:=last_of h1
 rw [Q2]
 refine ⟨rfl,fun y=>?_⟩
 rw [y] at hl
 simp at hl
theorem pop_l {o1:List (List D)} {d:List D} (T:RCls K C) (hs:σ[0]?=some (some (.ref z.h))) (q:ZS K C H Ua z S) (hm:popD S.op=some (o1,d))
  (k:∀ H' z' v,Mvs H H' z z'->ZS K C H' Ua z' { S with op:=o1 }->Rep K H' (Bz Ua z') (.lst d) v->Q v H'):tBM0 K "list" rPop (jk K (Zn 0) "lists") σ H Q:=by
 obtain ⟨eo,hn⟩:=popD_ hm
 have hlen:=q.lo.len
 obtain ⟨os,a,ez⟩:∃ os a,z.os=os++[a]:=by
  rcases List.eq_nil_or_concat z.os with h | ⟨os,a,h⟩
  ·rw [h,eo] at hlen;simp at hlen
  ·exact ⟨os,a,by rw [h];simp⟩
 have hlo:=q.lo
 rw [ez] at hlo
 obtain ⟨op0',d',xs,e2,h0,ea,hr⟩:=hlo.last
 rw [eo] at e2
 obtain ⟨rfl,e3⟩:=List.append_inj' e2 rfl
 cases e3
 have hos:os≠[]:=fun y=>by
  have:=h0.len
  rw [y] at this
  exact hn (Px this.symm)
 have el:=q.el
 rw [ez,Qz,Q1] at el
 refine ⟨.ref z.h,hs,z.h,C,z.dx,_,_,rfl,q.eh,T.cls,T.nl,rfl,.inl ⟨rfl,_,SqL.of el⟩,z.l,os.map V.ref++[.ref a],.ref a,rfl,rfl,el,by simp,?_⟩
 rw [Q2]
 obtain ⟨q1,r1⟩:=q.pop ez ea hr h0 hos
 refine k _ { z with os:=os } (.ref a) ⟨rfl,rfl,fun b o e n=>by rw [zh fun y=>n (by rw [y];exact mem_l)];exact e,fun b hb=>.inl ?_⟩ q1 r1
 unfold Rz.all at hb ⊢
 rw [ez]
 simp only [Qa,Qq] at hb ⊢
 rcases hb with h | h | h | h | h | h
 ·exact .inl h
 ·exact .inr (.inl h)
 ·exact .inr (.inr (.inl h))
 ·exact .inr (.inr (.inr (.inl h)))
 ·exact .inr (.inr (.inr (.inr (.inl (.inl h)))))
 ·exact .inr (.inr (.inr (.inr (.inr h))))
abbrev tAddM (K:KC) (C:Kc) (te:TE):TS:=ym (wx C "add_row" (spR K C Z3) [] E0 (Zn 0) (zD te zW))
abbrev tPopL (K:KC):TE:=tBM0 K "list" rPop (jk K (Zn 0) "lists")
abbrev tEnd (K:KC) (C:Kc) (mA:List D->Option D):TS:=Z8 (tAsk K mA (tAndV (tGt0 K "begun") (tOp rNe (tLast K "begun") (tC (.str "either"))))) (Z8 (yQ (tPopL K) (ZA 1)) (JE (Y2 (tOp rEq (tBM0 K "list" rPop (jk K (Zn 0) "begun")) (tC (.str "loop")))) (tAddM K C (Wv (zD (tC (.str "loop")) (zD (Zn 1) zW)))) (tAddM K C (Wv (zD (tC (.str "either")) (zD (tPopL K) (zD (Zn 1) zW)))))))
def J8 (S:Rst):List D->Option Rst
 | []=>S.bg.getLast?.bind fun w=>if w="either" then none else (popD S.op).bind fun r=>if w="loop" then Z3 { S with op:=r.1,bg:=S.bg.dropLast } [.tup [.str "loop",.lst r.2]]
   else (popD r.1).bind fun r2=>Z3 { S with op:=r2.1,bg:=S.bg.dropLast } [.tup [.str "either",.lst r2.2,.lst r.2]]
 | _=>none
theorem call_add {r:D} {v:V} {S':Rst} (hB:∀ a,Ua a->∃ o,H a=some o) (q:ZS K C H Ua z S) (rv:Rep K H (Bz Ua z) r v) (hm:Z3 S [r]=some S') (k:∀ H' z',Mvs H H' z z'->ZS K C H' Ua z' S'->Q .non H'):spR K C Z3 (.ref z.h::([v]++[])) H Q E0 :=
 ⟨Ua,z,S,S',[r],[v],rfl,hB,q,.one rv,hm,k⟩
theorem read_end {mA:List D->Option D} {S':Rst} {E:Ends} (T:RCls K C) (hA:mA [.bl true]=some .non) (hs:σ[0]?=some (some (.ref z.h))) (hl:1<σ.length) (hB:∀ a,Ua a->∃ o,H a=some o) (q:ZS K C H Ua z S) (hm:J8 S []=some S')
  (k:∀ σ' H' z',Mvs H H' z z'->ZS K C H' Ua z' S'->E.nx σ' H'):tEnd K C mA E σ H:=by
 obtain ⟨w,hw,hm⟩:=ze hm
 obtain ⟨g0,eg⟩:=last_of hw
 have em:S.bg.map V.str=g0.map V.str++[.str w]:=by rw [eg];simp
 have ed:S.bg.dropLast=g0:=by rw [eg];simp
 split at hm
 case isTrue=>cases hm
 rename_i hne
 obtain ⟨⟨o1,d⟩,hp1,hm⟩:=ze hm
 rw [ed] at hm
 refine ⟨.ref z.h,hs,z.h,C,z.dx,_,_,rfl,q.eh,T.cls,T.ng,rfl,z.g,S.bg.map V.str,rfl,.inl (SqL.of q.eg),_,_,rfl,rfl,decide ((0:Int)<((S.bg.map V.str).length:Nat)),rfl,?_⟩
 rw [KQ (KS (by rw [em];simp))]
 refine ⟨.ref z.h,hs,z.h,C,z.dx,_,_,rfl,q.eh,T.cls,T.ng,rfl,1,rfl,z.g,S.bg.map V.str,-1,.str w,rfl,rfl,SqL.of q.eg,by rw [em];exact L2.jh _ _,rfl,?_⟩
 have e1:(!decide (V.str w=V.str "either"))=true:=by simp [hne]
 show spM K mA [V.bl (!decide (V.str w=V.str "either"))] H _ E0
 rw [e1]
 refine ask_k hA fun H1 s1=>?_
 have q1:ZS K C H1 Ua z S:=ZR.up q s1
 have hB1:=(Mvs.same (z:=z) s1).track q hB
 refine pop_l T hs q1 hp1 fun H2 z2 v m2 q2 r2=>?_
 have hB2:=m2.track q1 hB1
 unfold ZA
 have hs2:(σ.set 1 (some v))[0]?=some (some (.ref z2.h)):=by rw [zf (by decide),m2.h];exact hs
 have hv2:(σ.set 1 (some v))[1]?=some (some v):=zK hl
 generalize σ.set 1 (some v)=σ2 at hs2 hv2 ⊢
 have eg2:H2 z2.g=some (.lst (g0.map V.str++[.str w])):=by rw [<- em];exact q2.eg
 refine ⟨.ref z2.h,hs2,z2.h,C,z2.dx,_,_,rfl,q2.eh,T.cls,T.ng,rfl,.inl ⟨rfl,_,SqL.of eg2⟩,z2.g,_,.str w,rfl,rfl,eg2,by simp,rfl,decide (V.str w=V.str "loop"),rfl,?_⟩
 rw [Q2]
 have q3:ZS K C (upd H2 z2.g (.lst (g0.map V.str))) Ua z2 { S with op:=o1,bg:=g0 }:=q2.word g0
 have m3:Mvs H2 (upd H2 z2.g (.lst (g0.map V.str))) z2 z2:=⟨rfl,rfl,fun b o e n=>by rw [zh fun y=>n (by rw [y];exact mem_g)];exact e,fun _ h=>.inl h⟩
 have r3:=Rep.goes (q2.goes m3) _ _ r2
 have hB3:=m3.track q2 hB2
 have m03:=((Mvs.same (z:=z) s1).trans m2).trans m3
 generalize upd H2 z2.g (.lst (g0.map V.str))=H3 at *
 split at hm
 case isTrue hlp =>
  rw [KS (by rw [hlp])]
  refine ifT ?_
  refine ⟨.ref z2.h,hs2,z2.h,z2.dx,_,rfl,q3.eh,rfl,v,hv2,by show 2<=Kg;decide,fun p hp=>?_⟩
  have sp:zO H3 (upd H3 p (.tup [.str "loop",v])):=zB hp
  have q4:ZS K C (upd H3 p (.tup [.str "loop",v])) Ua z2 { S with op:=o1,bg:=g0 }:=ZR.up q3 sp
  have hB4:=(Mvs.same (z:=z2) sp).track q3 hB3
  exact call_add (Q:=fun _ H=>E.nx σ2 H) hB4 q4 (r:=.tup [.str "loop",.lst d]) (v:=.ref p) (by
   simp only [Rep]
   exact ⟨p,_,rfl,SqT.of zm,.cons (by simp [Rep]) (.one (Rep.up sp r3))⟩) hm fun H5 z5 m5 q5=>k _ H5 z5 ((m03.trans (Mvs.same sp)).trans m5) q5
 case isFalse hlp =>
  rw [KU (by simp [hlp])]
  refine ifF ?_
  obtain ⟨⟨o2,c⟩,hp2,hm⟩:=ze hm
  refine ⟨.ref z2.h,hs2,z2.h,z2.dx,_,rfl,q3.eh,rfl,?_⟩
  refine pop_l (S:={ S with op:=o1,bg:=g0 }) T hs2 q3 hp2 fun H4 z4 u m4 q4 r4=>?_
  have r3':=Rep.goes (q3.goes m4) _ _ r3
  have hB4:=m4.track q3 hB3
  refine ⟨v,hv2,by show 3<=Kg;decide,fun p hp=>?_⟩
  have sp:zO H4 (upd H4 p (.tup [.str "either",u,v])):=zB hp
  have q5:ZS K C (upd H4 p (.tup [.str "either",u,v])) Ua z4 { S with op:=o2,bg:=g0 }:=ZR.up q4 sp
  have hB5:=(Mvs.same (z:=z4) sp).track q4 hB4
  have:=call_add (Q:=fun v H=>E.nx σ2 H) hB5 q5 (r:=.tup [.str "either",.lst c,.lst d]) (v:=.ref p) (by
   simp only [Rep]
   exact ⟨p,_,rfl,SqT.of zm,.cons (by simp [Rep]) (.cons (Rep.up sp r4) (.one (Rep.up sp r3')))⟩) hm fun H6 z6 m6 q6=>k _ H6 z6 (((m03.trans m4).trans (Mvs.same sp)).trans m6) q6
  rw [m4.h] at this
  exact this
end
def RdOk (K:KC) (C:Kc) (N:List Kw) (t:TS) (m:Rst->List D->Option Rst):Prop :=
 ∀ (H:Hp) (Ua:Kc->Prop) (z:Rz) (S S':Rst) (ds:List D) (us:List V) (E:Ends),(∀ a,Ua a->∃ o,H a=some o)->ZS K C H Ua z S->zr K H (Bz Ua z) ds us->m S ds=some S' ->
  (∀ σ' H' z',Mvs H H' z z'->ZS K C H' Ua z' S'->E.nx σ' H')->t E (L2.yJ N (.ref z.h::us)) H
section
variable {K:KC} {C:Kc} {H H':Hp} {B Ua:Kc->Prop} {z z':Rz} {S:Rst} {σ:St} {Q:VK} {mA:List D->Option D}
theorem reps0 {us:List V} (r:zr K H B [] us):us=[]:=by
 simpa only [zr] using r
theorem rd_add (T:RCls K C) (hA:mA [.bl true]=some .non):RdOk K C ["self","row"] (tAddRow K mA) Z3:=fun H Ua z S S' ds us E hB q r hm k=>by
 match ds,hm,r with
 | [d],hm,r =>
  obtain ⟨v,rfl,rv⟩:=JK r
  exact read_add T hA rfl rfl q rv hm fun H' z' m q=>k _ H' z' m q
theorem rd_begin (T:RCls K C) (hA:mA [.bl true]=some .non):RdOk K C ["self","word"] (tBeginRow K mA 6) ZT:=fun H Ua z S S' ds us E hB q r hm k=>by
 match ds,hm,r with
 | [.str w],hm,r =>
  obtain ⟨v,rfl,rv⟩:=JK r
  simp only [Rep] at rv
  subst rv
  exact read_begin T hA rfl rfl hB q hm fun H' z' m q=>k _ H' z' m q
theorem rd_other (T:RCls K C) (hA:mA [.bl true]=some .non):RdOk K C ["self"] (tOther K mA) YW:=fun H Ua z S S' ds us E hB q r hm k=>by
 match ds,hm,r with
 | [],hm,r =>
  cases reps0 r
  exact read_other T hA rfl hB q hm fun H' z' m q=>k _ H' z' m q
theorem rd_body (T:RCls K C) (hA:mA [.bl true]=some .non):RdOk K C ["self"] (Wy K mA) Z0:=fun H Ua z S S' ds us E hB q r hm k=>by
 match ds,hm,r with
 | [],hm,r =>
  cases reps0 r
  exact read_body T hA rfl hB q hm fun H' z' m q=>k _ H' z' m q
theorem rd_end (T:RCls K C) (hA:mA [.bl true]=some .non):RdOk K C ["self","last"] (tEnd K C mA) J8:=fun H Ua z S S' ds us E hB q r hm k=>by
 match ds,hm,r with
 | [],hm,r =>
  cases reps0 r
  exact read_end T hA rfl (by show 1<2;decide) hB q hm k
abbrev tM0 (K:KC) (C:Kc) (mn:Kw) (m:Rst->List D->Option Rst):TS:=ym (wx C mn (spR K C m) [] E0 (Zn 0) zW)
abbrev tM1 (K:KC) (C:Kc) (mn:Kw) (m:Rst->List D->Option Rst) (te:TE):TS:=ym (wx C mn (spR K C m) [] E0 (Zn 0) (zD te zW))
abbrev tRow (K:KC) (C:Kc) (c1 c2 c3 c4:TT) (e2 e5:TE):TS:=JE c1 (tM0 K C "begin_body" Z0) (JE c2 (tM1 K C "begin_row" ZT e2) (JE c3 (tM0 K C "begin_other_list" YW) (JE c4 (tM0 K C "end_row" J8) (tM1 K C "add_row" Z3 e5))))
def rRow (g1 g2 g3 g4:Ev->Option Bool) (f2 f5:Ev->Option D) (S:Rst):List D->Option Rst
 | [ws]=>(g1 [none,some ws]).bind fun b=>if b then Z0 S [] else (g2 [none,some ws]).bind fun b=>if b then (f2 [none,some ws]).bind fun d=>ZT S [d] else
   (g3 [none,some ws]).bind fun b=>if b then YW S [] else (g4 [none,some ws]).bind fun b=>if b then J8 S [] else (f5 [none,some ws]).bind fun d=>Z3 S [d]
 | _=>none
theorem if_row {c:TT} {g:Ev->Option Bool} {t u:TS} {E:Ends} {P9:Hp} {ρ:Ev} {b:Bool} (hc:TOk K [] c g) (mm:Md K P9 B [] σ H ρ) (hg:g ρ=some b) (kt:b=true->∀ H',zO H H'->t E σ H') (kf:b=false->∀ H',zO H H'->u E σ H'):JE c t u E σ H :=
 hc P9 B σ H ρ b _ mm hg fun H' s=>by
  cases b with
  | true=>exact ifT (kt rfl H' s)
  | false=>exact ifF (kf rfl H' s)
theorem call0 {mn:Kw} {m:Rst->List D->Option Rst} {S':Rst} {E:Ends} {H0:Hp} {z0:Rz} (hl:(rFs z.b z.l z.g).lookup mn=none) (hs:σ[0]?=some (some (.ref z.h))) (hB:∀ a,Ua a->∃ o,H a=some o) (q:ZS K C H Ua z S) (hm:m S []=some S') (m0:Mvs H0 H z0 z) (k:∀ σ' H' z',Mvs H0 H' z0 z'->ZS K C H' Ua z' S'->E.nx σ' H'):tM0 K C mn m E σ H :=
 ⟨.ref z.h,hs,z.h,z.dx,_,rfl,q.eh,hl,Ua,z,S,S',[],[],rfl,hB,q,.nil,hm,fun H' z' m' q'=>k σ H' z' (m0.trans m') q'⟩
theorem call1 {mn:Kw} {m:Rst->List D->Option Rst} {S':Rst} {E:Ends} {te:TE} {f:Ev->Option D} {P9:Hp} {ρ:Ev} {d:D} {H0:Hp} {z0:Rz} (hl:(rFs z.b z.l z.g).lookup mn=none) (hs:σ[0]?=some (some (.ref z.h))) (hB:∀ a,Ua a->∃ o,H a=some o) (q:ZS K C H Ua z S) (he:EOk K true [] te f) (mm:Md K P9 (Bz Ua z) [] σ H ρ) (hf:f ρ=some d) (hm:m S [d]=some S') (m0:Mvs H0 H z0 z) (k:∀ σ' H' z',Mvs H0 H' z0 z'->ZS K C H' Ua z' S'->E.nx σ' H'):tM1 K C mn m te E σ H:=by
 refine ⟨.ref z.h,hs,z.h,z.dx,_,rfl,q.eh,hl,?_⟩
 refine he P9 _ σ H ρ d _ mm hf fun v H1 s1 r1=>?_
 have r1':Rep K H1 (Bl (Bz Ua z) [] σ) d v:=r1
 rw [y7] at r1'
 have hB1:=(Mvs.same (z:=z) s1).track q hB
 exact ⟨Ua,z,S,S',[d],[v],rfl,hB1,ZR.up q s1,.one r1',hm,fun H' z' m' q'=>k σ H' z' ((m0.trans (Mvs.same s1)).trans m') q'⟩
theorem rd_row {c1 c2 c3 c4:TT} {e2 e5:TE} {g1 g2 g3 g4:Ev->Option Bool} {f2 f5:Ev->Option D} (h1:TOk K [] c1 g1) (h2:TOk K [] c2 g2) (h3:TOk K [] c3 g3) (h4:TOk K [] c4 g4) (k2:EOk K true [] e2 f2) (k5:EOk K true [] e5 f5):RdOk K C ["self","words"] (tRow K C c1 c2 c3 c4 e2 e5) (rRow g1 g2 g3 g4 f2 f5):=fun H Ua z S S' ds us E hB q r hm k=>by
 match ds,hm,r with
 | [ws],hm,r =>
  obtain ⟨v,rfl,rv⟩:=JK r
  have mm:Md K H (Bz Ua z) [] (L2.yJ ["self","words"] [.ref z.h,v]) H [none,some ws]:=(JT (N:=["self","words"]) (ds:=[.adr z.h,ws]) (vs:=[.ref z.h,v]) (track_all q hB) (.cons (by simp [Rep]) (.one rv))).forget (i:=0) (v:=some (.ref z.h)) (by simp)
  have hs:(L2.yJ ["self","words"] [.ref z.h,v])[0]?=some (some (.ref z.h)):=rfl
  generalize L2.yJ ["self","words"] [.ref z.h,v]=σ at mm hs ⊢
  have up:∀ {H'},zO H H'->(∀ a,Ua a->∃ o,H' a=some o)/\ZS K C H' Ua z S/\Mvs H H' z z:=fun s=>⟨(Mvs.same (z:=z) s).track q hB,ZR.up q s,Mvs.same s⟩
  obtain ⟨b,c1',hm⟩:=ze hm
  refine if_row h1 mm c1' (fun hb H1 s1=>?_) fun hb H1 s1=>?_
  ·rw [hb,KQ rfl] at hm
   obtain ⟨a1,a2,a3⟩:=up s1
   exact call0 rfl hs a1 a2 hm a3 k
  rw [hb,KR Qh] at hm
  obtain ⟨b,c2',hm⟩:=ze hm
  refine if_row h2 (mm.up s1) c2' (fun hb H2 s2=>?_) fun hb H2 s2=>?_
  ·rw [hb,KQ rfl] at hm
   obtain ⟨d,hd,hm⟩:=ze hm
   obtain ⟨a1,a2,a3⟩:=up (s1.trans s2)
   exact call1 rfl hs a1 a2 k2 (mm.up (s1.trans s2)) hd hm a3 k
  rw [hb,KR Qh] at hm
  obtain ⟨b,c3',hm⟩:=ze hm
  refine if_row h3 (mm.up (s1.trans s2)) c3' (fun hb H3 s3=>?_) fun hb H3 s3=>?_
  ·rw [hb,KQ rfl] at hm
   obtain ⟨a1,a2,a3⟩:=up ((s1.trans s2).trans s3)
   exact call0 rfl hs a1 a2 hm a3 k
  rw [hb,KR Qh] at hm
  obtain ⟨b,c4',hm⟩:=ze hm
  have s123:=(s1.trans s2).trans s3
  refine if_row h4 (mm.up s123) c4' (fun hb H4 s4=>?_) fun hb H4 s4=>?_
  ·rw [hb,KQ rfl] at hm
   obtain ⟨a1,a2,a3⟩:=up (s123.trans s4)
   exact call0 rfl hs a1 a2 hm a3 k
  ·rw [hb,KR Qh] at hm
   obtain ⟨d,hd,hm⟩:=ze hm
   obtain ⟨a1,a2,a3⟩:=up (s123.trans s4)
   exact call1 rfl hs a1 a2 k5 (mm.up (s123.trans s4)) hd hm a3 k
abbrev tInitR (K:KC):TS:=Z8 (sFld K (Zn 0) (ji zW) "bodies") (Z8 (sFld K (Zn 0) (ji zW) "lists") (sFld K (Zn 0) (ji zW) "begun"))
def spI (K:KC) (C:Kc):Sp:=fun vs H Q _=>∃ x dx,vs=[.ref x]/\H x=some (.ins C dx []) /\
 ∀ H' b l g,(∀ c o,H c=some o->c≠x->H' c=some o)->H b=none->H l=none->H g=none->[x,b,l,g].Nodup->H' x=some (.ins C dx (rFs b l g))->H' b=some (.lst [])->H' l=some (.lst [])->H' g=some (.lst [])->Q .non H'
theorem initR {vs:List V} {E:XK} (T:RCls K C) (h:spI K C vs H Q E):tInitR K { nx:=fun _ H'=>Q .non H',rt:=Q } (L2.yJ ["self"] vs) H:=by
 obtain ⟨x,dx,rfl,hx,k⟩:=h
 refine ⟨by show 0<=_;omega,fun b hb=>?_⟩
 have hb':H b=none:=hb
 have nb:b≠x:=fun e=>by rw [e,hx] at hb';cases hb'
 refine ⟨.ref x,rfl,x,C,dx,[],rfl,by rw [zh (Ne.symm nb)];exact hx,T.cls,T.nb,by show 0<1000;decide,?_⟩
 refine ⟨by show 0<=_;omega,fun l hl=>?_⟩
 have nl:l≠x:=fun e=>by rw [e,show upd (upd H b (.lst [])) x _ x=some _ from zm] at hl;cases hl
 have nlb:l≠b:=fun e=>by rw [e,zh nb,show upd H b (.lst []) b=some _ from zm] at hl;cases hl
 have hl':H l=none:=by rw [zh nl,zh nlb] at hl;exact hl
 refine ⟨.ref x,rfl,x,C,dx,_,rfl,by rw [zh (Ne.symm nl)];exact zm,T.cls,T.nl,by show 1<1000;decide,?_⟩
 refine ⟨by show 0<=_;omega,fun g hg=>?_⟩
 have ng:g≠x:=fun e=>by rw [e,show upd (upd (upd (upd H b (.lst [])) x _) l (.lst [])) x _ x=some _ from zm] at hg;cases hg
 have ngl:g≠l:=fun e=>by rw [e,zh nl,show upd (upd (upd H b (.lst [])) x _) l (.lst []) l=some _ from zm] at hg;cases hg
 have ngb:g≠b:=fun e=>by rw [e,zh nb,zh (Ne.symm nlb),zh nb,show upd H b (.lst []) b=some _ from zm] at hg;cases hg
 have hg':H g=none:=by rw [zh ng,zh ngl,zh ng,zh ngb] at hg;exact hg
 refine ⟨.ref x,rfl,x,C,dx,_,rfl,by rw [zh (Ne.symm ng)];exact zm,T.cls,T.ng,by show 2<1000;decide,?_⟩
 refine k _ b l g (fun c o e n=>?_) hb' hl' hg' ?_ zm ?_ ?_ ?_
 ·rw [zh n,zh (fun y=>by rw [y,hg'] at e;cases e),zh n,zh (fun y=>by rw [y,hl'] at e;cases e),zh n,zh (fun y=>by rw [y,hb'] at e;cases e)];exact e
 ·simp only [Qy,Qa,Qi,or_false,not_or,not_false_eq_true,List.nodup_nil,and_true]
  exact ⟨⟨Ne.symm nb,Ne.symm nl,Ne.symm ng⟩,⟨Ne.symm nlb,Ne.symm ngb⟩,Ne.symm ngl⟩
 ·rw [zh nb,zh (Ne.symm ngb),zh nb,zh (Ne.symm nlb),zh nb];exact zm
 ·rw [zh nl,zh (Ne.symm ngl),zh nl];exact zm
 ·rw [zh ng];exact zm
end
section
variable (P:Ki) (w:Kk) {K:KC} {mg:Kw->Option Ka} (base:Kl) {x q:Kw} {st:Kx} {C:Kc}
theorem fn_kR (k:Nat) (N ps:List Kw) {m:Rst->List D->Option Rst} (F:DfM K C x q st) (hl:∀ S ds S',m S ds=some S'->ds.length+1=ps.length) (h:BoX P w K mg base N q st k fun X=>∃ t,PSs X (ZJ st) t/\RdOk K C N t m) (S:FnScope N ps (zT st):=by exact fsc) (b:BD x q st ps:=by exact bd1):KnM P w K mg base C x (k+1) ps (spR K C m):=by
 obtain ⟨f,fd,F,hm⟩:=F
 refine ⟨f,fd,F.ok S (fun vs H Q E h=>?_) (fun cdv A outer s H vs Q E hr z=>?_),hm,F.binds b⟩
 ·obtain ⟨Ua,z,S,S',ds,us,rfl,hB,q,r,hm,_⟩:=h
  rw [Qg,r.length];exact hl _ _ _ hm
 ·obtain ⟨Ua,z,S0,S',ds,us,rfl,hB,q,r,hm,k⟩:=z
  obtain ⟨t,ht,hR⟩:=h f cdv A outer s H E hr
  exact ⟨t,ht,hR H Ua z S0 S' ds us _ hB q r hm fun σ' H' z' m q'=>k H' z' m q'⟩
theorem fn_kIR (k:Nat) (F:DfI K C q st) (T:RCls K C) (h:BoX P w K mg base ["self"] q st k fun X=>PSs X (ZJ st) (tInitR K)) (S:FnScope ["self"] ["self"] (zT st):=by exact fsc) (b:BD "__init__" q st ["self"]:=by exact bd1):KnI P w K mg base C (k+1) ["self"] (spI K C):=by
 obtain ⟨f,fd,F,hm⟩:=F
 refine ⟨f,fd,F.ok S (fun vs H Q E h=>?_) (fun cdv A outer s H vs Q E hr z=>⟨_,h f cdv A outer s H E hr,initR T z⟩),hm,F.binds b⟩
 obtain ⟨_,_,rfl,_⟩:=h
 rfl
end
section
variable {X:Cx} {C:Kc} {mn x:Kw} {sp:Sp} {k:Nat} {ps:List Kw} {o e:Kv} {es:List Kv} {ta:TE} {t:TA} {pos apos p:KB}
theorem WT {pl:Sem Bool} (c:Cls X.K C) (F:KnM X.prog X.w X.K X.mg X.base C mn k ps sp) (hr:Room k X.A) (ho:PE X o ta) (ha:PA X (e::es) t) (hst:Ke (e::es) X.env=(false,Kz e X.env)::Ke es X.env:=by rfl) (hpl:(Kq pos (Ke es X.env)).any (·.1)=false:=by rfl)
  (ht:Kz (.Call (.Attribute o mn apos) (e::es) [] pos) X.env=(do
   let ov <- Kz o X.env
   standAt apos.atName
   let (f,first) <- holding [ov] (getMethod ov mn pl)
   callWith pos f first (Kq pos (Ke (e::es) X.env)) (Kr pos (Ks [] X.env))):=by rfl):PE X (.Call (.Attribute o mn apos) (e::es) [] pos) (wx C mn sp [] E0 ta t):=by
 obtain ⟨f,fd,F,hm,hb⟩:=F
 exact pe_meth ho c hm F hr hb .nil WU ha hst hpl ht
theorem pe_knM0 {pl:Sem Bool} (c:Cls X.K C) (F:KnM X.prog X.w X.K X.mg X.base C mn k ps sp) (hr:Room k X.A) (ho:PE X o ta)
  (ht:Kz (.Call (.Attribute o mn apos) [] [] pos) X.env=(do
   let ov <- Kz o X.env
   standAt apos.atName
   let (f,first) <- holding [ov] (getMethod ov mn pl)
   callWith pos f first (Kq pos (Ke [] X.env)) (Kr pos (Ks [] X.env))):=by rfl):PE X (.Call (.Attribute o mn apos) [] [] pos) (wx C mn sp [] E0 ta zW):=by
 obtain ⟨f,fd,F,hm,hb⟩:=F
 exact pe_meth0 ho c hm F hr hb .nil WU ht
theorem pe_mk0 (G:KnI X.prog X.w X.K X.mg X.base C k ps sp) (hr:Room (k+1) X.A) (hg:Gl X x) (hm:X.mg x=some (.ref C)) (hdb:(x == ("__debug__":Kw))=false:=by decide):PE X (.Call (.Name x p) [] [] pos) (tMake C sp [] E0 zW):=by
 obtain ⟨f,fd,F,M1,hb⟩:=G
 exact pe_make0 M1 F hr hg hm hb .nil WU hdb
end
def TR (K:KC) (H H':Hp) (B:Kc->Prop) (d:D) (v:V):Prop:=∃ (p b:Kc) (as:List Kc) (x:D) (xv:V) (dn:List (List D)),v=.ref p/\d=.tup [x,.lst (dn.map .lst)]/\H b=none/\(∀ a∈as,H a=none)/\as.Nodup/\b∉as/\H' b=some (.lst (as.map V.ref))/\SqT K H' p [xv,.ref b]/\Rep K H' B x xv/\ZF K H' (fun c=>B c\/c=b\/c∈as) as dn
section
variable {K:KC} {C:Kc} {P9 H H':Hp} {B B':Kc->Prop} {z z':Rz} {S S':Rst} {σ:St} {ρ:Ev} {Q:VK}
theorem ZF.reps (g:Goes H H' B B'):∀ {as:List Kc} {ds:List (List D)},ZF K H B as ds->(∀ a∈as,∀ o,H a=some o->H' a=some o)->(∀ a∈as,¬ B' a)->zr K H' B' (ds.map .lst) (as.map V.ref)
 | [],[],_,_,_=>.nil
 | a::as,d::ds,h,k,n=>by
  obtain ⟨⟨xs,e,r⟩,t⟩:=h
  refine .cons ?_ (ZF.reps g t (fun b hb=>k b (Qc _ hb)) fun b hb=>n b (Qc _ hb))
  simp only [Rep]
  exact ⟨a,xs,rfl,⟨.inl (k a Qj _ e),n a Qj⟩,zr.goes g _ _ r⟩
 | [],_::_,h,_,_=>h.elim
 | _::_,[],h,_,_=>h.elim
theorem TR.rep {d:D} {v:V} (h:TR K H H' B d v) (hB:∀ a,B a->∃ o,H a=some o):Rep K H' B d v:=by
 obtain ⟨p,b,as,x,xv,dn,rfl,rfl,h1,h2,h3,h4,h5,h6,h7,h8⟩:=h
 have nb:∀ a,H a=none->¬ B a:=fun a e y=>by obtain ⟨o,q⟩:=hB a y;rw [e] at q;cases q
 simp only [Rep]
 refine ⟨p,_,rfl,h6,.cons h7 (.one ?_)⟩
 simp only [Rep]
 exact ⟨b,_,rfl,⟨.inl h5,nb b h1⟩,h8.reps (.less (fun a y=>.inl y) (.refl H')) (fun _ _ _ e=>e) fun a ha=>nb a (h2 a ha)⟩
theorem TR.up {H2:Hp} {d:D} {v:V} (h:TR K H H' B d v) (s:zO H' H2):TR K H H2 B d v:=by
 obtain ⟨p,b,as,x,xv,dn,rfl,rfl,h1,h2,h3,h4,h5,h6,h7,h8⟩:=h
 exact ⟨p,b,as,x,xv,dn,rfl,rfl,h1,h2,h3,h4,s _ _ h5,SqT.same s h6,Rep.up s h7,h8.goes (.same s) fun a _ o e=>s _ _ e⟩
def spRd (K:KC) (m:List D->Option D):Sp:=fun vs H Q _=>∃ (B:Kc->Prop) (ds:List D) (d:D),(∀ a,B a->∃ o,H a=some o)/\zr K H B ds vs/\m ds=some d/\∀ v H',zO H H'->TR K H H' B d v->Q v H'
theorem _root_.L2.FnOk.toldR {P:Ki} {w:Kk} {mg:Kw->Option Ka} {base:Kl} {k:Nat} {f:Kc} {fd:Kh} {ps:List Kw} {m:List D->Option D} (h:FnOk P w K mg base CX0 k f fd ps (spRd K m)):FnOk P w K mg base CX0 k f fd ps (spM K m) :=
 have z:∀ {vs:List V} {H:Hp} {Q:VK} {E:XK},spM K m vs H Q E->spRd K m vs H Q E:=fun ⟨B,ds,d,hB,r,q,kk⟩=>⟨B,ds,d,hB,r,q,fun v H' s t=>kk v H' s (t.rep hB)⟩
 ⟨fun vs H Q E x=>h.len vs H Q E (z x),fun A outer s H bd us vs Q E hr I hb r x=>h.run A outer s H bd us vs Q E hr I hb r (z x)⟩
theorem Kn.toldR {P:Ki} {w:Kk} {mg:Kw->Option Ka} {base:Kl} {x:Kw} {k:Nat} {ps:List Kw} {m:List D->Option D} (h:Kn P w K mg base x k ps (spRd K m)):Kn P w K mg base x k ps (spM K m):=by
 obtain ⟨f,fd,F,r⟩:=h
 exact ⟨f,fd,F.toldR,r⟩
theorem Md.mv (m:Md K P9 (Bz B z) [] σ H ρ) (q:ZS K C H B z S) (q':ZS K C H' B z' S') (hB:∀ a,B a->∃ o,H a=some o) (hn:∀ a∈z.all,P9 a=none) (mv:Mvs H H' z z'):Md K P9 (Bz B z') [] σ H' ρ :=
 ⟨fun a o e=>mv.keep a o (m.grow a o e) fun h=>(by rw [hn a h] at e;cases e),track_all q' (mv.track q hB),m.len,fun i d e n=>by
  obtain ⟨v,h1,h2⟩:=m.sh i d e n
  rw [y7] at h2 ⊢
  exact ⟨v,h1,Rep.goes (q.goes mv) _ _ h2⟩,fun _ h=>(nomatch h),fun _ _ _ h=>(nomatch h)⟩
theorem new_mv (m:zO P9 H) (hn:∀ a∈z.all,P9 a=none) (mv:Mvs H H' z z'):∀ a∈z'.all,P9 a=none:=fun a ha=>by
 rcases mv.new a ha with h | h
 ·exact hn a h
 ·cases e:P9 a with
  | none=>rfl
  | some o=>have:=m a o e;rw [h] at this;cases this
theorem Md.bz (m:Md K P9 B [] σ H ρ) (s:zO H H') (hz:∀ a∈z.all,H a=none/\∃ o,H' a=some o):Md K P9 (Bz B z) [] σ H' ρ :=
 ⟨m.grow.trans s,fun a y=>by
  rcases y with y | y
  ·obtain ⟨o,e⟩:=m.blk a y;exact ⟨o,s _ _ e⟩
  ·exact (hz a y).2,m.len,fun i d e n=>by
  obtain ⟨v,h1,h2⟩:=m.sh i d e n
  rw [y7] at h2 ⊢
  exact ⟨v,h1,Rep.goes (jb (P:=fun _=>False) (fun a o e _=>s _ _ e) (fun _ _ y=>y.elim) (fun _ y=>y.elim) fun a y=>y.imp id fun y=>(hz a y).1) _ _ h2⟩,fun _ h=>(nomatch h),fun _ _ _ h=>(nomatch h)⟩
theorem Md.unbz (m:Md K P9 (Bz B z) [] σ H ρ):Md K P9 B [] σ H ρ :=
 ⟨m.grow,fun a y=>m.blk a (.inl y),m.len,fun i d e n=>by
  obtain ⟨v,h1,h2⟩:=m.sh i d e n
  rw [y7] at h2 ⊢
  exact ⟨v,h1,Rep.goes (.less (fun a y=>.inl y) (.refl H)) _ _ h2⟩,fun _ h=>(nomatch h),fun _ _ _ h=>(nomatch h)⟩
def jY (mR:Rst->List D->Option Rst):List D->Rst->Option Rst
 | [],S=>some S
 | d::ds,S=>(mR S [d]).bind (jY mR ds)
abbrev tLoopR (K:KC) (C:Kc) (wi:TI) (mR:Rst->List D->Option Rst):TS:=tFor wi (ZA 3) (ym (wx C "read_row" (spR K C mR) [] E0 (Zn 2) (zD (Zn 3) zW)))
theorem loop_read {wi:TI} {fi:Ev->Option (List D)} {mR:Rst->List D->Option Rst} {ds:List D} {E:Ends} (hi:IOk K true [] wi fi) (mm:Md K P9 (Bz B z) [] σ H ρ) (q:ZS K C H B z S) (hB:∀ a,B a->∃ o,H a=some o) (hn:∀ a∈z.all,P9 a=none) (hs:σ[2]?=some (some (.ref z.h))) (h3:3<σ.length) (hf:fi ρ=some ds) (hm:jY mR ds S=some S')
  (k:∀ σ' H' z',σ'[2]?=some (some (.ref z'.h))->σ'.length=σ.length->Md K P9 (Bz B z') [] σ' H' (ρ.set 3 none)->ZS K C H' B z' S'->(∀ a,B a->∃ o,H' a=some o)->(∀ a∈z'.all,P9 a=none)->E.nx σ' H'):tLoopR K C wi mR E σ H:=by
 refine hi P9 _ σ H ρ ds _ mm hf fun J H1 ok s1 W up mv ok1=>?_
 have q1:ZS K C H1 B z S:=ZR.up q s1
 have hB1:=(Mvs.same (z:=z) s1).track q hB
 have mm1:Md K P9 (Bz B z) [] σ H1 (ρ.set 3 none):=by
  have:=(mm.up s1).forget (i:=3) (v:=σ[3]) (by simp)
  rwa [List.set_getElem_self] at this
 rw [y7] at ok1
 refine ⟨fun a n σ' H'=>n=ds.length - a/\a<=ds.length/\σ'[2]?=some (some (.ref z.h))/\σ'.length=σ.length/\∃ z' S1,Mvs H1 H' z z'/\ZS K C H' B z' S1/\Md K P9 (Bz B z') [] σ' H' (ρ.set 3 none)/\(∀ a,B a->∃ o,H' a=some o)/\(∀ a∈z'.all,P9 a=none)/\jY mR (ds.drop a) S1=some S',⟨ds.length,by simp,Q5 _,hs,rfl,z,S,.refl,q1,mm1,hB1,hn,by simpa using hm⟩,?_⟩
 rintro a n σ' H' ⟨rfl,hile,hs',hlen,z',S1,mv1,q',mm',hB',hn',hf'⟩
 have okN:=mv rfl _ _ _ _ (q1.goes mv1) ok1
 by_cases hlt:a<ds.length
 ·right
  have hd:ds[a]?=some ds[a]:=by simp [hlt]
  rw [Ph hlt] at hf'
  obtain ⟨S2,e2,e3⟩:=ze hf'
  refine ⟨W.go _ _ a _ okN hd,fun σ2 H2=>σ2[2]?=some (some (.ref z.h))/\σ2.length=σ.length/\∃ z2,Mvs H1 H2 z z2/\ZS K C H2 B z2 S2/\Md K P9 (Bz B z2) [] σ2 H2 (ρ.set 3 none)/\(∀ a,B a->∃ o,H2 a=some o)/\(∀ a∈z2.all,P9 a=none),fun σ2 H2 ⟨b1,b2,z2,b3,b4,b5,b6,b7⟩=>⟨ds.length - (a+1),by omega,rfl,hlt,b1,b2,z2,S2,b3,b4,b5,b6,b7,e3⟩,fun x H2 y=>?_⟩
  obtain ⟨s2,rx⟩:=W.yld _ _ a _ x H2 okN hd y
  have q2:ZS K C H2 B z' S1:=ZR.up q' s2
  have hB2:=(Mvs.same (z:=z') s2).track q' hB'
  have mm2:=(mm'.up s2).forget (i:=3) (v:=some x) (by simp)
  rw [List.set_set] at mm2
  have hs2:(σ'.set 3 (some x))[2]?=some (some (.ref z'.h)):=by rw [zf (by decide),mv1.h];exact hs'
  have hx2:(σ'.set 3 (some x))[3]?=some (some x):=zK (by omega)
  have hl2:(σ'.set 3 (some x)).length=σ.length:=by rw [Qu];exact hlen
  unfold ZA
  generalize σ'.set 3 (some x)=σ3 at *
  refine ⟨.ref z'.h,hs2,z'.h,z'.dx,_,rfl,q2.eh,rfl,x,hx2,?_⟩
  refine ⟨B,z',S1,S2,[ds[a]],[x],rfl,hB2,q2,.one rx,e2,fun H4 z4 m4 q4=>?_⟩
  have mm4:=mm2.mv q2 q4 hB2 hn' m4
  exact ⟨by rw [hs2,mv1.h],hl2,z4,(mv1.trans (Mvs.same s2)).trans m4,q4,mm4,m4.track q2 hB2,new_mv mm2.grow hn' m4⟩
 ·left
  have hi':a=ds.length:=by omega
  subst hi'
  rw [Pf] at hf'
  cases hf'
  exact ⟨W.stop _ _ _ okN (Ql _),k σ' H' z' (by rw [mv1.h];exact hs') hlen mm' q' hB' hn'⟩
abbrev tRead (K:KC) (C:Kc) (mA:List D->Option D) (mR:Rst->List D->Option Rst) (te1:TE) (t2:TS) (wi:TI) (te6 te7 te8:TE):TS :=
 Z8 (ym te1) (Z8 t2 (Z8 (yQ (tMake C (spI K C) [] E0 zW) (ZA 2)) (Z8 (tLoopR K C wi mR) (Z8 (tAsk K mA (tOp rEq (tLen K (jk K (Zn 2) "begun")) (tC (.int 0)))) (Z8 (ym te6) (Z8 (yQ (Wv (zD te7 (zD (jk K (Zn 2) "bodies") zW))) (ZA 4)) (Z8 (ym te8) (tRet (Zn 4)))))))))
def mRead (mR:Rst->List D->Option Rst) (f1:Ev->Option D) (m2:Ev->Option Out) (fi:Ev->Option (List D)) (f6 f7 f8:Ev->Option D):Ev->Option D:=fun ρ=>(f1 ρ).bind fun _=>(m2 ρ).bind fun o=>match o with
 | .nx ρ1=>(fi (ρ1.set 2 none)).bind fun ds=>(jY mR ds ⟨[],[],[]⟩).bind fun S=>if S.bg=[]/\S.op.length<=1 then
   (f6 ((ρ1.set 2 none).set 3 none)).bind fun _=>(f7 ((ρ1.set 2 none).set 3 none)).bind fun x=>(f8 (((ρ1.set 2 none).set 3 none).set 4 (some (.tup [x,.lst ((S.dn++S.op).map .lst)])))).bind fun _=>some (.tup [x,.lst ((S.dn++S.op).map .lst)]) else none
 | _=>none
theorem read_all {mA:List D->Option D} {mR:Rst->List D->Option Rst} {te1 te6 te7 te8:TE} {t2:TS} {wi:TI} {f1 f6 f7 f8:Ev->Option D} {m2:Ev->Option Out} {fi:Ev->Option (List D)} {d:D} {E:Ends} (T:RCls K C) (hA:mA [.bl true]=some .non) (h1:EOk K false [] te1 f1) (h2:SOk K false [] [] [] t2 m2) (hi:IOk K true [] wi fi) (h6:EOk K false [] te6 f6) (h7:EOk K true [] te7 f7) (h8:EOk K false [] te8 f8)
  (mm:Md K P9 B [] σ P9 ρ) (hl:ρ.length=5) (hm:mRead mR f1 m2 fi f6 f7 f8 ρ=some d) (hm2:∀ ρ',m2 ρ=some (.nx ρ')->ρ'.length=5) (k:∀ v H',zO P9 H'->TR K P9 H' B d v->E.rt v H'):tRead K C mA mR te1 t2 wi te6 te7 te8 E σ P9:=by
 obtain ⟨x1,c1,hm⟩:=ze hm
 obtain ⟨o,c2,hm⟩:=ze hm
 refine h1 P9 B σ P9 ρ x1 _ mm c1 fun _ H1 s1 _=>?_
 cases o with
 | rt _=>cases hm
 | bk _=>cases hm
 | ct _=>cases hm
 | nx ρ1 =>
 obtain ⟨ds,c3,hm⟩:=ze hm
 obtain ⟨S,c4,hm⟩:=ze hm
 split at hm
 case isFalse=>cases hm
 rename_i hc
 obtain ⟨x6,c6,hm⟩:=ze hm
 obtain ⟨x,c7,hm⟩:=ze hm
 obtain ⟨x8,c8,hm⟩:=ze hm
 cases hm
 have hl1:=hm2 ρ1 c2
 refine h2 P9 B σ H1 ρ (.nx ρ1) _ (mm.up s1) c2 fun σ1 H2 md2=>?_
 intro y dx hy hdx hne
 have d1:∀ a o,H2 a=some o->a≠y/\a≠dx:=fun a o e=>⟨fun w=>(by rw [w,hy] at e;cases e),fun w=>by rw [w,hdx] at e;cases e⟩
 have s2:zO H2 (upd (upd H2 dx (.own y)) y (.ins C dx [])):=fun a o e=>by rw [zh (d1 a o e).1,zh (d1 a o e).2];exact e
 refine ⟨y,dx,rfl,zm,fun H3 b l g hk hb hl' hg nd ex eb el eg=>⟨rfl,?_⟩⟩
 have s3:zO H2 H3:=fun a o e=>hk a o (s2 a o e) (d1 a o e).1
 have fr:∀ a,upd (upd H2 dx (.own y)) y (.ins C dx []) a=none->H2 a=none:=fun a e=>by
  cases e':H2 a with
  | none=>rfl
  | some o=>have:=s2 a o e';rw [e] at this;cases this
 have hz:∀ a∈(⟨y,dx,b,l,g,[],[]⟩:Rz).all,H2 a=none/\∃ o,H3 a=some o:=fun a ha=>by
  unfold Rz.all at ha
  simp only [QT,Qa,Qi,or_false] at ha
  rcases ha with rfl | rfl | rfl | rfl
  ·exact ⟨hy,_,ex⟩
  ·exact ⟨fr _ hb,_,eb⟩
  ·exact ⟨fr _ hl',_,el⟩
  ·exact ⟨fr _ hg,_,eg⟩
 have md3:=(md2.forget (i:=2) (v:=some (.ref y)) (by simp)).bz s3 hz
 have hB3:∀ a,B a->∃ o,H3 a=some o:=fun a w=>by obtain ⟨o,e⟩:=md2.blk a w;exact ⟨o,s3 _ _ e⟩
 have q3:ZS K C H3 B ⟨y,dx,b,l,g,[],[]⟩ ⟨[],[],[]⟩:=⟨nd,fun a ha w=>(by obtain ⟨o,e⟩:=md2.blk a w;rw [(hz a ha).1] at e;cases e),ex,eb,el,eg,trivial,trivial⟩
 have hn3:∀ a∈(⟨y,dx,b,l,g,[],[]⟩:Rz).all,P9 a=none:=fun a ha=>by
  cases e:P9 a with
  | none=>rfl
  | some o=>have:=md2.grow a o e;rw [(hz a ha).1] at this;cases this
 have hlσ:(σ1.set 2 (some (.ref y))).length=5:=by rw [Qu,md2.len];exact hl1
 refine loop_read hi md3 q3 hB3 hn3 (zK (by rw [md2.len,hl1];decide)) (by rw [hlσ];decide) c3 c4 fun σ4 H4 z4 hs4 hl4 md4 q4 hB4 hn4=>?_
 have hg4:S.bg=[]:=hc.1
 refine ⟨.ref z4.h,hs4,z4.h,C,z4.dx,_,_,rfl,q4.eh,T.cls,T.ng,rfl,z4.g,S.bg.map V.str,rfl,.inl (SqL.of q4.eg),rfl,?_⟩
 have e1:decide (V.int (((S.bg.map V.str).length:Nat):Int)=V.int 0)=true:=KS (by rw [hg4];rfl)
 show spM K mA [V.bl (decide (V.int (((S.bg.map V.str).length:Nat):Int)=V.int 0))] H4 _ E0
 rw [e1]
 refine ask_k hA fun H5 s5=>?_
 refine h6 P9 _ σ4 H5 _ x6 _ (md4.up s5) c6 fun _ H6 s6 _=>?_
 refine h7 P9 _ σ4 H6 _ x _ ((md4.up s5).up s6) c7 fun xv H7 s7 r7=>?_
 have s47:=(s5.trans s6).trans s7
 have q7:ZS K C H7 B z4 S:=ZR.up q4 s47
 have r7':Rep K H7 (Bl (Bz B z4) [] σ4) x xv:=r7
 rw [y7] at r7'
 refine ⟨.ref z4.h,hs4,z4.h,C,z4.dx,_,_,rfl,q7.eh,T.cls,T.nb,rfl,by show 2<=Kg;decide,fun p hp=>?_⟩
 have sp:zO H7 (upd H7 p (.tup [xv,.ref z4.b])):=zB hp
 have md8:=(md4.up (s47.trans sp)).unbz
 have q8:ZS K C (upd H7 p (.tup [xv,.ref z4.b])) B z4 S:=ZR.up q7 sp
 have tk:z4.os.take 1=z4.os:=Pa (by rw [q4.lo.len];exact hc.2)
 have j:=Rz.dj q8.nd
 have hT:TR K P9 (upd H7 p (.tup [xv,.ref z4.b])) B (.tup [x,.lst ((S.dn++S.op).map .lst)]) (.ref p):=by
  refine ⟨p,z4.b,z4.ds++z4.os,x,xv,S.dn++S.op,rfl,rfl,hn4 _ wC,fun a ha=>?_,?_,fun h=>?_,?_,SqT.of zm,?_,?_⟩
  ·rcases Qq.mp ha with h | h
   ·exact hn4 _ (mem_d h)
   ·exact hn4 _ (mem_o h)
  ·exact QX.mpr ⟨j.nd,j.no,fun a ha b hb y=>(j.d a ha).2.2.2.2 (y▸hb)⟩
  ·rcases Qq.mp h with h | h
   ·exact (j.d _ h).2.1 rfl
   ·exact (j.o _ h).2.1 rfl
  ·have:=q8.eb;rw [tk] at this;exact this
  ·exact Rep.goes (.less (fun a w=>.inl w) sp) _ _ r7'
  ·refine (q8.ld.append q8.lo).goes (.less (fun a w=>?_) (.refl _)) fun _ _ _ e=>e
   rcases w with w | w | w
   ·exact .inl w
   ·exact .inr (by rw [w];exact wC)
   ·rcases Qq.mp w with h | h
    ·exact .inr (mem_d h)
    ·exact .inr (mem_o h)
 have md9:=md8.put (i:=4) (os':=[]) (fun _ w=>nomatch w) (fun _ w=>nomatch w) (d:=.tup [x,.lst ((S.dn++S.op).map .lst)]) (v:=.ref p) (by rw [y7];exact hT.rep fun a w=>mm.blk a w)
 refine h8 P9 B _ _ _ x8 _ md9 c8 fun _ H8 s8 _=>?_
 exact ⟨.ref p,zK (by rw [hl4,hlσ];decide),k _ _ (md9.grow.trans s8) (hT.up s8)⟩
end
section
variable (P:Ki) (w:Kk) {K:KC} {mg:Kw->Option Ka} (base:Kl) {x:Kw} {st:Kx} {C:Kc}
def mDefD (k n:Nat) (f:Ev->Option D):List D->Option D:=fun ds=>if ds.length=k then f (Zd n ds) else none
theorem fn_kRd (k:Nat) (N:List Kw) (p0:Kw) {mA:List D->Option D} {mR:Rst->List D->Option Rst} {f1 f6 f7 f8:Ev->Option D} {m2:Ev->Option Out} {fi:Ev->Option (List D)} (T:RCls K C) (hA:mA [.bl true]=some .non) (F:Df K mg x st) (hN:N.length=5) (hm2:∀ ρ ρ':Ev,ρ.length=5->m2 ρ=some (.nx ρ')->ρ'.length=5)
  (h:BoX P w K mg base N x st k fun X=>∃ te1 t2 wi te6 te7 te8,PSs X (ZJ st) (tRead K C mA mR te1 t2 wi te6 te7 te8)/\EOk K false [] te1 f1/\SOk K false [] [] [] t2 m2/\IOk K true [] wi fi/\EOk K false [] te6 f6/\EOk K true [] te7 f7/\EOk K false [] te8 f8) (S:FnScope N [p0] (zT st):=by exact fsc) (b:BD x x st [p0]:=by exact bd1):Kn P w K mg base x (k+1) [p0] (spRd K (mDefD 1 5 (mRead mR f1 m2 fi f6 f7 f8))):=by
 obtain ⟨f,fd,F,hm⟩:=F
 refine ⟨f,fd,F.ok S (fun vs H Q E h=>?_) (fun cdv A outer s H vs Q E hr z=>?_),hm,F.kp,F.binds b⟩
 ·obtain ⟨B,ds,d,hB,r,q,_⟩:=h
  unfold mDefD at q
  split at q
  ·rw [r.length];assumption
  ·cases q
 ·obtain ⟨B,ds,d,hB,r,q,kk⟩:=z
  unfold mDefD at q
  split at q
  case isFalse=>cases q
  rename_i hlen
  obtain ⟨te1,t2,wi,te6,te7,te8,hp,h1,h2,hi,h6,h7,h8⟩:=h f cdv A outer s H E hr
  have m0:=JT (N:=N) hB r
  rw [hN] at m0
  have hl:(Zd 5 ds).length=5:=by simp [Zd,hlen]
  exact ⟨_,hp,read_all T hA h1 h2 hi h6 h7 h8 m0 hl q (fun ρ' e=>hm2 _ ρ' hl e) kk⟩
end
def PrR (K:KC) (P9:Hp) (Ua:Kc->Prop) (i:Nat) (σ1:St) (H1:Hp) (ρ1:Ev):Prop :=
 ∃ (σ:St) (H:Hp) (ρ:Ev) (v:V) (d:D),Md K P9 Ua [] σ H ρ/\σ1=σ.set i (some v)/\ρ1=ρ.set i (some d)/\i<ρ.length/\zO H H1/\TR K H H1 Ua d v
theorem PrR.up {K:KC} {P9:Hp} {Ua:Kc->Prop} {i:Nat} {σ1:St} {H1 H2:Hp} {ρ1:Ev} (h:PrR K P9 Ua i σ1 H1 ρ1) (s:zO H1 H2):PrR K P9 Ua i σ1 H2 ρ1:=by
 obtain ⟨σ,H,ρ,v,d,h1,h2,h3,h4,h5,h6⟩:=h
 exact ⟨σ,H,ρ,v,d,h1,h2,h3,h4,h5.trans s,h6.up s⟩
structure XR (X:Cx) (fr:Bool) (i:Nat) (os' ol:List Nat) (sts:List Kx) (t:TS) (m:Ev->Option Out):Prop where
 ps:PSs X sts t
 ok:∀ (P9:Hp) (Ua:Kc->Prop) (σ:St) (H:Hp) (ρ:Ev) (o:Out) (E:Ends),Md X.K P9 Ua [] σ H ρ->PrR X.K P9 Ua i σ H ρ->m ρ=some o->EndOk X.K fr P9 Ua os' ol E o->t E σ H
def toldR:D->Bool
 | .tup [_,.lst (.lst b::bs)]=>decide (b.length<Kg/\bs.length+1<Kg)
 | _=>false
def mXR2 (i:Nat) (f:Ev->Option D) (m:Ev->Option Out):Ev->Option Out:=fun ρ=>(f ρ).bind fun _=>(ρ[i]?.join).bind fun d=>if toldR d then m (ρ.set i none) else none
section
variable {X:Cx} {fr:Bool} {i:Nat} {os' ol:List Nat} {Zg:List Kx} {t:TS} {m:Ev->Option Out} {pos:KB}
theorem xr_if {c:Kv} {a:List Kx} {tc:TT} {ta:TS} {g:Ev->Option Bool} {ma:Ev->Option Out} (hc:SB X [] c tc g) (ha:SSs X fr [] [] ol a ta ma) (hr:XR X fr i os' ol Zg t m) :
  XR X fr i os' ol (.If c a [] pos::Zg) (Z8 (JE tc ta Ww) t) (mXIf g ma m):=⟨zJ (jU hc.pt ha.ps JM) hr.ps,fun P9 Ua σ H ρ o E mm hp q k=>by
 obtain ⟨b,h1,h2⟩:=ze q
 refine hc.ok P9 Ua σ H ρ b _ mm h1 fun H' s=>?_
 cases b with
 | true =>
  rw [KQ rfl] at h2 ⊢
  obtain ⟨o',h3,h4⟩:=ze h2
  cases o' <;> simp only [onlyRt] at h4 <;> cases h4
  exact ha.ok P9 Ua σ H' ρ (.rt _) _ (mm.up s) h3 k
 | false =>
  rw [KR Qh] at h2 ⊢
  exact hr.ok P9 Ua σ H' ρ o E (mm.up s) (hp.up s) h2 k⟩
abbrev tXR2 (K:KC) (i:Nat) (te:TE) (t:TS):TS:=Z8 (ym (tBM K "list" yk (tOp (rIxL K) (tOp (rIxT K) (Zn i) (tC (.int 1))) (tC (.int 0))) (zD te zW))) (Z8 (ym (tBM K "list" yk (tOp (rIxT K) (Zn i) (tC (.int 1))) (zD (ji zW) zW))) t)
theorem xr_ok {K:KC} {te:TE} {f:Ev->Option D} (h:EOk K true [] te f) (hr:SOk K fr [] os' ol t m):∀ (P9:Hp) (Ua:Kc->Prop) (σ:St) (H:Hp) (ρ:Ev) (o:Out) (E:Ends),Md K P9 Ua [] σ H ρ->PrR K P9 Ua i σ H ρ->mXR2 i f m ρ=some o->EndOk K fr P9 Ua os' ol E o->tXR2 K i te t E σ H:=fun P9 Ua σ1 H1 ρ1 o E mm hp q kk=>by
 obtain ⟨e,q1,qa⟩:=ze q
 obtain ⟨d,q2,qb⟩:=ze qa
 split at qb
 case isFalse=>cases qb
 rename_i ht
 obtain ⟨σ,H,ρ,v,d',g1,g2,g3,g4,g5,g6⟩:=hp
 have e1:=Yh q2
 rw [g3,zK g4] at e1
 cases e1
 obtain ⟨p,b,as,x,xv,dn,rfl,rfl,h1,h2,h3,h4,h5,h6,h7,h8⟩:=g6
 cases dn with
 | nil=>simp [toldR] at ht
 | cons d0 dn =>
 cases as with
 | nil=>exact h8.elim
 | cons a as =>
 simp only [Qk,toldR,Qe,decide_eq_true_eq] at ht
 obtain ⟨⟨xs,ea,hr0⟩,hrs⟩:=h8
 have hv:σ1[i]?=some (some (.ref p)):=by rw [g2];exact zK (by rw [g1.len];exact g4)
 refine ⟨.ref p,hv,p,_,1,.ref b,rfl,rfl,h6,rfl,b,_,0,.ref a,rfl,rfl,SqL.of h5,L2.zL (j:=0) rfl,.inl ⟨rfl,xs,SqL.of ea⟩,?_⟩
 refine h P9 Ua σ1 H1 ρ1 e _ mm q1 fun w H2 s2 r2=>?_
 refine ⟨a,xs,w,rfl,rfl,s2 _ _ ea,by rw [hr0.length];exact ht.1,?_⟩
 have nab:a≠b:=fun y=>h4 (by rw [y];exact Qj)
 have b3:upd H2 a (.lst (xs++[w])) b=some (.lst ((a::as).map V.ref)):=by rw [zh (Ne.symm nab)];exact s2 _ _ h5
 have t3:SqT K (upd H2 a (.lst (xs++[w]))) p [xv,.ref b]:=by
  rcases SqT.same s2 h6 with h | h
  ·refine .inl ?_
   rcases h with h | ⟨o,h⟩
   ·exact .inl (by rw [zh (fun y=>by rw [y,s2 _ _ ea] at h;cases h)];exact h)
   ·exact .inr ⟨o,by rw [zh (fun y=>by rw [y,s2 _ _ ea] at h;cases h)];exact h⟩
  ·exact .inr h
 refine ⟨.ref p,hv,p,_,1,.ref b,rfl,rfl,t3,rfl,.inl ⟨rfl,_,SqL.of b3⟩,by show 0<=Kg;decide,fun c hc=>?_⟩
 have ncb:c≠b:=fun y=>by
  have hc':upd H2 a (.lst (xs++[w])) c=none:=hc
  rw [y,b3] at hc';cases hc'
 refine ⟨b,_,.ref c,rfl,rfl,by rw [zh (Ne.symm ncb)];exact b3,?_,?_⟩
 ·rw [Qe,Qg,hrs.len];exact ht.2
 have hc':upd H2 a (.lst (xs++[w])) c=none:=hc
 have s3:zO H (upd (upd (upd H2 a (.lst (xs++[w]))) c (.lst [])) b (.lst ((a::as).map V.ref++[.ref c]))):=fun n o q=>by
  have n1:n≠b:=fun y=>by rw [y,h1] at q;cases q
  have n2:n≠a:=fun y=>by rw [y,h2 a Qj] at q;cases q
  have n3:upd H2 a (.lst (xs++[w])) n=some o:=by rw [zh n2];exact s2 _ _ (g5 _ _ q)
  rw [zh n1,zh (fun y=>by rw [<- y,n3] at hc';cases hc')];exact n3
 refine hr P9 Ua σ1 _ _ o E ?_ qb kk
 have m1:=(g1.forget (i:=i) (v:=some (.ref p)) (by simp)).up s3
 rw [g2,g3,List.set_set]
 exact m1
end
theorem kit2 {K:KC}:∀ n∈("NoneType"::jF),PySem.W.kitAny K (.type n) [.type "tuple",.type "list"]=some (n == "tuple"||n == "list"):=by
 intro n h
 simp only [jF,Qa,Qi,or_false] at h
 rcases h with rfl | rfl | rfl | rfl | rfl | rfl | rfl <;> kernel_rfl
abbrev rIsi2 (K:KC):List V->Hp->VK->Prop:=fun xs H Q=>∃ x n tp,xs=[x,.ref tp]/\SqT K H tp [.ty "tuple",.ty "list"]/\TyN K H x n/\Q (.bl (n == "tuple"||n == "list")) H
theorem call_isi2 {X:Cx}:Yp X (.builtin "isinstance") (rIsi2 X.K):=by
 intro KJ s σ H xs us Q I r h
 obtain ⟨x,n,tp,rfl,ht,hn,q⟩:=h
 obtain ⟨u,u',rfl,ru,ru'⟩:=vals2 r
 obtain rfl:u'=Value.ref tp:=ru'
 have fin:∀ tk,EP X KJ σ Q (.bool (n == "tuple"||n == "list")) { s with toks:=tk }:=fun tk=>⟨.bl _,H,I.tok tk,rfl,q⟩
 have nm:n∈("NoneType"::jF):=by
  cases x with
  | non=>cases (show n=_ from hn);decide
  | bl b=>cases (show n=_ from hn);decide
  | int b=>cases (show n=_ from hn);decide
  | str b=>cases (show n=_ from hn);decide
  | ref p=>rcases hn with ⟨rfl,_⟩ | ⟨rfl,_⟩ | ⟨rfl,_⟩ <;> decide
  | _=>exact (show False from hn).elim
 have hk:=kit2 (K:=X.K) n nm
 obtain ⟨js,rj,⟨o,q1,q2,m,q3⟩,_⟩:=I.tuple ht
 obtain ⟨j1,j2,rfl,r1,r2⟩:=vals2 rj
 obtain rfl:j1=Value.type "tuple":=r1
 obtain rfl:j2=Value.type "list":=r2
 obtain ⟨oc,od,dt,sl⟩:=o
 dsimp only at q2 q3
 subst q2 q3
 cases x with
 | non=>cases (show n=_ from hn);cases (show u=Value.none from ru);exact PySem.W.kia_tup PySem.W.kitx_none I.kIn True.intro q1 hk (fun z=>nomatch z) fin
 | bl b=>cases (show n=_ from hn);cases (show u=Value.bool b from ru);exact PySem.W.kia_tup PySem.W.kitx_bool I.kIn True.intro q1 hk (fun z=>nomatch z) fin
 | int b=>cases (show n=_ from hn);obtain ⟨t,rfl⟩:=ru;exact PySem.W.kia_tup PySem.W.kitx_int I.kIn True.intro q1 hk (fun z=>nomatch z) fin
 | str b=>cases (show n=_ from hn);obtain ⟨t,rfl⟩:=ru;exact PySem.W.kia_tup PySem.W.kitx_str I.kIn True.intro q1 hk (fun z=>nomatch z) fin
 | ref p =>
  obtain rfl:u=Value.ref p:=ru
  rcases hn with ⟨rfl,xs,hq⟩ | ⟨rfl,xs,hq⟩ | ⟨rfl,KO,hk'⟩
  ·obtain ⟨KP,_,pl,_⟩:=I.list hq
   obtain ⟨o,e,c⟩:=pl.isList.typeIs
   exact PySem.W.kia_tup PySem.W.kitx_list I.kIn ⟨o,e,c⟩ q1 hk (fun z=>nomatch z) fin
  ·obtain ⟨KP,_,pl,_⟩:=I.tuple hq
   obtain ⟨o,e,c⟩:=pl.typeIs
   exact PySem.W.kia_tup PySem.W.kitx_tuple I.kIn ⟨o,e,c⟩ q1 hk (fun z=>nomatch z) fin
  ·obtain ⟨_,_,_,_,o,_,_,e,ex,_⟩:=I.hok p _ hk'
   exact PySem.W.kia_tup PySem.W.kitx_dict I.kIn ⟨o,e,ex.1⟩ q1 hk (fun z=>nomatch z) fin
 | _=>exact (show False from hn).elim
def gIsi2 (d:D):Option D:=match yu "tuple" d with
 | some _=>some (.bl (tyD d == "tuple"||tyD d == "list"))
 | none=>none
section
variable {X:Cx} {st:Bool} {os:List Nat} {a b:Kv} {ta tb:TE} {fa fb:Ev->Option D} {pos p:KB}
theorem se_isi2 {p1 p2 p3:KB} {k:Nat} (hg:Gl X "isinstance") (hm:X.mg "isinstance"=none) (hm2:X.mg "tuple"=none) (hm3:X.mg "list"=none) (ha:SE X false os a ta fa) (hg2:Gl X "tuple":=by rfl) (hg3:Gl X "list":=by rfl)
  (h1:Ke [a,.Tuple [.Name "tuple" p1,.Name "list" p2] k p3] X.env=(false,Kz a X.env)::Ke [.Tuple [.Name "tuple" p1,.Name "list" p2] k p3] X.env:=by rfl) (h2:Ke [.Tuple [.Name "tuple" p1,.Name "list" p2] k p3] X.env=(false,Kz (.Tuple [.Name "tuple" p1,.Name "list" p2] k p3) X.env)::Ke [] X.env:=by rfl) (hpl:(Kq pos (Ke [.Tuple [.Name "tuple" p1,.Name "list" p2] k p3] X.env)).any (·.1)=false:=by rfl)
  (h3:Ke [.Name "tuple" p1,.Name "list" p2] X.env=(false,Kz (.Name "tuple" p1) X.env)::Ke [.Name "list" p2] X.env:=by rfl) (h4:Ke [.Name "list" p2] X.env=(false,Kz (.Name "list" p2) X.env)::Ke [] X.env:=by rfl) {K':KC} (hK:X.K=K':=by rfl) :
  SE X st os (.Call (.Name "isinstance" p) [a,.Tuple [.Name "tuple" p1,.Name "list" p2] k p3] [] pos) (tCB (rIsi2 K') (zD ta (zD (Wv (zD (tC (.ty "tuple")) (zD (tC (.ty "list")) zW))) zW))) (f1 gIsi2 fa):=by
 subst hK
 exact ⟨ZW call_isi2 hg hm PyProof.Rows.boot_isinstance (zv ha.pe (zv (jr (zv (pe_bltn (v:=.ty "tuple") hg2 hm2 PyProof.Rows.boot_tuple rfl (by decide) (by decide)) (zv (pe_bltn (v:=.ty "list") hg3 hm3 PyProof.Rows.boot_list rfl (by decide) (by decide)) zz h4) h3)) zz h2) h1) (by decide) (by decide) h1 hpl,fun P9 Ua σ H ρ d Q m q k=>by
  obtain ⟨x,h1,h2⟩:=ze q
  unfold gIsi2 at h2
  split at h2
  case h_2=>cases h2
  rename_i hi
  cases h2
  obtain ⟨h3,_⟩:=gIsi_ hi
  refine ha.ok P9 Ua σ H ρ x _ m h1 fun v H1 s1 r1=>⟨by show 2<=Kg;decide,fun tp ht=>?_⟩
  have s2:zO H1 (upd H1 tp (.tup [.ty "tuple",.ty "list"])):=zB ht
  exact ⟨v,tyD x,tp,rfl,SqT.of zm,tyN h3 (Rep.up s2 r1),k _ _ (s1.trans s2) YU⟩⟩
def asE2:D->D->Option (List D×List D)
 | .lst a,.lst b=>some (a,b)
 | .tup a,.tup b=>some (a,b)
 | _,_=>none
def fZipA (fa fb:Ev->Option D):Ev->Option (List D):=fun ρ=>(fa ρ).bind fun x=>(fb ρ).bind fun y=>(asE2 x y).map fun r=>zipD r.1 r.2
theorem si_zipA {elts:List Kv} {kk:Nat} {pp:KB} (hg:Gl X "zip") (hm:X.mg "zip"=none) (ha:SE X true os a ta fa) (hb:SE X true os b tb fb) (h1:Ke [a,b] X.env=(false,Kz a X.env)::Ke [b] X.env:=by rfl) (h2:Ke [b] X.env=(false,Kz b X.env)::Ke [] X.env:=by rfl)
  (hs:Ke [a,b] X.env=[(false,Kz a X.env),(false,Kz b X.env)]:=by rfl) (hs2:Ke [b] X.env=[(false,Kz b X.env)]:=by rfl) {K':KC} (hK:X.K=K':=by rfl) :
  SI X true os (.Tuple elts kk pp) (.Call (.Name "zip" p) [a,b] [] pos) (iOr (iZip true true K' (zD ta (zD tb zW))) (iZip false false K' (zD ta (zD tb zW)))) (fZipA fa fb):=by
 have u:=si_zip (elts:=elts) (kk:=kk) (pp:=pp) (p:=p) (pos:=pos) hg hm (SE.sn (k:=true) ha) (SE.sn (k:=true) hb) h1 h2 hs hs2 hK
 have v:=si_zip (elts:=elts) (kk:=kk) (pp:=pp) (p:=p) (pos:=pos) hg hm (SE.sn (k:=false) ha) (SE.sn (k:=false) hb) h1 h2 hs hs2 hK
 refine ⟨fun KJ s σ H R I w=>w.elim (u.pi KJ s σ H R I) (v.pi KJ s σ H R I),fun P9 Ua σ H ρ ds R m q kk=>?_⟩
 obtain ⟨x,q1,q⟩:=ze q
 obtain ⟨y,q2,q⟩:=ze q
 obtain ⟨⟨xs,ys⟩,q3,rfl⟩:=map_some q
 cases x <;> cases y <;> simp only [asE2] at q3 <;> cases q3
 ·exact .inr (v.ok P9 Ua σ H ρ _ R m (by simp [fZip,zk,q1,q2,asK]) kk)
 ·exact .inl (u.ok P9 Ua σ H ρ _ R m (by simp [fZip,zk,q1,q2,asK]) kk)
theorem se_lenA (hg:Gl X "len") (hm:X.mg "len"=none) (ha:SE X true os a ta fa) (h1:Ke [a] X.env=(false,Kz a X.env)::Ke [] X.env:=by rfl) (hpl:(Kq pos (Ke [] X.env)).any (·.1)=false:=by rfl) {K':KC} (hK:X.K=K':=by rfl) :
  SE X st os (.Call (.Name "len" p) [a] [] pos) (tCB (fun xs H Q=>∃ p ys,xs=[.ref p]/\(SqL K' H p ys\/SqT K' H p ys)/\Q (.int ys.length) H) (zD ta zW)) (fA yP (fAny fa)):=by
 subst hK
 exact ⟨ZW ZK hg hm PySem.boot_len (zv ha.pe zz h1) (by decide) (by decide) h1 hpl,fun P9 Ua σ H ρ d Q m q k=>by
  obtain ⟨ds,q1,q2⟩:=ze q
  obtain ⟨x,q3,q4⟩:=ze q1
  cases q2
  refine ha.ok P9 Ua σ H ρ x _ m q3 fun v H1 s1 r1=>?_
  cases x <;> simp only [asE] at q4 <;> cases q4
  ·have r:Rep X.K H1 (Bl Ua os σ) (.tup ds) v:=r1
   simp only [Rep] at r
   obtain ⟨q,xs,rfl,hq,hr⟩:=r
   exact ⟨q,xs,rfl,.inr hq,k _ H1 s1 (by rw [hr.length];exact Zz)⟩
  ·have r:Rep X.K H1 (Bl Ua os σ) (.lst ds) v:=r1
   simp only [Rep] at r
   obtain ⟨q,xs,rfl,hq,hr⟩:=r
   exact ⟨q,xs,rfl,.inl hq.sq,k _ H1 s1 (by rw [hr.length];exact Zz)⟩
  ·rename_i ns
   have r:Rep X.K H1 (Bl Ua os σ) (.scr ns) v:=r1
   simp only [Rep] at r
   obtain ⟨q,rfl,hq⟩:=r
   exact ⟨q,_,rfl,.inl hq.sq,k _ H1 s1 (by rw [Qe,Qe];exact Zz)⟩⟩
theorem se_glStr {x y:Kw} (hm:∃ tk,X.mg x=some (.str y tk)) (hg:Gl X x:=by rfl) (hd:(x == ("__debug__":Kw))=false:=by decide):SE X st os (.Name x pos) (tC (.str y)) (fC (.str y)):=by
 obtain ⟨tk,hm⟩:=hm
 exact se_globStr hg hm hd
theorem SI.weak {s:Bool} {tg iter:Kv} {wi:TI} {fi:Ev->Option (List D)} (h:SI X true os tg iter wi fi):SI X s os tg iter wi fi:=⟨h.pi,fun P9 Ua σ H ρ ds R m q kk=>h.ok P9 Ua σ H ρ ds R m q fun J H' ok s1 W up mv o=>kk J H' ok s1 W up (fun _=>mv rfl) o⟩
end
theorem gs_mk {mg:Kw->Option Ka} {x y:Kw} {tk:Tok} (h:mg x=some (.str y tk)):∃ tk,mg x=some (.str y tk):=⟨tk,h⟩
section
variable {X:Cx} {C:Kc}
theorem row_mk {sts:List Kx} {e1 e2 e3 e4 x2 x5:Kv} {c1 c2 c3 c4:TT} {t2 t5:TE} {g1 g2 g3 g4:Ev->Option Bool} {f2 f5:Ev->Option D} (h1:SB X [] e1 c1 g1) (h2:SB X [] e2 c2 g2) (h3:SB X [] e3 c3 g3) (h4:SB X [] e4 c4 g4) (k2:SE X true [] x2 t2 f2) (k5:SE X true [] x5 t5 f5)
  (hp:PT X e1 c1->PT X e2 c2->PT X e3 c3->PT X e4 c4->PE X x2 t2->PE X x5 t5->PSs X sts (tRow X.K C c1 c2 c3 c4 t2 t5)):∃ t,PSs X sts t/\RdOk X.K C ["self","words"] t (rRow g1 g2 g3 g4 f2 f5) :=
 ⟨_,hp h1.pt h2.pt h3.pt h4.pt k2.pe k5.pe,rd_row h1.ok h2.ok h3.ok h4.ok k2.ok k5.ok⟩
theorem read_mk {sts:List Kx} {e1 e6 e7 e8 tg it:Kv} {s2:Kx} {mA:List D->Option D} {mR:Rst->List D->Option Rst} {te1 te6 te7 te8:TE} {t2:TS} {wi:TI} {f1 f6 f7 f8:Ev->Option D} {m2:Ev->Option Out} {fi:Ev->Option (List D)} (h1:SE X false [] e1 te1 f1) (h2:SS X false [] [] [] s2 t2 m2) (hi:SI X true [] tg it wi fi) (h6:SE X false [] e6 te6 f6) (h7:SE X true [] e7 te7 f7) (h8:SE X false [] e8 te8 f8)
  (hp:PE X e1 te1->PS X s2 t2->PI X tg it wi->PE X e6 te6->PE X e7 te7->PE X e8 te8->PSs X sts (tRead X.K C mA mR te1 t2 wi te6 te7 te8)) :
  ∃ te1 t2 wi te6 te7 te8,PSs X sts (tRead X.K C mA mR te1 t2 wi te6 te7 te8)/\EOk X.K false [] te1 f1/\SOk X.K false [] [] [] t2 m2/\IOk X.K true [] wi fi/\EOk X.K false [] te6 f6/\EOk X.K true [] te7 f7/\EOk X.K false [] te8 f8 :=
 ⟨_,_,_,_,_,_,hp h1.pe h2.ps hi.pi h6.pe h7.pe h8.pe,h1.ok,h2.ok,hi.ok,h6.ok,h7.ok,h8.ok⟩
variable {fr:Bool} {i:Nat} {os' ol:List Nat} {Zg:List Kx} {t:TS} {m:Ev->Option Out} {pos pos2:KB}
theorem xr_app {x:Kw} {e:Kv} {te:TE} {f:Ev->Option D} {p p' apos cpos ap' cp' i1 i2 i3 k1 k2 k3 lp:KB} {d1 d2 d3:Nat} (h:SE X true [] e te f) (hr:SSs X fr [] os' ol Zg t m) (hN:X.N[i]?=some x:=by rfl) (hv:Vis X.env.scope x:=by first | exact Or.inl rfl | exact Or.inr (Or.inl rfl) | exact Or.inr (Or.inr rfl)) (hd:(x == ("__debug__":Kw))=false:=by decide)
  (hcd:(x == ("__classdict__":Kw))=false:=by decide) (hs1:Ke [e] X.env=(false,Kz e X.env)::Ke [] X.env:=by rfl)
  (hbase:Kp (.Subscript (.Subscript (.Name x p) (.Constant (.int 1) d1 k1) i1) (.Constant (.int 0) d2 k2) i2) "append" X.env (Kz (.Subscript (.Subscript (.Name x p) (.Constant (.int 1) d1 k1) i1) (.Constant (.int 0) d2 k2) i2) X.env)=Kz (.Subscript (.Subscript (.Name x p) (.Constant (.int 1) d1 k1) i1) (.Constant (.int 0) d2 k2) i2) X.env:=by rfl)
  (hfew:((Kq cpos (Ke [e] X.env)).all (fun x=>!x.1)&&(Kr cpos (Ks [] X.env)).all (fun x=>x.1.isSome)
   && decide ([e].length+([]:List Keyword).length+(if ([]:List Keyword).isEmpty then 0 else 1)<30))=true:=by rfl)
  (hline:(apos.endLine == cpos.line)=true:=by rfl) (hplain:(Kq cpos (Ke [] X.env)).any (·.1)=false:=by rfl) (hs:Kt (.Call (.Attribute (.Subscript (.Subscript (.Name x p) (.Constant (.int 1) d1 k1) i1) (.Constant (.int 0) d2 k2) i2) "append" apos) [e] [] cpos) none pos.line X.env=pure false:=by rfl)
  (hs2:Ke [.List [] lp] X.env=(false,Kz (.List [] lp) X.env)::Ke [] X.env:=by rfl)
  (hbase2:Kp (.Subscript (.Name x p') (.Constant (.int 1) d3 k3) i3) "append" X.env (Kz (.Subscript (.Name x p') (.Constant (.int 1) d3 k3) i3) X.env)=Kz (.Subscript (.Name x p') (.Constant (.int 1) d3 k3) i3) X.env:=by rfl)
  (hfew2:((Kq cp' (Ke [.List [] lp] X.env)).all (fun x=>!x.1)&&(Kr cp' (Ks [] X.env)).all (fun x=>x.1.isSome)
   && decide ([(Expr.List [] lp)].length+([]:List Keyword).length+(if ([]:List Keyword).isEmpty then 0 else 1)<30))=true:=by rfl)
  (hline2:(ap'.endLine == cp'.line)=true:=by rfl) (hplain2:(Kq cp' (Ke [] X.env)).any (·.1)=false:=by rfl) (hss2:Kt (.Call (.Attribute (.Subscript (.Name x p') (.Constant (.int 1) d3 k3) i3) "append" ap') [.List [] lp] [] cp') none pos2.line X.env=pure false:=by rfl) :
  XR X fr i os' ol (.Expr (.Call (.Attribute (.Subscript (.Subscript (.Name x p) (.Constant (.int 1) d1 k1) i1) (.Constant (.int 0) d2 k2) i2) "append" apos) [e] [] cpos) pos::.Expr (.Call (.Attribute (.Subscript (.Name x p') (.Constant (.int 1) d3 k3) i3) "append" ap') [.List [] lp] [] cp') pos2::Zg) (tXR2 X.K i te t) (mXR2 i f m) :=
 ⟨zJ (zX (Yz KI PySem.F.slot_list_append PySem.F.type_list_append Z5 (Y6 Ys (Y6 ix_tup (pv i hN hv hd hcd) ZC (fun _ _=>rfl)) ZC (fun _ _=>rfl)) (zv h.pe zz hs1) hbase hfew hline hs1 hplain) hs)
  (zJ (zX (Yz KI PySem.F.slot_list_append PySem.F.type_list_append Z5 (Y6 ix_tup (pv i hN hv hd hcd) ZC (fun _ _=>rfl)) (zv (yn zz) zz hs2) hbase2 hfew2 hline2 hs2 hplain2) hss2) hr.ps),xr_ok h.ok hr.ok⟩
theorem ss_kr {x x':Kw} {k:Nat} {ps:List Kw} {mf:List D->Option D} {e:Kv} {es:List Kv} {tl:TA} {fl:Ev->Option (List D)} {p pos' pc:KB} (hN:X.N.Nodup) (G:Kn X.prog X.w X.K X.mg X.base x k ps (spRd X.K mf)) (hr:Room k X.A) (hrest:XR X fr i os' ol Zg t m) (ha:SA X true [] (e::es) tl fl) (hi:X.N[i]?=some x':=by rfl) (hx:Loc X.env.scope x':=by first | exact Or.inl rfl | exact Or.inr rfl) (hg:Gl X x:=by rfl)
  (hdb:(x == ("__debug__":Kw))=false:=by decide) (he:Ke (e::es) X.env=(false,Kz e X.env)::Ke es X.env:=by rfl) (hpl:(Kq pc (Ke es X.env)).any (·.1)=false:=by rfl)
  (hsw:Kt (.Call (.Name x p) (e::es) [] pc) (some (.Name x' pos')) pos.line X.env=pure false:=by rfl) (hf:X.fn x'=true\/X.env.scope.names.lookup x'=some .local:=by first | exact .inl rfl | exact .inr rfl | assumption) :
  SSs X fr [] os' ol (.Assign [.Name x' pos'] (.Call (.Name x p) (e::es) [] pc) pos::Zg) (Z8 (yQ (wz (spRd X.K mf) [] E0 tl) (ZA i)) t) (mXL i mf fl m):=by
 obtain ⟨f,fd,F,hm,hk,hb⟩:=G
 exact ⟨zJ (yY hN hi hx (Wk F hr hg hm hk hb .nil WU ha.pa hdb he hpl) hsw hf) hrest.ps,fun P9 Ua σ H ρ o E mm q kk=>by
  obtain ⟨ds,q1,qa⟩:=ze q
  obtain ⟨d,q2,qb⟩:=ze qa
  split at qb
  case isFalse=>cases qb
  rename_i hil
  refine ha.ok P9 Ua σ H ρ ds _ mm q1 fun vs H1 s1 r1=>?_
  rw [QT]
  have m1:=mm.up s1
  have r1':zr X.K H1 (Bl Ua [] σ) ds vs:=r1
  rw [y7] at r1'
  refine ⟨Ua,ds,d,m1.blk,r1',q2,fun v H2 s2 hT=>?_⟩
  have rv:=hT.rep m1.blk
  have m2:=(m1.up s2).put (i:=i) (os':=[]) (d:=d) (v:=v) (fun _ z=>nomatch z) (fun _ z=>nomatch z) (by rw [y7];exact rv)
  exact hrest.ok P9 Ua _ H2 _ o E m2 ⟨σ,H1,ρ,v,d,m1,rfl,rfl,hil,s2,hT⟩ qb kk⟩
end
end M
namespace EV
open PySem L2 M
open PySem.W (Frag)
def bq1:Ev->Option Out :=
  (zR (yH (f1 (yu "tuple") (zc 0)) (f2 Ze (fA yP (zk false (zc 0))) (zc 1))))
def mq1:List D->Option D:=ZE 2 2 bq1
def bq2:Ev->Option Out :=
  (zR (yH (f1 (yu "int") (zc 0)) (yH (fNotV (f1 (yu "bool") (zc 0))) (y2 dLe dLe (zc 1) (zc 0) (zc 2)))))
def mq2:List D->Option D:=ZE 3 3 bq2
def bq5:Ev->Option Out :=
  (zE (mIf (jd (zw (fA mq1 (za (zc 0) (za (f2 yo (zc 1) (fC (.int 1))) zi)))))
  (zR (fC (.bl false)))
  zV)
  (zR (fA jc (zk true (Zs 1 (zk false (zc 0)) (zI 2) Z2 (fA mq2 (za (zc 2) (za (f1 wX (fC (.int 999999))) (za (fC (.int 999999)) zi)))))))))
def mq5:List D->Option D:=ZE 2 2 bq5
def bq3 (r_are_rows r_is_row:List D->Option D):Ev->Option Out :=
  (zR (yH (f1 (yu "list") (zc 0)) (fA jc (zk true (Zs 1 (zk true (zc 0)) (zI 4) Z2 (fA r_is_row (za (zc 4) (za (zc 1) (za (zc 2) (za (zc 3) zi))))))))))
def bq4 (r_are_rows r_is_row:List D->Option D):Ev->Option Out :=
  (zE (mIf (fOr (jd (zw (f1 (yu "tuple") (zc 0)))) (zw (f2 Ze (fA yP (zk false (zc 0))) (fC (.int 0)))))
  (zR (fC (.bl false)))
  zV)
  (zE (Zj 4 (fIx (zk false (zc 0)) (fC (.int 0))))
  (zE (mIf (zw (f2 Ze (zc 4) (fC (.str "set"))))
  (zR (yH (fA mq1 (za (zc 0) (za (fC (.int 3)) zi))) (yH (fA mq2 (za (fIx (zk false (zc 0)) (fC (.int 1))) (za (fC (.int 0)) (za (f2 wu (zc 1) (fC (.int 1))) zi)))) (fA mq5 (za (fIx (zk false (zc 0)) (fC (.int 2))) (za (zc 1) zi))))))
  zV)
  (zE (mIf (zw (f2 Ze (zc 4) (fC (.str "take"))))
  (zR (yH (fA mq1 (za (zc 0) (za (fC (.int 2)) zi))) (fA mq2 (za (fIx (zk false (zc 0)) (fC (.int 1))) (za (fC (.int 0)) (za (f2 wu (zc 1) (fC (.int 1))) zi))))))
  zV)
  (zE (mIf (fOr (zw (f2 Ze (zc 4) (fC (.str "skip")))) (zw (f2 Ze (zc 4) (fC (.str "halt")))))
  (zR (fA mq1 (za (zc 0) (za (fC (.int 1)) zi))))
  zV)
  (zE (mIf (zw (f2 Ze (zc 4) (fC (.str "either"))))
  (zR (yH (fA mq1 (za (zc 0) (za (fC (.int 3)) zi))) (fA jc (zk true (Zs 1 (zk false (wM (zk false (zc 0)) (yv (fC (.int 1))) fNo)) (zI 5) Z2 (fA r_are_rows (za (zc 5) (za (zc 1) (za (zc 2) (za (zc 3) zi))))))))))
  zV)
  (zE (mIf (zw (f2 Ze (zc 4) (fC (.str "loop"))))
  (zR (yH (fA mq1 (za (zc 0) (za (fC (.int 2)) zi))) (fA r_are_rows (za (fIx (zk false (zc 0)) (fC (.int 1))) (za (zc 1) (za (zc 2) (za (zc 3) zi)))))))
  zV)
  (zE (mIf (zw (f2 Ze (zc 4) (fC (.str "call"))))
  (zR (yH (fA mq1 (za (zc 0) (za (fC (.int 2)) zi))) (fA mq2 (za (fIx (zk false (zc 0)) (fC (.int 1))) (za (zc 2) (za (zc 3) zi))))))
  zV)
  (zR (fC (.bl false)))))))))))
def Rq3:Nat->(List D->Option D)×(List D->Option D)
 | 0=>((fun _=>none),(fun _=>none))
 | n+1=>(ZE 4 4 (bq3 ((Rq3 n).1) ((Rq3 n).2)),ZE 4 5 (bq4 ((Rq3 n).1) ((Rq3 n).2)))
def mq3:List D->Option D:=(Rq3 60).1
def bq7:Ev->Option Out :=
  (zR (Zs 1 (zk false (zc 0)) (zI 1) (zw (f1 (yu "list") (zc 1))) (zc 1)))
def mq7:List D->Option D:=ZE 1 1 bq7
def bq8 (r_new_places r_new_places_of_row:List D->Option D):Ev->Option Out :=
  (zR (fA gg (zk true (Zs 1 (zk true (zc 0)) (zI 2) Z2 (fA r_new_places_of_row (za (zc 2) (za (zc 1) zi)))))))
def bq9 (r_new_places r_new_places_of_row:List D->Option D):Ev->Option Out :=
  (zE (mIf (zw (f2 Ze (fIx (zk false (zc 0)) (fC (.int 0))) (fC (.str "call"))))
  (zR (f2 dGet (zc 1) (fIx (zk false (zc 0)) (fC (.int 1)))))
  zV)
  (zR (f2 yo (fC (.int 1)) (fA gg (zk true (Zs 1 (zk true (fA mq7 (za (zc 0) zi))) (zI 2) Z2 (fA r_new_places (za (zc 2) (za (zc 1) zi)))))))))
def Rq8:Nat->(List D->Option D)×(List D->Option D)
 | 0=>((fun _=>none),(fun _=>none))
 | n+1=>(ZE 2 2 (bq8 ((Rq8 n).1) ((Rq8 n).2)),ZE 2 2 (bq9 ((Rq8 n).1) ((Rq8 n).2)))
def mq8:List D->Option D:=(Rq8 60).1
def bq10 (r_depth r_depth_of_row:List D->Option D):Ev->Option Out :=
  (zR (fA (Jo 0) (zk true (Zs 1 (zk true (zc 0)) (zI 2) Z2 (fA r_depth_of_row (za (zc 2) (za (zc 1) zi)))))))
def bq11 (r_depth r_depth_of_row:List D->Option D):Ev->Option Out :=
  (zE (mIf (zw (f2 Ze (fIx (zk false (zc 0)) (fC (.int 0))) (fC (.str "call"))))
  (zR (fA gMax2 (za (fC (.int 1)) (za (f2 dGet (zc 1) (fIx (zk false (zc 0)) (fC (.int 1)))) zi))))
  zV)
  (zR (f2 yo (fC (.int 1)) (fA (Jo 0) (zk true (Zs 1 (zk true (fA mq7 (za (zc 0) zi))) (zI 2) Z2 (fA r_depth (za (zc 2) (za (zc 1) zi)))))))))
def yT:Nat->(List D->Option D)×(List D->Option D)
 | 0=>((fun _=>none),(fun _=>none))
 | n+1=>(ZE 2 2 (bq10 ((yT n).1) ((yT n).2)),ZE 2 2 (bq11 ((yT n).1) ((yT n).2)))
def mq10:List D->Option D:=(yT 60).1
def bq6:Ev->Option Out :=
  (zE (mNew 1 (fC (.dict [] [])))
  (zE (mNew 2 (fC (.dict [] [])))
  (zE (mFor (gh (f2 wu (fA yP (zk true (zc 0))) (fC (.int 1))) (f1 wX (fC (.int 1)))) (zI 3)
  (zE (mDPut 1 (zc 3) (yw (fA mq8 (za (fIx (zk true (zc 0)) (zc 3)) (za (zc 1) zi)))))
  (zE (mDPut 2 (zc 3) (yw (fA mq10 (za (fIx (zk true (zc 0)) (zc 3)) (za (zc 2) zi)))))
  (mIf (fOr (zw (f2 dGt (f2 yo (f2 dGet (zc 1) (zc 3)) (fC (.int 1))) (fC (.int 40)))) (zw (f2 dGt (f2 dGet (zc 2) (zc 3)) (fC (.int 6)))))
  (zR (fC (.bl false)))
  zV))))
  (zR (fC (.bl true))))))
def mq6:List D->Option D:=ZE 1 4 bq6
def bq0:Ev->Option Out :=
  (zE (mIf (jd (zw (fA mq1 (za (zc 0) (za (fC (.int 2)) zi)))))
  (zR (fC (.bl false)))
  zV)
  (zE (Zj 1 (fIx (zk false (zc 0)) (fC (.int 0))))
  (zE (Zj 2 (fIx (zk false (zc 0)) (fC (.int 1))))
  (zE (mIf (fOr (jd (zw (fA mq2 (za (zc 1) (za (fC (.int 0)) (za (fC (.int 6)) zi)))))) (jd (zw (f1 (yu "list") (zc 2)))))
  (zR (fC (.bl false)))
  zV)
  (zE (mIf (jd (zw (y2 dLe dLe (fC (.int 1)) (fA yP (zk true (zc 2))) (fC (.int 4)))))
  (zR (fC (.bl false)))
  zV)
  (zE (mFor (fEnum (zk true (zc 2))) (uTup (Jk (zI 3) (Jk (zI 4) uNil)))
  (mIf (jd (zw (fA mq3 (za (zc 4) (za (zc 1) (za (f2 yo (zc 3) (fC (.int 1))) (za (f2 wu (fA yP (zk true (zc 2))) (fC (.int 1))) zi)))))))
  (zR (fC (.bl false)))
  zV))
  (zR (fA mq6 (za (zc 2) zi)))))))))
def mq0:List D->Option D:=ZE 1 5 bq0
def bq17:Ev->Option Out :=
  (zR (gi (fC (.str " ")) (zk true (Yl (fL (Za (za (zc 0) zi))) (fL (Zs 1 (fAny (zc 1)) (zI 2) Z2 (fA jI (za (zc 2) zi))))))))
def mq17:List D->Option D:=ZE 2 2 bq17
def bq15 (r_texts_of_rows r_texts_of_row:List D->Option D):Ev->Option Out :=
  (zE (mNew 1 (Za zi))
  (zE (mFor (zk true (zc 0)) (zI 2)
  (mExt 1 (fA r_texts_of_row (za (zc 2) zi))))
  (zR (zc 1))))
def bq16 (r_texts_of_rows r_texts_of_row:List D->Option D):Ev->Option Out :=
  (zE (mIf (zw (f2 Ze (fIx (zk false (zc 0)) (fC (.int 0))) (fC (.str "either"))))
  (zR (Yl (fL (Yl (fL (Yl (fL (Yl (fL (Za (za (fC (.str "either")) zi))) (fL (fA r_texts_of_rows (za (fIx (zk false (zc 0)) (fC (.int 1))) zi))))) (fL (Za (za (fC (.str "or")) zi))))) (fL (fA r_texts_of_rows (za (fIx (zk false (zc 0)) (fC (.int 2))) zi))))) (fL (Za (za (fC (.str "end")) zi)))))
  zV)
  (zE (mIf (zw (f2 Ze (fIx (zk false (zc 0)) (fC (.int 0))) (fC (.str "loop"))))
  (zR (Yl (fL (Yl (fL (Za (za (fC (.str "loop")) zi))) (fL (fA r_texts_of_rows (za (fIx (zk false (zc 0)) (fC (.int 1))) zi))))) (fL (Za (za (fC (.str "end")) zi)))))
  zV)
  (zE (mIf (zw (f2 Ze (fIx (zk false (zc 0)) (fC (.int 0))) (fC (.str "set"))))
  (zR (Za (za (fA mq17 (za (fC (.str "set")) (za (gj (ZO (za (fIx (zk false (zc 0)) (fC (.int 1))) zi)) (fIx (zk false (zc 0)) (fC (.int 2)))) zi))) zi)))
  zV)
  (zR (Za (za (fA mq17 (za (fIx (zk false (zc 0)) (fC (.int 0))) (za (wM (zk false (zc 0)) (yv (fC (.int 1))) fNo) zi))) zi))))))
def yS:Nat->(List D->Option D)×(List D->Option D)
 | 0=>((fun _=>none),(fun _=>none))
 | n+1=>(ZE 1 3 (bq15 ((yS n).1) ((yS n).2)),ZE 1 1 (bq16 ((yS n).1) ((yS n).2)))
def mq15:List D->Option D:=(yS 60).1
def bq12:Ev->Option Out :=
  (zE (mNew 1 (Za (za (fA mq17 (za (fC (.str "boxes")) (za (Za (za (fIx (zk false (zc 0)) (fC (.int 0))) zi)) zi))) zi)))
  (zE (mFor (zk true (fIx (zk false (zc 0)) (fC (.int 1)))) (zI 2)
  (zE (mUpd 1 yA (fC (.str "body")))
  (mExt 1 (fA mq15 (za (zc 2) zi)))))
  (zR (gi (fC (.str "; ")) (zk true (zc 1))))))
def mq12:List D->Option D:=ZE 1 3 bq12
def bq14:Ev->Option Out :=
  (mIf (jd (zw (zc 0)))
  mNever
  zV)
def wT:List D->Option D:=ZE 1 1 bq14
def bq18:Ev->Option Out :=
  (zE (Zj 1 (fIf (zw (f2 YO (zc 0) (fC (.str "-")))) (fCutS (zc 0) (yv (fC (.int 1))) fNo) (zc 0)))
  (zE (mIf (fOr (jd (zw (y2 dLe dLe (fC (.int 1)) (fA gLenS (za (zc 1) zi)) (fC (.int 60))))) (jd (zw (fA jc (zk true (Zs 1 (fSigns (zc 1)) (zI 2) Z2 (yw (f2 dInS (zc 2) (fC (.str "0123456789"))))))))))
  (zR (fC .non))
  zV)
  (zE (mIf (jB (zw (f2 YO (zc 1) (fC (.str "0")))) (zw (f2 je (zc 0) (fC (.str "0")))))
  (zR (fC .non))
  zV)
  (zR (fA gIntT (za (zc 0) zi))))))
def mq18:List D->Option D:=ZE 1 2 bq18
def bq19:Ev->Option Out :=
  (zE (Zj 1 (Zs 1 (zk true (wn .lst (zk true (zc 0)) (yv (fC (.int 1))) fNo)) (zI 2) Z2 (fA mq18 (za (zc 2) zi))))
  (zE (mIf (jB (zw (f2 Ze (fIx (zk true (zc 0)) (fC (.int 0))) (fC (.str "set")))) (zw (f2 dGt (fA yP (zk true (zc 1))) (fC (.int 0)))))
  (zR (ZO (za (fC (.str "set")) (za (fIx (zk true (zc 1)) (fC (.int 0))) (za (fA jA (zk true (wn .lst (zk true (zc 1)) (yv (fC (.int 1))) fNo))) zi)))))
  zV)
  (zR (gj (ZO (za (fIx (zk true (zc 0)) (fC (.int 0))) zi)) (fA jA (zk true (zc 1)))))))
def mq19:List D->Option D:=ZE 1 2 bq19
def ZG:Rst->List D->Option Rst :=
  (rRow (zw (f2 YY (zc 1) (Za (za (fC (.str "body")) zi))))
  (fOr (zw (f2 YY (zc 1) (Za (za (fC (.str "either")) zi)))) (zw (f2 YY (zc 1) (Za (za (fC (.str "loop")) zi)))))
  (zw (f2 YY (zc 1) (Za (za (fC (.str "or")) zi))))
  (zw (f2 YY (zc 1) (Za (za (fC (.str "end")) zi))))
  (fIx (zk true (zc 1)) (fC (.int 0)))
  (fA mq19 (za (zc 1) zi)))
def mq13:List D->Option D:=mDefD 1 5 (mRead ZG (fA wT (za (f1 (yu "str") (zc 0)) zi))
  (Zj 1 (Zs 1 (zk true (f2 YC (zc 0) (fC (.str "; ")))) (zI 5) Z2 (f2 YC (zc 5) (fC (.str " ")))))
  (zk true (wn .lst (zk true (zc 1)) (yv (fC (.int 1))) fNo))
  (fA wT (za (yH (f2 Ze (fA yP (zk true (fIx (zk true (zc 1)) (fC (.int 0))))) (fC (.int 2))) (f2 Ze (fIx (zk true (fIx (zk true (zc 1)) (fC (.int 0)))) (fC (.int 0))) (fC (.str "boxes")))) zi))
  (fA mq18 (za (fIx (zk true (fIx (zk true (zc 1)) (fC (.int 0)))) (fC (.int 1))) zi))
  (fA wT (za (fA mq0 (za (zc 4) zi)) zi)))
def bq20:Ev->Option Out :=
  (zE (mIf (zw (f2 dLt (zc 1) (fA yP (zk true (zc 0)))))
  (zR (fIx (zk true (zc 0)) (zc 1)))
  zV)
  (zE (Zj 2 (f2 yo (f2 jD (zc 1) (fC (.int 7919))) (fC (.int 5))))
  (zE (mIf (zw (f2 dGt (fA yP (zk true (zc 0))) (fC (.int 0))))
  (Zj 2 (f2 Yu (f2 yo (f2 jD (fIx (zk true (zc 0)) (f2 Yu (f2 jD (zc 1) (fC (.int 7))) (fA yP (zk true (zc 0))))) (fC (.int 48271))) (f2 jD (zc 1) (fC (.int 7919)))) (fC (.int 2147483647))))
  zV)
  (zE (Zj 2 (f2 Yu (f2 jD (zc 2) (zc 2)) (fC (.int 2147483629))))
  (zR (f2 Yu (f2 jD (f2 yo (zc 2) (fC (.int 11))) (f2 yo (zc 2) (fC (.int 3)))) (fC (.int 2147483587))))))))
def JR:List D->Option D:=ZE 2 3 bq20
def bq21:Ev->Option Out :=
  (zE (mNew 2 (Za zi))
  (zE (mFor (wL (f2 yo (zc 1) (fC (.int 1)))) (zI 3)
  (zE (Zj 4 (f2 Yu (f2 yo (f2 jD (f2 dDivP (zc 0) (f2 yo (f2 jD (zc 3) (zc 3)) (fC (.int 3)))) (fC (.int 48271))) (f2 jD (zc 3) (fC (.int 69621)))) (fC (.int 2147483647))))
  (zE (Zj 5 (fIx (zk true (Za (za (fC (.int 0)) (za (fC (.int 1)) (za (fC (.int 0)) (za (f1 wX (fC (.int 1))) (za (fC (.int 1)) (za (fC (.int 2)) (za (fC (.int 0)) (za (fC (.int 3)) (za (f1 wX (fC (.int 2))) zi))))))))))) (f2 Yu (zc 4) (fC (.int 9)))))
  (zE (mIf (zw (f2 Ze (f2 Yu (f2 wv (zc 4) (fC (.int 9))) (fC (.int 60))) (fC (.int 7))))
  (zE (Zj 5 (f2 wu (f2 Yu (f2 wv (zc 4) (fC (.int 540))) (fC (.int 1999999))) (fC (.int 999999))))
  (mIf (zw (f2 dGt (zc 3) (fC (.int 0))))
  (Zj 5 (f2 wu (f2 Yu (zc 5) (fC (.int 19))) (fC (.int 9))))
  zV))
  zV)
  (mUpd 2 yA (zc 5))))))
  (zR (fA jA (zk true (zc 2))))))
def mq21:List D->Option D:=ZE 2 6 bq21
def bq22:Ev->Option Out :=
  (zE (Zj 3 (f2 Yu (f2 wv (zc 0) (fC (.int 8))) (fC (.int 13))))
  (zE (mIf (jB (zw (f2 dGt (zc 3) (fC (.int 10)))) (zw (f2 dNeD (zc 2) (Za zi))))
  (zR (yw (fIx (zk true (Zs 1 (zk true (zc 2)) (zI 5) Z2 (ZO (za (fC (.str "call")) (za (fIx (zk false (zc 5)) (fC (.int 0))) zi))))) (f2 Yu (f2 wv (zc 0) (fC (.int 104))) (fA yP (zk true (zc 2)))))))
  zV)
  (zE (mIf (zw (f2 Ze (zc 3) (fC (.int 8))))
  (zR (ZO (za (fC (.str "either")) (za (Za zi) (za (Za zi) zi)))))
  zV)
  (zE (mIf (zw (f2 Ze (zc 3) (fC (.int 9))))
  (zR (ZO (za (fC (.str "loop")) (za (Za zi) zi))))
  zV)
  (zE (mIf (jB (zw (f2 Ze (zc 3) (fC (.int 10)))) (zw (f2 Ze (f2 Yu (f2 wv (zc 0) (fC (.int 104))) (fC (.int 3))) (fC (.int 0)))))
  (zR (yw (ZO (za (fC (.str "halt")) zi))))
  zV)
  (zE (mIf (fOr (zw (f2 Ze (zc 3) (fC (.int 7)))) (zw (f2 Ze (zc 1) (fC (.int 0)))))
  (zR (yw (ZO (za (fC (.str "skip")) zi))))
  zV)
  (zE (Zj 4 (f2 Yu (f2 wv (zc 0) (fC (.int 104))) (zc 1)))
  (zE (mIf (jB (zw (f2 dGt (zc 3) (fC (.int 4)))) (zw (f2 dLt (zc 3) (fC (.int 7)))))
  (zR (yw (ZO (za (fC (.str "take")) (za (zc 4) zi)))))
  zV)
  (zR (yw (ZO (za (fC (.str "set")) (za (zc 4) (za (fA mq21 (za (f2 wv (zc 0) (fC (.int 13))) (za (zc 1) zi))) zi))))))))))))))
def mq22:List D->Option D:=ZE 3 5 bq22
def bq23:Ev->Option Out :=
  (mB15 (fA mq22 (za (zc 8) (za (zc 1) (za (zc 2) zi)))) (fA gg (zk true (Zs 1 (zk true (zc 2)) (zI 11) (jB (zw (f2 Ze (fIx (zk false (zc 9)) (fC (.int 0))) (fC (.str "call")))) (zw (f2 YY (fIx (zk false (zc 11)) (fC (.int 0))) (fIx (zk false (zc 9)) (fC (.int 1)))))) (fIx (zk false (zc 11)) (fC (.int 1)))))) (f2 yo (zc 10) (fA gInt (za (yw (f2 je (fIx (zk false (zc 9)) (fC (.int 0))) (fC (.str "call")))) zi))))
def mq23:List D->Option D:=ZE 5 11 bq23
def bq24:Ev->Option Out :=
  (zE (Zj 4 (Za zi))
  (zE (Zj 5 (Za zi))
  (zE (Zj 6 (f2 yo (fC (.int 1)) (f2 Yu (fA JR (za (zc 0) (za (zc 1) zi))) (fC (.int 4)))))
  (zE (mFor (gh (f2 wu (zc 6) (fC (.int 1))) (f1 wX (fC (.int 1)))) (zI 7)
  (zE (Zj 8 (fC (.int 4)))
  (zE (Zj 9 (fC (.int 2)))
  (zE (mIf (zw (f2 Ze (zc 7) (fC (.int 0))))
  (zE (Zj 8 (f2 yo (fC (.int 6)) (f2 Yu (f2 wv (fA JR (za (zc 0) (za (zc 1) zi))) (fC (.int 3))) (fC (.int 9)))))
  (Zj 9 (fC (.int 3))))
  zV)
  (zE (Zj 10 (f2 yo (f2 yo (f2 yo (zc 1) (fC (.int 1))) (f2 jD (fC (.int 11)) (fA gInt (za (yw (f2 dGt (zc 7) (fC (.int 0)))) zi)))) (f2 jD (fC (.int 4)) (zc 7))))
  (zE (Zj 11 (Zs 1 (wL (zc 8)) (zI 14) Z2 (fA JR (za (zc 0) (za (f2 yo (zc 10) (zc 14)) zi)))))
  (zE (mAsg (uTup (Jk (zI 12) (Jk (zI 13) uNil))) (fA mq23 (za (zc 11) (za (zc 2) (za (zc 5) (za (zc 9) (za (zc 3) zi)))))))
  (zE (mIf (jB (zw (f2 Ze (zc 6) (fC (.int 1)))) (zw (f2 Ze (f2 Yu (f2 wv (fA JR (za (zc 0) (za (zc 1) zi))) (fC (.int 108))) (fC (.int 2))) (fC (.int 1)))))
  (Zj 12 (Za (za (ZO (za (fC (.str "either")) (za (Za zi) (za (Za (za (ZO (za (fC (.str "loop")) (za (Za (za (ZO (za (fC (.str "either")) (za (zc 12) (za (Za zi) zi)))) zi)) zi))) zi)) zi)))) zi)))
  zV)
  (zE (Zj 4 (Yl (fL (Za (za (zc 12) zi))) (fL (zc 4))))
  (Zj 5 (Yl (fL (Za (za (ZO (za (zc 7) (za (zc 13) zi))) zi))) (fL (zc 5)))))))))))))
  (zR (ZO (za (zc 2) (za (zc 4) zi))))))))
def mq24:List D->Option D:=ZE 4 14 bq24
def bq25:Ev->Option Out :=
  (zR (gi (fC (.str "")) (zk true (Zs 1 (zk false (zc 0)) (zI 1) Z2 (f2 Zy (fC (.str " ")) (fA jI (za (zc 1) zi)))))))
def mq25:List D->Option D:=ZE 1 1 bq25
def bq26 (r'shown:List D->Option D):Ev->Option Out :=
  (zE (Zj 1 (fC (.str "")))
  (zE (mFor (zk true (zc 0)) (zI 2)
  (zE (Zj 1 (f2 Zy (f2 Zy (zc 1) (fC (.str "; "))) (fIx (zk false (zc 2)) (fC (.int 0)))))
  (mIf (zw (f2 Ze (fIx (zk false (zc 2)) (fC (.int 0))) (fC (.str "set"))))
  (Zj 1 (f2 Zy (f2 Zy (f2 Zy (zc 1) (fC (.str " "))) (fA jI (za (fIx (zk false (zc 2)) (fC (.int 1))) zi))) (fA mq25 (za (fIx (zk false (zc 2)) (fC (.int 2))) zi))))
  (mIf (zw (f2 Ze (fIx (zk false (zc 2)) (fC (.int 0))) (fC (.str "either"))))
  (Zj 1 (f2 Zy (f2 Zy (f2 Zy (f2 Zy (zc 1) (fA r'shown (za (fIx (zk false (zc 2)) (fC (.int 1))) zi))) (fC (.str "; or"))) (fA r'shown (za (fIx (zk false (zc 2)) (fC (.int 2))) zi))) (fC (.str "; end"))))
  (mIf (zw (f2 Ze (fIx (zk false (zc 2)) (fC (.int 0))) (fC (.str "loop"))))
  (Zj 1 (f2 Zy (f2 Zy (zc 1) (fA r'shown (za (fIx (zk false (zc 2)) (fC (.int 1))) zi))) (fC (.str "; end"))))
  (Zj 1 (f2 Zy (zc 1) (fA mq25 (za (wM (zk false (zc 2)) (yv (fC (.int 1))) fNo) zi)))))))))
  (zR (zc 1))))
def Rq26:Nat->(List D->Option D)
 | 0=>(fun _=>none)
 | n+1=>ZE 1 3 (bq26 ((Rq26 n)))
def mq26:List D->Option D:=(Rq26 60)
def bq27:Ev->Option Out :=
  (zR (f2 Zy (f2 Zy (fC (.str "boxes ")) (fA jI (za (fIx (zk false (zc 0)) (fC (.int 0))) zi))) (gi (fC (.str "")) (zk true (Zs 1 (zk true (fIx (zk false (zc 0)) (fC (.int 1)))) (zI 1) Z2 (f2 Zy (fC (.str "; body")) (fA mq26 (za (zc 1) zi))))))))
def mq27:List D->Option D:=ZE 1 1 bq27
def bq28 (r'alike:List D->Option D):Ev->Option Out :=
  (zE (mIf (zw (f1 gIsi2 (zc 1)))
  (zE (mIf (fOr (zw (f2 je (f1 (yu "tuple") (zc 0)) (f1 (yu "tuple") (zc 1)))) (jd (zw (f1 gIsi2 (zc 0)))))
  (zR (fC (.bl false)))
  zV)
  (zE (mIf (zw (f2 je (fA yP (fAny (zc 0))) (fA yP (fAny (zc 1)))))
  (zR (fC (.bl false)))
  zV)
  (zR (fA jc (zk true (Zs 2 (fZipA (zc 0) (zc 1)) (uTup (Jk (zI 2) (Jk (zI 3) uNil))) Z2 (fA r'alike (za (zc 2) (za (zc 3) zi)))))))))
  zV)
  (zE (mIf (fOr (zw (f1 (yu "bool") (zc 0))) (zw (f2 je (f1 (yu "str") (zc 0)) (f1 (yu "str") (zc 1)))))
  (zR (fC (.bl false)))
  zV)
  (zR (f2 YY (zc 0) (zc 1)))))
def Ji:Nat->(List D->Option D)
 | 0=>(fun _=>none)
 | n+1=>ZE 2 2 (bq28 ((Ji n)))
def mq28:List D->Option D:=(Ji 60)
def bq29:Ev->Option Out :=
  (zE (Zj 1 (f2 Yu (fA JR (za (zc 0) (za (fC (.int 0)) zi))) (fC (.int 7))))
  (zE (Zj 2 (fA mq24 (za (zc 0) (za (fC (.int 1)) (za (zc 1) (za (fC (.int 36)) zi))))))
  (zE (Zj 3 (wn .lst (zk true (Za (za (ZO (za (fC (.str "loop")) (za (Za (za (ZO (za (fC (.str "either")) (za (Za (za (ZO (za (fC (.str "halt")) zi)) zi)) (za (Za zi) zi)))) zi)) zi))) (za (ZO (za (fC (.str "skip")) zi)) zi)))) fNo (yv (f2 Yu (fA JR (za (zc 0) (za (fC (.int 24)) zi))) (fC (.int 3))))))
  (zE (mIf (jB (zw (f2 Ze (f2 Yu (f2 wv (fA JR (za (zc 0) (za (fC (.int 24)) zi))) (fC (.int 3))) (fC (.int 2))) (fC (.int 1)))) (zw (f2 dLt (fA yP (zk true (fIx (zk false (zc 2)) (fC (.int 1))))) (fC (.int 4)))))
  (Zj 2 (ZO (za (zc 1) (za (Yl (fL (fIx (zk false (zc 2)) (fC (.int 1)))) (fL (Za (za (zc 3) zi)))) zi))))
  zV)
  (zE (Zj 4 (yw (fA Jn (za (zc 2) zi))))
  (zE (Zj 5 (fA mq27 (za (zc 2) zi)))
  (zE (Zj 6 (fA mq12 (za (zc 2) zi)))
  (zE (mIf (fOr (jd (zw (f1 (yu "str") (zc 6)))) (fOr (zw (f2 je (zc 6) (zc 5))) (zw (f2 je (fA Jn (za (zc 2) zi)) (zc 4)))))
  (zR (fC (.bl false)))
  zV)
  (mXL 7 mq13 (za (zc 5) zi)
  (mXIf (jd (zw (fA mq28 (za (zc 7) (za (zc 2) zi)))))
  (zR (fC (.bl false)))
  (mXR2 7 (ZO (za (fC (.str "halt")) zi))
  (zR (yH (f2 Ze (fA mq12 (za (zc 2) zi)) (zc 5)) (yH (fA mq28 (za (fA mq13 (za (zc 5) zi)) (za (zc 2) zi))) (f2 Ze (fA Jn (za (zc 2) zi)) (zc 4))))))))))))))))
def mq29:List D->Option D:=ZE 1 8 bq29
def top (i:Nat):Kx:=PySem.Challenge.pw_evennotes_k48_programs_shown.main.body.getD i (.Pass ⟨0,0,0,0⟩)
structure Txt (K:KC) (mg:Kw->Option Ka) (C:Kc) (Z:Nat->Kc):Prop where
 F0:Df K mg "is_program" (top 9)
 F1:Df K mg "has_parts" (top 10)
 F2:Df K mg "is_number" (top 11)
 F3:Df K mg "are_rows" (top 12)
 F4:Df K mg "is_row" (top 13)
 F5:Df K mg "is_set_line" (top 14)
 F6:Df K mg "all_keep_bounds" (top 15)
 F7:Df K mg "lists_in" (top 16)
 F8:Df K mg "new_places" (top 17)
 F9:Df K mg "new_places_of_row" (top 18)
 F10:Df K mg "depth" (top 19)
 F11:Df K mg "depth_of_row" (top 20)
 F12:Df K mg "show" (top 24)
 F13:Df K mg "read" (top 25)
 F14:Df K mg "ask" (top 26)
 F15:Df K mg "texts_of_rows" (top 27)
 F16:Df K mg "texts_of_row" (top 28)
 F17:Df K mg "row_text" (top 29)
 F18:Df K mg "number_in" (top 30)
 F19:Df K mg "row_of" (top 31)
 F20:Df K mg "_law_cell" (top 34)
 F21:Df K mg "_law_line" (top 35)
 F22:Df K mg "_law_deed" (top 36)
 F23:Df K mg "_law_body" (top 37)
 F24:Df K mg "_law_program" (top 38)
 F25:Df K mg "_law_words" (top 39)
 F26:Df K mg "_law_shown" (top 40)
 F27:Df K mg "_law_due" (top 41)
 F28:Df K mg "_law_alike" (top 42)
 F29:Df K mg "law" (top 43)
 z_all:mg "all"=none
 z_bool:mg "bool"=none
 z_enumerate:mg "enumerate"=none
 z_int:mg "int"=none
 z_isinstance:mg "isinstance"=none
 z_len:mg "len"=none
 z_list:mg "list"=none
 z_max:mg "max"=none
 z_range:mg "range"=none
 z_repr:mg "repr"=none
 z_str:mg "str"=none
 z_sum:mg "sum"=none
 z_tuple:mg "tuple"=none
 z_zip:mg "zip"=none
 c_FIGURES:∃ tk,mg "FIGURES"=some (.str "0123456789" tk)
 c_MOST_BODIES:∃ tk,mg "MOST_BODIES"=some (.int 4 tk)
 c_MOST_BOXES:∃ tk,mg "MOST_BOXES"=some (.int 6 tk)
 c_MOST_DEEP:∃ tk,mg "MOST_DEEP"=some (.int 6 tk)
 c_MOST_FIGURES:∃ tk,mg "MOST_FIGURES"=some (.int 60 tk)
 c_MOST_IN_A_LINE:∃ tk,mg "MOST_IN_A_LINE"=some (.int 999999 tk)
 c_MOST_PLACES:∃ tk,mg "MOST_PLACES"=some (.int 40 tk)
 F30:DfI K C "Reading.__init__" (gc (top 32) 0)
 F31:DfM K C "read_row" "Reading.read_row" (gc (top 32) 1)
 F32:DfM K C "begin_body" "Reading.begin_body" (gc (top 32) 2)
 F33:DfM K C "begin_row" "Reading.begin_row" (gc (top 32) 3)
 F34:DfM K C "begin_other_list" "Reading.begin_other_list" (gc (top 32) 4)
 F35:DfM K C "end_row" "Reading.end_row" (gc (top 32) 5)
 F36:DfM K C "add_row" "Reading.add_row" (gc (top 32) 6)
 rc:RCls K C
 m_Reading:mg "Reading"=some (.ref C)
theorem nd_6:(["text","rows","reading","words","program","row"]:List Kw).Nodup:=by decide +kernel
section
variable {P:Ki} {w:Kk} {K:KC} {mg:Kw->Option Ka} {base:Kl} {C:Kc} {Z:Nat->Kc}
section
variable (P:Ki) (w:Kk) (K:KC) (mg:Kw->Option Ka) (base:Kl) (C:Kc)
abbrev Aq1:Prop:=Kn P w K mg base "has_parts" 36 ["thing","long"] (spM K mq1)
abbrev Aq2:Prop:=Kn P w K mg base "is_number" 36 ["thing","least","most"] (spM K mq2)
abbrev Aq5:Prop:=Kn P w K mg base "is_set_line" 38 ["thing","many"] (spM K mq5)
abbrev Aq3:Prop:=Kn P w K mg base "are_rows" 160 ["thing","many","first","last"] (spM K mq3)
abbrev Aq7:Prop:=Kn P w K mg base "lists_in" 36 ["row"] (spM K mq7)
abbrev Aq8:Prop:=Kn P w K mg base "new_places" 158 ["rows","called"] (spM K mq8)
abbrev Aq10:Prop:=Kn P w K mg base "depth" 158 ["rows","called"] (spM K mq10)
abbrev Aq6:Prop:=Kn P w K mg base "all_keep_bounds" 160 ["bodies"] (spM K mq6)
abbrev Aq0:Prop:=Kn P w K mg base "is_program" 162 ["thing"] (spM K mq0)
abbrev Aq17:Prop:=Kn P w K mg base "row_text" 36 ["word","numbers"] (spM K mq17)
abbrev Aq15:Prop:=Kn P w K mg base "texts_of_rows" 158 ["rows"] (spM K mq15)
abbrev Aq12:Prop:=Kn P w K mg base "show" 160 ["program"] (spM K mq12)
abbrev Aq14:Prop:=Kn P w K mg base "ask" 36 ["truth"] (spM K wT)
abbrev Aq18:Prop:=Kn P w K mg base "number_in" 36 ["word"] (spM K mq18)
abbrev Aq19:Prop:=Kn P w K mg base "row_of" 38 ["words"] (spM K mq19)
abbrev Aq13:Prop:=Kn P w K mg base "read" 174 ["text"] (spRd K mq13)
abbrev Aq20:Prop:=Kn P w K mg base "_law_cell" 36 ["_law_script","_law_k"] (spM K JR)
abbrev Aq21:Prop:=Kn P w K mg base "_law_line" 36 ["_law_cell_here","_law_many"] (spM K mq21)
abbrev Aq22:Prop:=Kn P w K mg base "_law_deed" 38 ["_law_cell_here","_law_many","_law_later_on"] (spF K mq22)
abbrev Aq23:Prop:=Kn P w K mg base "_law_body" 40 ["_law_cells","_law_many","_law_later_on","_law_deep","_law_most"] (spM K mq23)
abbrev Aq24:Prop:=Kn P w K mg base "_law_program" 42 ["_law_script","_law_at","_law_many","_law_most"] (spM K mq24)
abbrev Aq25:Prop:=Kn P w K mg base "_law_words" 36 ["_law_numbers"] (spM K mq25)
abbrev Aq26:Prop:=Kn P w K mg base "_law_shown" 158 ["_law_rows"] (spM K mq26)
abbrev Aq27:Prop:=Kn P w K mg base "_law_due" 160 ["_law_program_here"] (spM K mq27)
abbrev Aq28:Prop:=Kn P w K mg base "_law_alike" 156 ["_law_found","_law_due_here"] (spM K mq28)
end
theorem A1:wT [.bl true]=some .non:=by rfl
theorem hl_add_row:∀ S ds S',Z3 S ds=some S'->ds.length+1=2:=fun S ds S' h=>by unfold Z3 at h;split at h <;> first | rfl | cases h
theorem hl_begin_row:∀ S ds S',ZT S ds=some S'->ds.length+1=2:=fun S ds S' h=>by unfold ZT at h;split at h <;> first | rfl | cases h
theorem Jg:∀ S ds S',YW S ds=some S'->ds.length+1=1:=fun S ds S' h=>by unfold YW at h;split at h <;> first | rfl | cases h
theorem hl_begin_body:∀ S ds S',Z0 S ds=some S'->ds.length+1=1:=fun S ds S' h=>by unfold Z0 at h;split at h <;> first | rfl | cases h
theorem hl_end_row:∀ S ds S',J8 S ds=some S'->ds.length+1=1:=fun S ds S' h=>by unfold J8 at h;split at h <;> first | rfl | cases h
theorem hl_read_row:∀ S ds S',ZG S ds=some S'->ds.length+1=2:=fun S ds S' h=>by unfold ZG rRow at h;split at h <;> first | rfl | cases h
variable (T:Txt K mg C Z)
include T
theorem g_has_parts :Aq1 P w K mg base:=(y0 P w base 35 ["thing","long"] ["thing","long"] bq1 T.F1 (by decide +kernel) fun nd=>fun _ _ _ _ _ _ _ hr=>⟨_,[],by
  unfold bq1
  exact (zt (zF (yV (yK (K':=K) (st:=false) (by rfl) (by exact T.z_isinstance) (by rfl) (by exact T.z_tuple) PyProof.Rows.boot_tuple (by decide) (zb 0)) (YT (jm Zv zQ (Yk (K':=K) (st:=false) (by rfl) (by exact T.z_len) (sqF (zb 0))) (zb 1) (zy _))))))⟩ :)
theorem g_is_number :Aq2 P w K mg base:=(y0 P w base 35 ["thing","least","most"] ["thing","least","most"] bq2 T.F2 (by decide +kernel) fun nd=>fun _ _ _ _ _ _ _ hr=>⟨_,[],by
  unfold bq2
  exact (zt (zF (yV (yK (K':=K) (st:=false) (by rfl) (by exact T.z_isinstance) (by rfl) (by exact T.z_int) PyProof.Rows.boot_int (by decide) (zb 0)) (yV (se_not (yK (K':=K) (st:=false) (by rfl) (by exact T.z_isinstance) (by rfl) (by exact T.z_bool) PyProof.Rows.boot_bool (by decide) (zb 0))) (YT (se_chain WV J6 WV J6 (zb 1) (zb 0) (zb 2)))))))⟩ :)
theorem g_is_set_line (G1:Aq1 P w K mg base) (G2:Aq2 P w K mg base):Aq5 P w K mg base:=(y0 P w base 37 ["thing","many"] ["thing","many"] bq5 T.F5 (by decide +kernel) fun nd=>fun _ _ _ _ _ _ _ hr=>⟨_,[],by
  unfold bq5
  exact (zl (Zm (os':=[]) (yW (yr (zN (K':=K) G1 (hr.mono (by omega)) (zd (zb 0) (zd (zC Z1 ZI (zb 1) zg) zj))))) (zt (zF YI)) zM) (zt (zF (JH (K':=K) (st:=false) rfl (by rfl) (by exact T.z_all) (SF.seq (Yn (J4 (K':=K) (SC.sn (sqF (zb 0)))) (fun _ _ _ _=>ZV) (fun _ _ _ _=>ZU) (fun _ _ _ _=>(zN (K':=K) G2 (hr.mono (by omega)) (zd (zb 2) (zd (se_un yU JD (Jr T.c_MOST_IN_A_LINE)) (zd (Jr T.c_MOST_IN_A_LINE) zj)))))))))))⟩ :)
theorem g_are_rows (G1:Aq1 P w K mg base) (G2:Aq2 P w K mg base) (G5:Aq5 P w K mg base) (n:Nat):Kn P w K mg base "are_rows" (40+2*n) ["thing","many","first","last"] (spM K (Rq3 n).1)/\Kn P w K mg base "is_row" (40+2*n) ["thing","many","first","last"] (spM K (Rq3 n).2):=by
 induction n with
 | zero=>exact ⟨Kn.no T.F3,Kn.no T.F4⟩
 | succ n ih =>
  obtain ⟨G3,G4⟩:=ih
  exact ⟨(y0 P w base (40+2*n+1) ["thing","many","first","last"] ["thing","many","first","last"] (bq3 ((Rq3 n).1) ((Rq3 n).2)) T.F3 (by decide +kernel) fun nd=>fun _ _ _ _ _ _ _ hr=>⟨_,[],by
  unfold bq3
  exact (zt (zF (yV (yK (K':=K) (st:=false) (by rfl) (by exact T.z_isinstance) (by rfl) (by exact T.z_list) PyProof.Rows.boot_list (by decide) (zb 0)) (YT (JH (K':=K) (st:=false) rfl (by rfl) (by exact T.z_all) (SF.seq (Yn (Z9 (K':=K) (SC.sn (sqT (zb 0)))) (fun _ _ _ _=>ZV) (fun _ _ _ _=>ZU) (fun _ _ _ _=>(zN (K':=K) G4 (hr.mono (by omega)) (zd (zb 4) (zd (zb 1) (zd (zb 2) (zd (zb 3) zj)))))))))))))⟩ :),(y0 P w base (40+2*n+1) ["thing","many","first","last","kind"] ["thing","many","first","last"] (bq4 ((Rq3 n).1) ((Rq3 n).2)) T.F4 (by decide +kernel) fun nd=>fun _ _ _ _ _ _ _ hr=>⟨_,[],by
  unfold bq4
  exact (zl (Zm (os':=[]) (SW.sb (jN (yW (yr (yK (K':=K) (st:=false) (by rfl) (by exact T.z_isinstance) (by rfl) (by exact T.z_tuple) PyProof.Rows.boot_tuple (by decide) (zb 0)))) (YR (zH Zv zQ (Yk (K':=K) (st:=false) (by rfl) (by exact T.z_len) (sqF (zb 0))) zg (zy _))))) (zt (zF YI)) zM) (zl (zY (os:=[]) (os':=[]) (i:=4) nd rfl (Or.inl rfl) (zS (K':=K) (st:=true) (sqF (zb 0)) zg)) (zl (Zm (os':=[]) (zH Zv zQ (zb 4) zA (zy _)) (zt (zF (yV (zN (K':=K) G1 (hr.mono (by omega)) (zd (zb 0) (zd zg zj))) (yV (zN (K':=K) G2 (hr.mono (by omega)) (zd (zS (K':=K) (st:=false) (sqF (zb 0)) zg) (zd zg (zd (zC Js jn (zb 1) zg) zj)))) (YT (zN (K':=K) G5 (hr.mono (by omega)) (zd (zS (K':=K) (st:=false) (sqF (zb 0)) zg) (zd (zb 1) zj)))))))) zM) (zl (Zm (os':=[]) (zH Zv zQ (zb 4) zA (zy _)) (zt (zF (yV (zN (K':=K) G1 (hr.mono (by omega)) (zd (zb 0) (zd zg zj))) (YT (zN (K':=K) G2 (hr.mono (by omega)) (zd (zS (K':=K) (st:=false) (sqF (zb 0)) zg) (zd zg (zd (zC Js jn (zb 1) zg) zj)))))))) zM) (zl (Zm (os':=[]) (SW.sb (jN (zH Zv zQ (zb 4) zA (zy _)) (YR (zH Zv zQ (zb 4) zA (zy _))))) (zt (zF (zN (K':=K) G1 (hr.mono (by omega)) (zd (zb 0) (zd zg zj))))) zM) (zl (Zm (os':=[]) (zH Zv zQ (zb 4) zA (zy _)) (zt (zF (yV (zN (K':=K) G1 (hr.mono (by omega)) (zd (zb 0) (zd zg zj))) (YT (JH (K':=K) (st:=false) rfl (by rfl) (by exact T.z_all) (SF.seq (Yn (J4 (K':=K) (SC.sn (sqF (Wj (K':=K) (st:=true) (sqF (zb 0)) (Yq zg) Yr)))) (fun _ _ _ _=>ZV) (fun _ _ _ _=>ZU) (fun _ _ _ _=>(zN (K':=K) G3 (hr.mono (by omega)) (zd (zb 5) (zd (zb 1) (zd (zb 2) (zd (zb 3) zj))))))))))))) zM) (zl (Zm (os':=[]) (zH Zv zQ (zb 4) zA (zy _)) (zt (zF (yV (zN (K':=K) G1 (hr.mono (by omega)) (zd (zb 0) (zd zg zj))) (YT (zN (K':=K) G3 (hr.mono (by omega)) (zd (zS (K':=K) (st:=false) (sqF (zb 0)) zg) (zd (zb 1) (zd (zb 2) (zd (zb 3) zj))))))))) zM) (zl (Zm (os':=[]) (zH Zv zQ (zb 4) zA (zy _)) (zt (zF (yV (zN (K':=K) G1 (hr.mono (by omega)) (zd (zb 0) (zd zg zj))) (YT (zN (K':=K) G2 (hr.mono (by omega)) (zd (zS (K':=K) (st:=false) (sqF (zb 0)) zg) (zd (zb 2) (zd (zb 3) zj)))))))) zM) (zt (zF YI))))))))))⟩ :)⟩
theorem g_lists_in :Aq7 P w K mg base:=(y0 P w base 35 ["row"] ["row"] bq7 T.F7 (by decide +kernel) fun nd=>fun _ _ _ _ _ _ _ hr=>⟨_,[],by
  unfold bq7
  exact (zt (zF (SF.se (st:=false) (Yn (J4 (K':=K) (SC.sn (sqF (zb 0)))) (fun _ _ _ _=>ZV) (fun _ _ _ _=>(spf_one (yr (yK (K':=K) (st:=false) (by rfl) (by exact T.z_isinstance) (by rfl) (by exact T.z_list) PyProof.Rows.boot_list (by decide) (zb 1))))) (fun _ _ _ _=>(zb 1))))))⟩ :)
theorem g_new_places (G7:Aq7 P w K mg base) (n:Nat):Kn P w K mg base "new_places" (38+2*n) ["rows","called"] (spM K (Rq8 n).1)/\Kn P w K mg base "new_places_of_row" (38+2*n) ["row","called"] (spM K (Rq8 n).2):=by
 induction n with
 | zero=>exact ⟨Kn.no T.F8,Kn.no T.F9⟩
 | succ n ih =>
  obtain ⟨G8,G9⟩:=ih
  exact ⟨(y0 P w base (38+2*n+1) ["rows","called"] ["rows","called"] (bq8 ((Rq8 n).1) ((Rq8 n).2)) T.F8 (by decide +kernel) fun nd=>fun _ _ _ _ _ _ _ hr=>⟨_,[],by
  unfold bq8
  exact (zt (zF (se_sum (K':=K) (st:=false) rfl (by rfl) (by exact T.z_sum) (SF.seq (Yn (Z9 (K':=K) (SC.sn (sqT (zb 0)))) (fun _ _ _ _=>ZV) (fun _ _ _ _=>ZU) (fun _ _ _ _=>(zN (K':=K) G9 (hr.mono (by omega)) (zd (zb 2) (zd (zb 1) zj)))))))))⟩ :),(y0 P w base (38+2*n+1) ["row","called"] ["row","called"] (bq9 ((Rq8 n).1) ((Rq8 n).2)) T.F9 (by decide +kernel) fun nd=>fun _ _ _ _ _ _ _ hr=>⟨_,[],by
  unfold bq9
  exact (zl (Zm (os':=[]) (zH Zv zQ (zS (K':=K) (st:=false) (sqF (zb 0)) zg) zA (zy _)) (zt (zF (Wi (st:=false) hr (zb 1) (zS (K':=K) (st:=false) (sqF (zb 0)) zg)))) zM) (zt (zF (zC Z1 ZI zg (se_sum (K':=K) (st:=false) rfl (by rfl) (by exact T.z_sum) (SF.seq (Yn (Z9 (K':=K) (SC.sn (sqT (zN (K':=K) G7 (hr.mono (by omega)) (zd (zb 0) zj))))) (fun _ _ _ _=>ZV) (fun _ _ _ _=>ZU) (fun _ _ _ _=>(zN (K':=K) G8 (hr.mono (by omega)) (zd (zb 2) (zd (zb 1) zj)))))))))))⟩ :)⟩
theorem g_depth (G7:Aq7 P w K mg base) (n:Nat):Kn P w K mg base "depth" (38+2*n) ["rows","called"] (spM K (yT n).1)/\Kn P w K mg base "depth_of_row" (38+2*n) ["row","called"] (spM K (yT n).2):=by
 induction n with
 | zero=>exact ⟨Kn.no T.F10,Kn.no T.F11⟩
 | succ n ih =>
  obtain ⟨G10,G11⟩:=ih
  exact ⟨(y0 P w base (38+2*n+1) ["rows","called"] ["rows","called"] (bq10 ((yT n).1) ((yT n).2)) T.F10 (by decide +kernel) fun nd=>fun _ _ _ _ _ _ _ hr=>⟨_,[],by
  unfold bq10
  exact (zt (zF (se_maxD (K':=K) (st:=false) rfl (by rfl) (by exact T.z_max) (SF.seq (Yn (Z9 (K':=K) (SC.sn (sqT (zb 0)))) (fun _ _ _ _=>ZV) (fun _ _ _ _=>ZU) (fun _ _ _ _=>(zN (K':=K) G11 (hr.mono (by omega)) (zd (zb 2) (zd (zb 1) zj)))))))))⟩ :),(y0 P w base (38+2*n+1) ["row","called"] ["row","called"] (bq11 ((yT n).1) ((yT n).2)) T.F11 (by decide +kernel) fun nd=>fun _ _ _ _ _ _ _ hr=>⟨_,[],by
  unfold bq11
  exact (zl (Zm (os':=[]) (zH Zv zQ (zS (K':=K) (st:=false) (sqF (zb 0)) zg) zA (zy _)) (zt (zF (WK (call_max2 rfl) caok_max2 (by rfl) (by exact T.z_max) PyProof.Rows.boot_max (zd zg (zd (Wi (st:=false) hr (zb 1) (zS (K':=K) (st:=false) (sqF (zb 0)) zg)) zj))))) zM) (zt (zF (zC Z1 ZI zg (se_maxD (K':=K) (st:=false) rfl (by rfl) (by exact T.z_max) (SF.seq (Yn (Z9 (K':=K) (SC.sn (sqT (zN (K':=K) G7 (hr.mono (by omega)) (zd (zb 0) zj))))) (fun _ _ _ _=>ZV) (fun _ _ _ _=>ZU) (fun _ _ _ _=>(zN (K':=K) G10 (hr.mono (by omega)) (zd (zb 2) (zd (zb 1) zj)))))))))))⟩ :)⟩
theorem JX (G8:Aq8 P w K mg base) (G10:Aq10 P w K mg base):Aq6 P w K mg base:=(y0 P w base 159 ["bodies","places","deep","number"] ["bodies"] bq6 T.F6 (by decide +kernel) fun nd=>fun _ _ _ _ _ _ _ hr=>⟨_,[1,2],by
  unfold bq6
  exact (zl (WC (os:=[]) (os':=[1]) (i:=1) nd rfl (Or.inl rfl) sf_dnew) (zl (WC (os:=[1]) (os':=[1,2]) (i:=2) nd rfl (Or.inl rfl) sf_dnew) (zl (Jq (os:=[1,2]) rfl (si_rangeD (by rfl) (by exact T.z_range) (zC Js jn (Yk (K':=K) (st:=false) (by rfl) (by exact T.z_len) (sqT (zb 0))) zg) (se_un yU JD zg)) ZV (zl (ss_dput (os:=[1,2]) 1 hr (zb 3) (SE.flat (zN (K':=K) G8 (hr.mono (by omega)) (zd (yC (K':=K) (st:=false) (sqT (zb 0)) (zb 3)) (zd (JG 1) zj))))) (zl (ss_dput (os:=[1,2]) 2 hr (zb 3) (SE.flat (zN (K':=K) G10 (hr.mono (by omega)) (zd (yC (K':=K) (st:=false) (sqT (zb 0)) (zb 3)) (zd (JG 2) zj))))) (zt (Zm (os':=[1,2]) (SW.sb (jN (zH jV jQ (zC Z1 ZI (Wi (st:=false) hr (JG 1) (zb 3)) zg) (Jr T.c_MOST_PLACES) (zy _)) (YR (zH jV jQ (Wi (st:=false) hr (JG 2) (zb 3)) (Jr T.c_MOST_DEEP) (zy _))))) (zt (zF YI)) zM))))) (zt (zF YI)))))⟩ :)
theorem g_is_program (G1:Aq1 P w K mg base) (G2:Aq2 P w K mg base) (G3:Aq3 P w K mg base) (G6:Aq6 P w K mg base):Aq0 P w K mg base:=(y0 P w base 161 ["thing","many","bodies","number","body"] ["thing"] bq0 T.F0 (by decide +kernel) fun nd=>fun _ _ _ _ _ _ _ hr=>⟨_,[],by
  unfold bq0
  exact (zl (Zm (os':=[]) (yW (yr (zN (K':=K) G1 (hr.mono (by omega)) (zd (zb 0) (zd zg zj))))) (zt (zF YI)) zM) (zl (zY (os:=[]) (os':=[]) (i:=1) nd rfl (Or.inl rfl) (zS (K':=K) (st:=true) (sqF (zb 0)) zg)) (zl (zY (os:=[]) (os':=[]) (i:=2) nd rfl (Or.inl rfl) (zS (K':=K) (st:=true) (sqF (zb 0)) zg)) (zl (Zm (os':=[]) (SW.sb (jN (yW (yr (zN (K':=K) G2 (hr.mono (by omega)) (zd (zb 1) (zd zg (zd (Jr T.c_MOST_BOXES) zj)))))) (YR (yW (yr (yK (K':=K) (st:=false) (by rfl) (by exact T.z_isinstance) (by rfl) (by exact T.z_list) PyProof.Rows.boot_list (by decide) (zb 2))))))) (zt (zF YI)) zM) (zl (Zm (os':=[]) (yW (sb_chain WV J6 WV J6 zg (Yk (K':=K) (st:=false) (by rfl) (by exact T.z_len) (sqT (zb 2))) (Jr T.c_MOST_BODIES))) (zt (zF YI)) zM) (zl (Jq (os:=[]) rfl (si_enum (K':=K) (by rfl) (by exact T.z_enumerate) (SE.sn (k:=true) (zb 2))) (sg_tup (K':=K) rfl (Y3 ZV (Y3 ZV sgs_nil))) (zt (Zm (os':=[]) (yW (yr (zN (K':=K) G3 (hr.mono (by omega)) (zd (zb 4) (zd (zb 1) (zd (zC Z1 ZI (zb 3) zg) (zd (zC Js jn (Yk (K':=K) (st:=false) (by rfl) (by exact T.z_len) (sqT (zb 2))) zg) zj))))))) (zt (zF YI)) zM))) (zt (zF (zN (K':=K) G6 (hr.mono (by omega)) (zd (zb 2) zj))))))))))⟩ :)
theorem g_row_text :Aq17 P w K mg base:=(y0 P w base 35 ["word","numbers"] ["word","numbers"] bq17 T.F17 (by decide +kernel) fun nd=>fun _ _ _ _ _ _ _ hr=>⟨_,[],by
  unfold bq17
  exact (zt (zF (Wh (K':=K) (st:=false) zA (SF.seq (YS (SF.sl (Zh (zd (zb 0) zj))) (SF.sl (Yn (SI.weak (si_any (K':=K) (zb 1))) (fun _ _ _ _=>ZV) (fun _ _ _ _=>ZU) (fun _ _ _ _=>(Wg (st:=true) (by rfl) (by exact T.z_str) (zd (zb 2) zj))))))))))⟩ :)
theorem wV (G17:Aq17 P w K mg base) (n:Nat):Kn P w K mg base "texts_of_rows" (38+2*n) ["rows"] (spM K (yS n).1)/\Kn P w K mg base "texts_of_row" (38+2*n) ["row"] (spM K (yS n).2):=by
 induction n with
 | zero=>exact ⟨Kn.no T.F15,Kn.no T.F16⟩
 | succ n ih =>
  obtain ⟨G15,G16⟩:=ih
  exact ⟨(y0 P w base (38+2*n+1) ["rows","texts","row"] ["rows"] (bq15 ((yS n).1) ((yS n).2)) T.F15 (by decide +kernel) fun nd=>fun _ _ _ _ _ _ _ hr=>⟨_,[1],by
  unfold bq15
  exact (zl (WC (os:=[]) (os':=[1]) (i:=1) nd rfl (Or.inl rfl) (Zh zj)) (zl (Jq (os:=[1]) rfl (Z9 (K':=K) (SE.sn (k:=true) (zb 0))) ZV (zt (WD (os:=[1]) (i:=1) (zN (K':=K) G16 (hr.mono (by omega)) (zd (zb 2) zj))))) (zt (zF (JG 1)))))⟩ :),(y0 P w base (38+2*n+1) ["row"] ["row"] (bq16 ((yS n).1) ((yS n).2)) T.F16 (by decide +kernel) fun nd=>fun _ _ _ _ _ _ _ hr=>⟨_,[],by
  unfold bq16
  exact (zl (Zm (os':=[]) (zH Zv zQ (zS (K':=K) (st:=false) (sqF (zb 0)) zg) zA (zy _)) (zt (zF (SF.se (st:=false) (YS (SF.sl (YS (SF.sl (YS (SF.sl (YS (SF.sl (Zh (zd zA zj))) (SE.sl (zN (K':=K) G15 (hr.mono (by omega)) (zd (zS (K':=K) (st:=true) (sqF (zb 0)) zg) zj))))) (SF.sl (Zh (zd zA zj))))) (SE.sl (zN (K':=K) G15 (hr.mono (by omega)) (zd (zS (K':=K) (st:=true) (sqF (zb 0)) zg) zj))))) (SF.sl (Zh (zd zA zj))))))) zM) (zl (Zm (os':=[]) (zH Zv zQ (zS (K':=K) (st:=false) (sqF (zb 0)) zg) zA (zy _)) (zt (zF (SF.se (st:=false) (YS (SF.sl (YS (SF.sl (Zh (zd zA zj))) (SE.sl (zN (K':=K) G15 (hr.mono (by omega)) (zd (zS (K':=K) (st:=true) (sqF (zb 0)) zg) zj))))) (SF.sl (Zh (zd zA zj))))))) zM) (zl (Zm (os':=[]) (zH Zv zQ (zS (K':=K) (st:=false) (sqF (zb 0)) zg) zA (zy _)) (zt (zF (SF.se (st:=false) (Zh (zd (zN (K':=K) G17 (hr.mono (by omega)) (zd zA (zd (se_catA (K':=K) (st:=true) (ya (zd (zS (K':=K) (st:=true) (sqF (zb 0)) zg) zj)) (zS (K':=K) (st:=true) (sqF (zb 0)) zg)) zj))) zj))))) zM) (zt (zF (SF.se (st:=false) (Zh (zd (zN (K':=K) G17 (hr.mono (by omega)) (zd (zS (K':=K) (st:=true) (sqF (zb 0)) zg) (zd (Wj (K':=K) (st:=true) (sqF (zb 0)) (Yq zg) Yr) zj))) zj))))))))⟩ :)⟩
theorem g_show (G17:Aq17 P w K mg base) (G15:Aq15 P w K mg base):Aq12 P w K mg base:=(y0 P w base 159 ["program","rows","body"] ["program"] bq12 T.F12 (by decide +kernel) fun nd=>fun _ _ _ _ _ _ _ hr=>⟨_,[1],by
  unfold bq12
  exact (zl (WC (os:=[]) (os':=[1]) (i:=1) nd rfl (Or.inl rfl) (Zh (zd (zN (K':=K) G17 (hr.mono (by omega)) (zd zA (zd (SF.se (st:=true) (Zh (zd (zS (K':=K) (st:=true) (sqF (zb 0)) zg) zj))) zj))) zj))) (zl (Jq (os:=[1]) rfl (Z9 (K':=K) (SE.sn (k:=true) (zS (K':=K) (st:=true) (sqF (zb 0)) zg))) ZV (zl (ss_append (os:=[1]) (i:=1) zA) (zt (WD (os:=[1]) (i:=1) (zN (K':=K) G15 (hr.mono (by omega)) (zd (zb 2) zj)))))) (zt (zF (Wh (K':=K) (st:=false) zA (sc_own 1))))))⟩ :)
theorem g_ask :Aq14 P w K mg base:=(y0 P w base 35 ["truth"] ["truth"] bq14 T.F14 (by decide +kernel) fun nd=>fun _ _ _ _ _ _ _ hr=>⟨_,[],by
  unfold bq14
  exact (zt (Zm (os':=[]) (yW (yr (zb 0))) (zt ss_never) zM))⟩ :)
theorem g_number_in :Aq18 P w K mg base:=(y0 P w base 35 ["word","figures"] ["word"] bq18 T.F18 (by decide +kernel) fun nd=>fun _ _ _ _ _ _ _ hr=>⟨_,[],by
  unfold bq18
  exact (zl (zY (os:=[]) (os':=[]) (i:=1) nd rfl (Or.inl rfl) (se_if (yr (se_starts (K':=K) (st:=false) (zb 0) zA)) (se_cutS (st:=true) (zb 0) (Yq zg) Yr) (zb 0))) (zl (Zm (os':=[]) (SW.sb (jN (yW (sb_chain WV J6 WV J6 zg (WK call_len_str caok_lenS (by rfl) (by exact T.z_len) PySem.boot_len (zd (zb 1) zj)) (Jr T.c_MOST_FIGURES))) (YR (yW (yr (JH (K':=K) (st:=false) rfl (by rfl) (by exact T.z_all) (SF.seq (Yn (si_str (zb 1)) (fun _ _ _ _=>ZV) (fun _ _ _ _=>ZU) (fun _ _ _ _=>(SE.flat (jm op_in_str rok_inS (zb 2) (se_glStr (by exact T.c_FIGURES)) rfl))))))))))) (zt (zF se_non)) zM) (zl (Zm (os':=[]) (SW.sb (jO (yr (se_starts (K':=K) (st:=false) (zb 1) zA)) (YH (zH wB jo (zb 0) zA (zy _))))) (zt (zF se_non)) zM) (zt (zF (j7 call_intT caok_intT (by rfl) (by exact T.z_int) PyProof.Rows.boot_int (zd (zb 0) zj)))))))⟩ :)
theorem g_row_of (G18:Aq18 P w K mg base):Aq19 P w K mg base:=(y0 P w base 37 ["words","numbers"] ["words"] bq19 T.F19 (by decide +kernel) fun nd=>fun _ _ _ _ _ _ _ hr=>⟨_,[],by
  unfold bq19
  exact (zl (ss_sT (os:=[]) (os':=[]) (i:=1) nd (Z9 (K':=K) (SC.sn (SF.seq (We (K':=K) (sqT (zb 0)) (Yq zg) Yr)))) (fun _ _ _ _=>ZV) (fun _ _ _ _=>ZU) (fun _ _ _ _=>(zN (K':=K) G18 (hr.mono (by omega)) (zd (zb 2) zj)))) (zl (Zm (os':=[]) (SW.sb (jO (zH Zv zQ (yC (K':=K) (st:=false) (sqT (zb 0)) zg) zA (zy _)) (YH (zH jV jQ (Yk (K':=K) (st:=false) (by rfl) (by exact T.z_len) (sqT (zb 1))) zg (zy _))))) (zt (zF (ya (zd zA (zd (yC (K':=K) (st:=false) (sqT (zb 1)) zg) (zd (WJ (K':=K) (st:=false) (by rfl) (by exact T.z_tuple) (SF.seq (We (K':=K) (sqT (zb 1)) (Yq zg) Yr))) zj)))))) zM) (zt (zF (se_catA (K':=K) (st:=false) (ya (zd (yC (K':=K) (st:=true) (sqT (zb 0)) zg) zj)) (WJ (K':=K) (st:=true) (by rfl) (by exact T.z_tuple) (sqT (zb 1))))))))⟩ :)
theorem g_read (G14:Aq14 P w K mg base) (G18:Aq18 P w K mg base) (G0:Aq0 P w K mg base) (G19:Aq19 P w K mg base):Aq13 P w K mg base:=by
 obtain ⟨tkd,hdp⟩:=T.c_MOST_DEEP
 have nd2:(["self","last"]:List Kw).Nodup:=by decide +kernel
 have G36:=fn_kR (mg:=mg) P w base 163 ["self","row"] ["self","row"] (m:=Z3) T.F36 (hl_add_row) fun _ _ _ _ _ _ _ hr=>⟨_,(zJ (zX (pe_kn G14 (hr.mono (by omega)) (by rfl) (zv (YM jV (ZW ZK (by rfl) (by exact T.z_len) PySem.boot_len (zv (yi (pv 0) rfl) zz)) ZC (zy _)) zz))) (Zf (zX (Yz KI PySem.F.slot_list_append PySem.F.type_list_append Z5 (Y6 Ys (yi (pv 0) rfl) (JN yU ZC) (fun _ _=>rfl)) (zv (pv 1) zz))))),rd_add T.rc A1⟩
 have G33:=fn_kR (mg:=mg) P w base 163 ["self","word"] ["self","word"] (m:=ZT) T.F33 (hl_begin_row) fun _ _ _ _ _ _ _ hr=>⟨_,(zJ (zX (pe_kn G14 (hr.mono (by omega)) (by rfl) (zv (YM op_lt (ZW ZK (by rfl) (by exact T.z_len) PySem.boot_len (zv (yi (pv 0) rfl) zz)) (pe_glob (v:=.int 6) (by rfl) hdp ⟨tkd,rfl⟩ rfl) (zy _)) zz))) (zJ (zX (Yz KI PySem.F.slot_list_append PySem.F.type_list_append Z5 (yi (pv 0) rfl) (zv (pv 1) zz))) (Zf (zX (Yz KI PySem.F.slot_list_append PySem.F.type_list_append Z5 (yi (pv 0) rfl) (zv (yn zz) zz)))))),rd_begin T.rc A1⟩
 have G34:=fn_kR (mg:=mg) P w base 163 ["self"] ["self"] (m:=YW) T.F34 (Jg) fun _ _ _ _ _ _ _ hr=>⟨_,(zJ (zX (pe_kn G14 (hr.mono (by omega)) (by rfl) (zv (YM (jt (K':=K) hr) (JO sl_list (yi (pv 0) rfl) (po_some (JN yU ZC)) po_none) (yn (zv Yy zz)) (zy _)) zz))) (zJ (ps_asg Yy (pg_sub (yi (pv 0) rfl) (JN yU ZC) set_list (fun _=>rfl)) rfl rfl rfl) (Zf (zX (Yz KI PySem.F.slot_list_append PySem.F.type_list_append Z5 (yi (pv 0) rfl) (zv (yn zz) zz)))))),rd_other T.rc A1⟩
 have G32:=fn_kR (mg:=mg) P w base 163 ["self"] ["self"] (m:=Z0) T.F32 (hl_begin_body) fun _ _ _ _ _ _ _ hr=>⟨_,(zJ (zX (pe_kn G14 (hr.mono (by omega)) (by rfl) (zv (YM Zv (ZW ZK (by rfl) (by exact T.z_len) PySem.boot_len (zv (yi (pv 0) rfl) zz)) ZC (zy _)) zz))) (zJ (ps_fld (pv 0) (yn (zv (yn zz) zz)) rfl) (Zf (zX (Yz KI PySem.F.slot_list_append PySem.F.type_list_append Z5 (yi (pv 0) rfl) (zv (Y6 Ys (yi (pv 0) rfl) ZC (fun _ _=>rfl)) zz)))))),rd_body T.rc A1⟩
 have G35:=fn_kR (mg:=mg) P w base 165 ["self","last"] ["self"] (m:=J8) T.F35 (hl_end_row) fun _ _ _ _ _ _ _ hr=>⟨_,(zJ (zX (pe_kn G14 (hr.mono (by omega)) (by rfl) (zv (pe_and (YM jV (ZW ZK (by rfl) (by exact T.z_len) PySem.boot_len (zv (yi (pv 0) rfl) zz)) ZC (zy _)) (pe_one (YM wB (Y6 Ys (yi (pv 0) rfl) (JN yU ZC) (fun _ _=>rfl)) Yy (zy _)))) zz))) (zJ (yY (i:=1) nd2 rfl (Or.inl rfl) (pe_bm0 KI PySem.F.slot_list_pop PySem.F.type_list_pop mt_pop (yi (pv 0) rfl))) (Zf (jU (YL Zv (pe_bm0 KI PySem.F.slot_list_pop PySem.F.type_list_pop mt_pop (yi (pv 0) rfl)) Yy (zy _)) (Zf (zX (WT T.rc.cls G36 (hr.mono (by omega)) (pv 0) (zv (jr (zv Yy (zv (pv 1) zz))) zz)))) (Zf (zX (WT T.rc.cls G36 (hr.mono (by omega)) (pv 0) (zv (jr (zv Yy (zv (pe_bm0 KI PySem.F.slot_list_pop PySem.F.type_list_pop mt_pop (yi (pv 0) rfl)) (zv (pv 1) zz)))) zz)))))))),rd_end T.rc A1⟩
 have G31:=fn_kR (mg:=mg) P w base 167 ["self","words"] ["self","words"] (m:=ZG) T.F31 (hl_read_row) fun _ _ _ _ _ _ _ hr=>by
  unfold ZG
  exact row_mk (zH (jt (K':=K) hr) jp (zb 1) (SF.se (st:=false) (Zh (zd zA zj))) (zy _))
   (SW.sb (jN (zH (jt (K':=K) hr) jp (zb 1) (SF.se (st:=false) (Zh (zd zA zj))) (zy _)) (YR (zH (jt (K':=K) hr) jp (zb 1) (SF.se (st:=false) (Zh (zd zA zj))) (zy _)))))
   (zH (jt (K':=K) hr) jp (zb 1) (SF.se (st:=false) (Zh (zd zA zj))) (zy _))
   (zH (jt (K':=K) hr) jp (zb 1) (SF.se (st:=false) (Zh (zd zA zj))) (zy _))
   (yC (K':=K) (st:=true) (sqT (zb 1)) zg)
   (zN (K':=K) G19 (hr.mono (by omega)) (zd (zb 1) zj))
   fun a1 a2 a3 a4 b2 b5=>(Zf (jU a1 (Zf (zX (pe_knM0 T.rc.cls G32 (hr.mono (by omega)) (pv 0)))) (Zf (jU a2 (Zf (zX (WT T.rc.cls G33 (hr.mono (by omega)) (pv 0) (zv b2 zz)))) (Zf (jU a3 (Zf (zX (pe_knM0 T.rc.cls G34 (hr.mono (by omega)) (pv 0)))) (Zf (jU a4 (Zf (zX (pe_knM0 T.rc.cls G35 (hr.mono (by omega)) (pv 0)))) (Zf (zX (WT T.rc.cls G36 (hr.mono (by omega)) (pv 0) (zv b5 zz))))))))))))
 have G_init:=fn_kIR (mg:=mg) P w base 37 T.F30 T.rc fun _ _ _ _ _ _ _ hr=>(zJ (ps_fld (pv 0) (yn zz) rfl) (zJ (ps_fld (pv 0) (yn zz) rfl) (Zf (ps_fld (pv 0) (yn zz) rfl))))
 have nd:(["text","rows","reading","words","program"]:List Kw).Nodup:=by decide +kernel
 exact (fn_kRd P w base 173 ["text","rows","reading","words","program"] "text" (mR:=ZG) (f1:=(fA wT (za (f1 (yu "str") (zc 0)) zi)))
  (m2:=(Zj 1 (Zs 1 (zk true (f2 YC (zc 0) (fC (.str "; ")))) (zI 5) Z2 (f2 YC (zc 5) (fC (.str " "))))))
  (fi:=(zk true (wn .lst (zk true (zc 1)) (yv (fC (.int 1))) fNo)))
  (f6:=(fA wT (za (yH (f2 Ze (fA yP (zk true (fIx (zk true (zc 1)) (fC (.int 0))))) (fC (.int 2))) (f2 Ze (fIx (zk true (fIx (zk true (zc 1)) (fC (.int 0)))) (fC (.int 0))) (fC (.str "boxes")))) zi)))
  (f7:=(fA mq18 (za (fIx (zk true (fIx (zk true (zc 1)) (fC (.int 0)))) (fC (.int 1))) zi)))
  (f8:=(fA wT (za (fA mq0 (za (zc 4) zi)) zi))) T.rc A1 T.F13 rfl (fun ρ ρ' h e=>by obtain ⟨d,_,e⟩:=map_some e;cases e;rw [Qu];exact h) fun _ _ _ _ _ _ _ hr=>by
  exact read_mk (zN (K':=K) G14 (hr.mono (by omega)) (zd (yK (K':=K) (st:=false) (by rfl) (by exact T.z_isinstance) (by rfl) (by exact T.z_str) PyProof.Rows.boot_str (by decide) (zb 0)) zj))
   (WB (os:=[]) (os':=[]) (i:=1) nd rfl rfl (s:=false) (own:=["row"]) (N':=["text","rows","reading","words","program","row"]) (k:=1) (ww (by kernel_rfl)) rfl (Z9 (K':=K) (SC.sn (SF.seq (sf_split (K':=K) (zb 0) zA)))) (fun _ _ _ _=>(sg_name (i:=5) nd_6 rfl (Or.inl rfl))) (fun _ _ _ _=>ZU) (fun _ _ _ _=>(SF.se (st:=true) (sf_split (K':=K) (zb 5) zA))))
   (Z9 (K':=K) (SE.sn (k:=true) (SF.se (st:=true) (We (K':=K) (sqT (zb 1)) (Yq zg) Yr))))
   (zN (K':=K) G14 (hr.mono (by omega)) (zd (yV (jm Zv zQ (Yk (K':=K) (st:=false) (by rfl) (by exact T.z_len) (sqT (yC (K':=K) (st:=true) (sqT (zb 1)) zg))) zg (zy _)) (YT (jm Zv zQ (yC (K':=K) (st:=false) (sqT (yC (K':=K) (st:=true) (sqT (zb 1)) zg)) zg) zA (zy _)))) zj))
   (zN (K':=K) G18 (hr.mono (by omega)) (zd (yC (K':=K) (st:=true) (sqT (yC (K':=K) (st:=true) (sqT (zb 1)) zg)) zg) zj))
   (zN (K':=K) G14 (hr.mono (by omega)) (zd (zN (K':=K) G0 (hr.mono (by omega)) (zd (zb 4) zj)) zj))
   fun h1 h2 hi h6 h7 h8=>(zJ (zX h1) (zJ h2 (zJ (yY (i:=2) nd rfl (Or.inl rfl) (pe_mk0 G_init (hr.mono (by omega)) (by rfl) T.m_Reading)) (zJ (ps_for PassesOwn.never rfl hi (pg_name (i:=3) nd rfl (Or.inl rfl)) (Zf (zX (WT T.rc.cls G31 (hr.mono (by omega)) (pv 2) (zv (pv 3) zz))))) (zJ (zX (pe_kn G14 (hr.mono (by omega)) (by rfl) (zv (YM Zv (ZW ZK (by rfl) (by exact T.z_len) PySem.boot_len (zv (yi (pv 2) rfl) zz)) ZC (zy _)) zz))) (zJ (zX h6) (zJ (yY (i:=4) nd rfl (Or.inl rfl) (jr (zv h7 (zv (yi (pv 2) rfl) zz)))) (zJ (zX h8) (Zf (J9 (pv 4))))))))))) :)
theorem g'cell :Aq20 P w K mg base:=(y0 P w base 35 ["_law_script","_law_k","_law_number"] ["_law_script","_law_k"] bq20 T.F20 (by decide +kernel) fun nd=>fun _ _ _ _ _ _ _ hr=>⟨_,[],by
  unfold bq20
  exact (zl (Zm (os':=[]) (zH op_lt rok_lt (zb 1) (Yk (K':=K) (st:=false) (by rfl) (by exact T.z_len) (sqT (zb 0))) (zy _)) (zt (zF (yC (K':=K) (st:=false) (sqT (zb 0)) (zb 1)))) zM) (zl (zY (os:=[]) (os':=[]) (i:=2) nd rfl (Or.inl rfl) (zC Z1 ZI (zC yN yL (zb 1) zg) zg)) (zl (Zm (os':=[]) (zH jV jQ (Yk (K':=K) (st:=false) (by rfl) (by exact T.z_len) (sqT (zb 0))) zg (zy _)) (zt (zY (os:=[]) (os':=[]) (i:=2) nd rfl (Or.inl rfl) (zC Z4 ZH (zC Z1 ZI (zC yN yL (yC (K':=K) (st:=true) (sqT (zb 0)) (zC Z4 ZH (zC yN yL (zb 1) zg) (Yk (K':=K) (st:=true) (by rfl) (by exact T.z_len) (sqT (zb 0))))) zg) (zC yN yL (zb 1) zg)) zg))) zM) (zl (zY (os:=[]) (os':=[]) (i:=2) nd rfl (Or.inl rfl) (zC Z4 ZH (zC yN yL (zb 2) (zb 2)) zg)) (zt (zF (zC Z4 ZH (zC yN yL (zC Z1 ZI (zb 2) zg) (zC Z1 ZI (zb 2) zg)) zg)))))))⟩ :)
theorem g'line :Aq21 P w K mg base:=(y0 P w base 35 ["_law_cell_here","_law_many","_law_line_here","_law_k","_law_number","_law_one"] ["_law_cell_here","_law_many"] bq21 T.F21 (by decide +kernel) fun nd=>fun _ _ _ _ _ _ _ hr=>⟨_,[2],by
  unfold bq21
  exact (zl (WC (os:=[]) (os':=[2]) (i:=2) nd rfl (Or.inl rfl) (Zh zj)) (zl (Jq (os:=[2]) rfl (si_range1 (by rfl) (by exact T.z_range) (zC Z1 ZI (zb 1) zg)) ZV (zl (zY (os:=[2]) (os':=[2]) (i:=4) nd rfl (Or.inl rfl) (zC Z4 ZH (zC Z1 ZI (zC yN yL (zC (op_fdivP (hr.mono (by decide))) rok_divP (zb 0) (zC Z1 ZI (zC yN yL (zb 3) (zb 3)) zg)) zg) (zC yN yL (zb 3) zg)) zg)) (zl (zY (os:=[2]) (os':=[2]) (i:=5) nd rfl (Or.inl rfl) (yC (K':=K) (st:=true) (SF.seq (Zh (zd zg (zd zg (zd zg (zd (se_un yU JD zg) (zd zg (zd zg (zd zg (zd zg (zd (se_un yU JD zg) zj))))))))))) (zC Z4 ZH (zb 4) zg))) (zl (Zm (os':=[2]) (zH Zv zQ (zC Z4 ZH (zC Yc Ya (zb 4) zg) zg) zg (zy _)) (zl (zY (os:=[2]) (os':=[2]) (i:=5) nd rfl (Or.inl rfl) (zC Js jn (zC Z4 ZH (zC Yc Ya (zb 4) zg) zg) zg)) (zt (Zm (os':=[2]) (zH jV jQ (zb 3) zg (zy _)) (zt (zY (os:=[2]) (os':=[2]) (i:=5) nd rfl (Or.inl rfl) (zC Js jn (zC Z4 ZH (zb 5) zg) zg))) zM))) zM) (zt (ss_append (os:=[2]) (i:=2) (zb 5))))))) (zt (zF (WJ (K':=K) (st:=false) (by rfl) (by exact T.z_tuple) (sc_own 2))))))⟩ :)
theorem g'deed (G21:Aq21 P w K mg base):Aq22 P w K mg base:=(fn_kF P w base 37 ["_law_cell_here","_law_many","_law_later_on","_law_kind","_law_box"] ["_law_cell_here","_law_many","_law_later_on"] bq22 T.F22 (by decide +kernel) fun nd=>fun _ _ _ _ _ _ _ hr=>⟨_,[],by
  unfold bq22
  exact (zl (zY (os:=[]) (os':=[]) (i:=3) nd rfl (Or.inl rfl) (zC Z4 ZH (zC Yc Ya (zb 0) zg) zg)) (zl (Zm (os':=[]) (SW.sb (jO (zH jV jQ (zb 3) zg (zy _)) (YH (zH (op_neD (K':=K) hr) rok_neD (zb 2) (SF.se (st:=false) (Zh zj)) (zy _))))) (zt (jP (yC (K':=K) (st:=false) (SF.seq (Yn (Z9 (K':=K) (SC.sn (sqT (zb 2)))) (fun _ _ _ _=>ZV) (fun _ _ _ _=>ZU) (fun _ _ _ _=>(ya (zd zA (zd (zS (K':=K) (st:=true) (sqF (zb 5)) zg) zj)))))) (zC Z4 ZH (zC Yc Ya (zb 0) zg) (Yk (K':=K) (st:=true) (by rfl) (by exact T.z_len) (sqT (zb 2))))))) zM) (zl (Zm (os':=[]) (zH Zv zQ (zb 3) zg (zy _)) (zt (ss_retRow2 (os:=[]))) zM) (zl (Zm (os':=[]) (zH Zv zQ (zb 3) zg (zy _)) (zt (ss_retRow1 (os:=[]))) zM) (zl (Zm (os':=[]) (SW.sb (jO (zH Zv zQ (zb 3) zg (zy _)) (YH (zH Zv zQ (zC Z4 ZH (zC Yc Ya (zb 0) zg) zg) zg (zy _))))) (zt (jP (ya (zd zA zj)))) zM) (zl (Zm (os':=[]) (SW.sb (jN (zH Zv zQ (zb 3) zg (zy _)) (YR (zH Zv zQ (zb 1) zg (zy _))))) (zt (jP (ya (zd zA zj)))) zM) (zl (zY (os:=[]) (os':=[]) (i:=4) nd rfl (Or.inl rfl) (zC Z4 ZH (zC Yc Ya (zb 0) zg) (zb 1))) (zl (Zm (os':=[]) (SW.sb (jO (zH jV jQ (zb 3) zg (zy _)) (YH (zH op_lt rok_lt (zb 3) zg (zy _))))) (zt (jP (ya (zd zA (zd (zb 4) zj))))) zM) (zt (jP (ya (zd zA (zd (zb 4) (zd (zN (K':=K) G21 (hr.mono (by omega)) (zd (zC Yc Ya (zb 0) zg) (zd (zb 1) zj))) zj))))))))))))))⟩ :)
theorem g'body (G22:Aq22 P w K mg base):Aq23 P w K mg base:=(y0 P w base 39 ["_law_cells","_law_many","_law_later_on","_law_deep","_law_most","_law_body_here","_law_stack","_law_used","_law_cell_here","_law_row","_law_cost"] ["_law_cells","_law_many","_law_later_on","_law_deep","_law_most"] bq23 T.F23 (by decide +kernel) fun nd=>fun _ _ _ _ _ _ _ hr=>⟨_,[],by
  unfold bq23
  exact (sss_b15 (sr_kn G22 (hr.mono (by omega)) (zd (zb 8) (zd (zb 1) (zd (zb 2) zj)))) (se_sum (K':=K) (st:=true) rfl (by rfl) (by exact T.z_sum) (SF.seq (Yn (Z9 (K':=K) (SC.sn (sqT (zb 2)))) (fun _ _ _ _=>ZV) (fun _ _ _ _=>(spf_one (SW.sb (jO (zH Zv zQ (zS (K':=K) (st:=false) (sqF (zb 9)) zg) zA (zy _)) (YH (zH (jt (K':=K) hr) jp (zS (K':=K) (st:=false) (sqF (zb 11)) zg) (zS (K':=K) (st:=false) (sqF (zb 9)) zg) (zy _))))))) (fun _ _ _ _=>(zS (K':=K) (st:=true) (sqF (zb 11)) zg))))) (zC Z1 ZI (zb 10) (j7 call_int1 caok_int (by rfl) (by exact T.z_int) PyProof.Rows.boot_int (zd (SE.flat (jm wB jo (zS (K':=K) (st:=false) (sqF (zb 9)) zg) zA (zy _))) zj))) (fun hR hK1 hK2=>(zJ (yY (i:=5) nd rfl (Or.inl rfl) (yn zz)) (zJ (yY (i:=6) nd rfl (Or.inl rfl) (yn (zv (yn (zv (pv 5) zz)) zz))) (zJ (yY (i:=7) nd rfl (Or.inl rfl) ZC) (zJ (ps_for PassesOwn.never rfl (pi_list (pv 0)) (pg_name (i:=8) nd rfl (Or.inl rfl)) (Zf (jU (PW.pt (pw_and (YL Zv (pe_op Z4 (pv 8) ZC) ZC (zy _)) (pw_and1 (YL jV (ZW ZK (by rfl) (by exact T.z_len) PySem.boot_len (zv (pv 6) zz)) ZC (zy _))))) (zJ (zX (Yz KI PySem.F.slot_list_pop PySem.F.type_list_pop mt_popAt (Y6 Ys (pv 6) (JN yU ZC) (fun _ _=>rfl)) (zv ZC zz))) (Zf (jU (YL (jt (K':=K) hr) (Y6 Ys (pv 6) (JN yU ZC) (fun _ _=>rfl)) (yn zz) (zy _)) (Zf (zX (pe_bm0 KI PySem.F.slot_list_pop PySem.F.type_list_pop mt_pop (pv 6)))) JM))) (zJ (yY (i:=9) nd rfl (Or.inr rfl) hR) (zJ (yY (i:=10) nd rfl (Or.inl rfl) hK1) (zJ (yY (i:=10) nd rfl (Or.inl rfl) hK2) (Zf (jU (YL WV (pe_op Z1 (pv 7) (pv 10)) (pv 4) (zy _)) (zJ (yY (i:=7) nd rfl (Or.inl rfl) (pe_op Z1 (pv 7) (pv 10))) (zJ (zX (Yz KI PySem.F.slot_list_append PySem.F.type_list_append Z5 (Y6 Ys (Y6 Ys (pv 6) (JN yU ZC) (fun _ _=>rfl)) ZC (fun _ _=>rfl)) (zv (pv 9) zz))) (Zf (jU (PW.pt (pw_and (YL op_in_seq (Y6 ix_tup (pv 9) ZC (fun _ _=>rfl)) (jr (zv Yy (zv Yy zz))) rfl) (pw_and1 (YL op_lt (ZW ZK (by rfl) (by exact T.z_len) PySem.boot_len (zv (pv 6) zz)) (pv 3) (zy _))))) (Zf (zX (Yz KI PySem.F.slot_list_append PySem.F.type_list_append Z5 (pv 6) (zv (SF.pe (os:=[]) (Yn (J4 (K':=K) (SC.sn (sqF (Wj (K':=K) (st:=true) (sqF (zb 9)) (Yq zg) Yr)))) (fun _ _ _ _=>ZV) (fun _ _ _ _=>ZU) (fun _ _ _ _=>(zb 11)))) zz)))) JM)))) JM)))))))) (Zf (J9 (jr (zv (pv 5) (zv (pv 7) zz)))))))))))⟩ :)
theorem g'program (G20:Aq20 P w K mg base) (G23:Aq23 P w K mg base):Aq24 P w K mg base:=(y0 P w base 41 ["_law_script","_law_at","_law_many","_law_most","_law_bodies","_law_later_on","_law_count","_law_k","_law_size","_law_deep","_law_begin","_law_cells","_law_body_here","_law_used"] ["_law_script","_law_at","_law_many","_law_most"] bq24 T.F24 (by decide +kernel) fun nd=>fun _ _ _ _ _ _ _ hr=>⟨_,[],by
  unfold bq24
  exact (zl (zY (os:=[]) (os':=[]) (i:=4) nd rfl (Or.inl rfl) (SF.se (st:=true) (Zh zj))) (zl (zY (os:=[]) (os':=[]) (i:=5) nd rfl (Or.inl rfl) (SF.se (st:=true) (Zh zj))) (zl (zY (os:=[]) (os':=[]) (i:=6) nd rfl (Or.inl rfl) (zC Z1 ZI zg (zC Z4 ZH (zN (K':=K) G20 (hr.mono (by omega)) (zd (zb 0) (zd (zb 1) zj))) zg))) (zl (Jq (os:=[]) rfl (si_rangeD (by rfl) (by exact T.z_range) (zC Js jn (zb 6) zg) (se_un yU JD zg)) ZV (zl (zY (os:=[]) (os':=[]) (i:=8) nd rfl (Or.inl rfl) zg) (zl (zY (os:=[]) (os':=[]) (i:=9) nd rfl (Or.inl rfl) zg) (zl (Zm (os':=[]) (zH Zv zQ (zb 7) zg (zy _)) (zl (zY (os:=[]) (os':=[]) (i:=8) nd rfl (Or.inl rfl) (zC Z1 ZI zg (zC Z4 ZH (zC Yc Ya (zN (K':=K) G20 (hr.mono (by omega)) (zd (zb 0) (zd (zb 1) zj))) zg) zg))) (zt (zY (os:=[]) (os':=[]) (i:=9) nd rfl (Or.inl rfl) zg))) zM) (zl (zY (os:=[]) (os':=[]) (i:=10) nd rfl (Or.inr rfl) (zC Z1 ZI (zC Z1 ZI (zC Z1 ZI (zb 1) zg) (zC yN yL zg (j7 call_int1 caok_int (by rfl) (by exact T.z_int) PyProof.Rows.boot_int (zd (SE.flat (jm jV jQ (zb 7) zg (zy _))) zj)))) (zC yN yL zg (zb 7)))) (zl (ss_sT (os:=[]) (os':=[]) (i:=11) nd (si_range1 (by rfl) (by exact T.z_range) (zb 8)) (fun _ _ _ _=>ZV) (fun _ _ _ _=>ZU) (fun _ _ _ _=>(zN (K':=K) G20 (hr.mono (by omega)) (zd (zb 0) (zd (zC Z1 ZI (zb 10) (zb 14)) zj))))) (zl (ss_asg (os:=[]) (zN (K':=K) G23 (hr.mono (by omega)) (zd (zb 11) (zd (zb 2) (zd (zb 5) (zd (zb 9) (zd (zb 3) zj)))))) (sg_tup (K':=K) rfl (Y3 ZV (Y3 ZV sgs_nil)))) (zl (Zm (os':=[]) (SW.sb (jO (zH Zv zQ (zb 6) zg (zy _)) (YH (zH Zv zQ (zC Z4 ZH (zC Yc Ya (zN (K':=K) G20 (hr.mono (by omega)) (zd (zb 0) (zd (zb 1) zj))) zg) zg) zg (zy _))))) (zt (zY (os:=[]) (os':=[]) (i:=12) nd rfl (Or.inl rfl) (SF.se (st:=true) (Zh (zd (ya (zd zA (zd (SF.se (st:=true) (Zh zj)) (zd (SF.se (st:=true) (Zh (zd (ya (zd zA (zd (SF.se (st:=true) (Zh (zd (ya (zd zA (zd (zb 12) (zd (SF.se (st:=true) (Zh zj)) zj)))) zj))) zj))) zj))) zj)))) zj))))) zM) (zl (zY (os:=[]) (os':=[]) (i:=4) nd rfl (Or.inl rfl) (SF.se (st:=true) (YS (SF.sl (Zh (zd (zb 12) zj))) (SE.sl (zb 4))))) (zt (zY (os:=[]) (os':=[]) (i:=5) nd rfl (Or.inl rfl) (SF.se (st:=true) (YS (SF.sl (Zh (zd (ya (zd (zb 7) (zd (zb 13) zj))) zj))) (SE.sl (zb 5))))))))))))))) (zt (zF (ya (zd (zb 2) (zd (zb 4) zj)))))))))⟩ :)
theorem g'words :Aq25 P w K mg base:=(y0 P w base 35 ["_law_numbers"] ["_law_numbers"] bq25 T.F25 (by decide +kernel) fun nd=>fun _ _ _ _ _ _ _ hr=>⟨_,[],by
  unfold bq25
  exact (zt (zF (Wh (K':=K) (st:=false) zA (SF.seq (Yn (J4 (K':=K) (SC.sn (sqF (zb 0)))) (fun _ _ _ _=>ZV) (fun _ _ _ _=>ZU) (fun _ _ _ _=>(zC Zi ZD zA (Wg (st:=true) (by rfl) (by exact T.z_str) (zd (zb 1) zj)))))))))⟩ :)
theorem g'shown (G25:Aq25 P w K mg base) (n:Nat):Kn P w K mg base "_law_shown" (38+2*n) ["_law_rows"] (spM K (Rq26 n)):=by
 induction n with
 | zero=>exact Kn.no T.F26
 | succ n ih =>
  have G26:=ih
  exact (y0 P w base (38+2*n+1) ["_law_rows","_law_found","_law_row"] ["_law_rows"] (bq26 ((Rq26 n))) T.F26 (by decide +kernel) fun nd=>fun _ _ _ _ _ _ _ hr=>⟨_,[],by
  unfold bq26
  exact (zl (zY (os:=[]) (os':=[]) (i:=1) nd rfl (Or.inl rfl) zA) (zl (Jq (os:=[]) rfl (Z9 (K':=K) (SE.sn (k:=true) (zb 0))) ZV (zl (zY (os:=[]) (os':=[]) (i:=1) nd rfl (Or.inl rfl) (zC Zi ZD (zC Zi ZD (zb 1) zA) (zS (K':=K) (st:=true) (sqF (zb 2)) zg))) (zt (Zm (os':=[]) (zH Zv zQ (zS (K':=K) (st:=false) (sqF (zb 2)) zg) zA (zy _)) (zt (zY (os:=[]) (os':=[]) (i:=1) nd rfl (Or.inl rfl) (zC Zi ZD (zC Zi ZD (zC Zi ZD (zb 1) zA) (Wg (st:=true) (by rfl) (by exact T.z_str) (zd (zS (K':=K) (st:=true) (sqF (zb 2)) zg) zj))) (zN (K':=K) G25 (hr.mono (by omega)) (zd (zS (K':=K) (st:=true) (sqF (zb 2)) zg) zj))))) (zt (Zm (os':=[]) (zH Zv zQ (zS (K':=K) (st:=false) (sqF (zb 2)) zg) zA (zy _)) (zt (zY (os:=[]) (os':=[]) (i:=1) nd rfl (Or.inl rfl) (zC Zi ZD (zC Zi ZD (zC Zi ZD (zC Zi ZD (zb 1) (zN (K':=K) G26 (hr.mono (by omega)) (zd (zS (K':=K) (st:=true) (sqF (zb 2)) zg) zj))) zA) (zN (K':=K) G26 (hr.mono (by omega)) (zd (zS (K':=K) (st:=true) (sqF (zb 2)) zg) zj))) zA))) (zt (Zm (os':=[]) (zH Zv zQ (zS (K':=K) (st:=false) (sqF (zb 2)) zg) zA (zy _)) (zt (zY (os:=[]) (os':=[]) (i:=1) nd rfl (Or.inl rfl) (zC Zi ZD (zC Zi ZD (zb 1) (zN (K':=K) G26 (hr.mono (by omega)) (zd (zS (K':=K) (st:=true) (sqF (zb 2)) zg) zj))) zA))) (zt (zY (os:=[]) (os':=[]) (i:=1) nd rfl (Or.inl rfl) (zC Zi ZD (zb 1) (zN (K':=K) G25 (hr.mono (by omega)) (zd (Wj (K':=K) (st:=true) (sqF (zb 2)) (Yq zg) Yr) zj))))))))))))) (zt (zF (zb 1)))))⟩ :)
theorem g'due (G26:Aq26 P w K mg base):Aq27 P w K mg base:=(y0 P w base 159 ["_law_program_here"] ["_law_program_here"] bq27 T.F27 (by decide +kernel) fun nd=>fun _ _ _ _ _ _ _ hr=>⟨_,[],by
  unfold bq27
  exact (zt (zF (zC Zi ZD (zC Zi ZD zA (Wg (st:=false) (by rfl) (by exact T.z_str) (zd (zS (K':=K) (st:=false) (sqF (zb 0)) zg) zj))) (Wh (K':=K) (st:=false) zA (SF.seq (Yn (Z9 (K':=K) (SC.sn (sqT (zS (K':=K) (st:=true) (sqF (zb 0)) zg)))) (fun _ _ _ _=>ZV) (fun _ _ _ _=>ZU) (fun _ _ _ _=>(zC Zi ZD zA (zN (K':=K) G26 (hr.mono (by omega)) (zd (zb 1) zj))))))))))⟩ :)
theorem g'alike  (n:Nat):Kn P w K mg base "_law_alike" (36+2*n) ["_law_found","_law_due_here"] (spM K (Ji n)):=by
 induction n with
 | zero=>exact Kn.no T.F28
 | succ n ih =>
  have G28:=ih
  exact (y0 P w base (36+2*n+1) ["_law_found","_law_due_here"] ["_law_found","_law_due_here"] (bq28 ((Ji n))) T.F28 (by decide +kernel) fun nd=>fun _ _ _ _ _ _ _ hr=>⟨_,[],by
  unfold bq28
  exact (zl (Zm (os':=[]) (yr (se_isi2 (K':=K) (st:=false) (by rfl) (by exact T.z_isinstance) (by exact T.z_tuple) (by exact T.z_list) (zb 1))) (zl (Zm (os':=[]) (SW.sb (jN (zH wB jo (yK (K':=K) (st:=false) (by rfl) (by exact T.z_isinstance) (by rfl) (by exact T.z_tuple) PyProof.Rows.boot_tuple (by decide) (zb 0)) (yK (K':=K) (st:=false) (by rfl) (by exact T.z_isinstance) (by rfl) (by exact T.z_tuple) PyProof.Rows.boot_tuple (by decide) (zb 1)) (zy _)) (YR (yW (yr (se_isi2 (K':=K) (st:=false) (by rfl) (by exact T.z_isinstance) (by exact T.z_tuple) (by exact T.z_list) (zb 0))))))) (zt (zF YI)) zM) (zl (Zm (os':=[]) (zH wB jo (se_lenA (K':=K) (st:=false) (by rfl) (by exact T.z_len) (zb 0)) (se_lenA (K':=K) (st:=false) (by rfl) (by exact T.z_len) (zb 1)) (zy _)) (zt (zF YI)) zM) (zt (zF (JH (K':=K) (st:=false) rfl (by rfl) (by exact T.z_all) (SF.seq (Yn (SI.weak (si_zipA (K':=K) (by rfl) (by exact T.z_zip) (zb 0) (zb 1))) (fun _ _ _ _=>(sg_tup (K':=K) rfl (Y3 ZV (Y3 ZV sgs_nil)))) (fun _ _ _ _=>ZU) (fun _ _ _ _=>(zN (K':=K) G28 (hr.mono (by omega)) (zd (zb 2) (zd (zb 3) zj))))))))))) zM) (zl (Zm (os':=[]) (SW.sb (jN (yr (yK (K':=K) (st:=false) (by rfl) (by exact T.z_isinstance) (by rfl) (by exact T.z_bool) PyProof.Rows.boot_bool (by decide) (zb 0))) (YR (zH wB jo (yK (K':=K) (st:=false) (by rfl) (by exact T.z_isinstance) (by rfl) (by exact T.z_str) PyProof.Rows.boot_str (by decide) (zb 0)) (yK (K':=K) (st:=false) (by rfl) (by exact T.z_isinstance) (by rfl) (by exact T.z_str) PyProof.Rows.boot_str (by decide) (zb 1)) (zy _))))) (zt (zF YI)) zM) (zt (zF (jm (jt (K':=K) hr) jp (zb 0) (zb 1) (zy _))))))⟩ :)
theorem g_law (G20:Aq20 P w K mg base) (G24:Aq24 P w K mg base) (G27:Aq27 P w K mg base) (G12:Aq12 P w K mg base) (G13:Aq13 P w K mg base) (G28:Aq28 P w K mg base) {f:Kc} {fd:Kh} (F:Fun K "law" "law" (top 43) f fd):FnOk P w K mg base CX0 176 f fd ["_law_script"] (spM K mq29):=(fn_kX P w base 175 ["_law_script","_law_many","_law_program_here","_law_last","_law_kept","_law_due_here","_law_found","_law_told"] ["_law_script"] bq29 F (by decide +kernel) fun nd=>fun _ _ _ _ _ _ _ hr=>⟨_,[],by
  unfold bq29
  have P_read:=Kn.toldR G13
  exact (zl (zY (os:=[]) (os':=[]) (i:=1) nd rfl (Or.inl rfl) (zC Z4 ZH (zN (K':=K) G20 (hr.mono (by omega)) (zd (zb 0) (zd zg zj))) zg)) (zl (zY (os:=[]) (os':=[]) (i:=2) nd rfl (Or.inl rfl) (zN (K':=K) G24 (hr.mono (by omega)) (zd (zb 0) (zd zg (zd (zb 1) (zd zg zj)))))) (zl (zY (os:=[]) (os':=[]) (i:=3) nd rfl (Or.inl rfl) (SF.se (st:=true) (We (K':=K) (SF.seq (Zh (zd (ya (zd zA (zd (SF.se (st:=true) (Zh (zd (ya (zd zA (zd (SF.se (st:=true) (Zh (zd (ya (zd zA zj)) zj))) (zd (SF.se (st:=true) (Zh zj)) zj)))) zj))) zj))) (zd (ya (zd zA zj)) zj)))) Yr (Yq (zC Z4 ZH (zN (K':=K) G20 (hr.mono (by omega)) (zd (zb 0) (zd zg zj))) zg))))) (zl (Zm (os':=[]) (SW.sb (jO (zH Zv zQ (zC Z4 ZH (zC Yc Ya (zN (K':=K) G20 (hr.mono (by omega)) (zd (zb 0) (zd zg zj))) zg) zg) zg (zy _)) (YH (zH op_lt rok_lt (Yk (K':=K) (st:=false) (by rfl) (by exact T.z_len) (sqT (zS (K':=K) (st:=true) (sqF (zb 2)) zg))) zg (zy _))))) (zt (zY (os:=[]) (os':=[]) (i:=2) nd rfl (Or.inl rfl) (ya (zd (zb 1) (zd (SF.se (st:=true) (YS (SE.sl (zS (K':=K) (st:=true) (sqF (zb 2)) zg)) (SF.sl (Zh (zd (zb 3) zj))))) zj))))) zM) (zl (zY (os:=[]) (os':=[]) (i:=4) nd rfl (Or.inl rfl) (SE.flat (se_repr (K':=K) (st:=false) hr (by rfl) (by exact T.z_repr) (zd (zb 2) zj)))) (zl (zY (os:=[]) (os':=[]) (i:=5) nd rfl (Or.inl rfl) (zN (K':=K) G27 (hr.mono (by omega)) (zd (zb 2) zj))) (zl (zY (os:=[]) (os':=[]) (i:=6) nd rfl (Or.inl rfl) (zN (K':=K) G12 (hr.mono (by omega)) (zd (zb 2) zj))) (zl (Zm (os':=[]) (SW.sb (jN (yW (yr (yK (K':=K) (st:=false) (by rfl) (by exact T.z_isinstance) (by rfl) (by exact T.z_str) PyProof.Rows.boot_str (by decide) (zb 6)))) (jN (zH wB jo (zb 6) (zb 5) (zy _)) (YR (zH wB jo (se_repr (K':=K) (st:=false) hr (by rfl) (by exact T.z_repr) (zd (zb 2) zj)) (zb 4) (zy _)))))) (zt (zF YI)) zM) (ss_kr (i:=7) nd G13 (hr.mono (by omega)) (xr_if (yW (yr (zN (K':=K) G28 (hr.mono (by omega)) (zd (zb 7) (zd (zb 2) zj))))) (zt (zF YI)) (xr_app (i:=7) (ya (zd zA zj)) (zt (zF (yV (jm Zv zQ (zN (K':=K) G12 (hr.mono (by omega)) (zd (zb 2) zj)) (zb 5) (zy _)) (yV (zN (K':=K) G28 (hr.mono (by omega)) (zd (zN (K':=K) P_read (hr.mono (by omega)) (zd (zb 5) zj)) (zd (zb 2) zj))) (YT (jm Zv zQ (se_repr (K':=K) (st:=false) hr (by rfl) (by exact T.z_repr) (zd (zb 2) zj)) (zb 4) (zy _))))))))) (zd (zb 5) zj))))))))))⟩ :)
theorem all_ok {f:Kc} {fd:Kh} (F:Fun K "law" "law" (top 43) f fd):FnOk P w K mg base CX0 176 f fd ["_law_script"] (spM K mq29):=by
 have G1:=g_has_parts (P:=P) (w:=w) (base:=base) T
 have G2:=g_is_number (P:=P) (w:=w) (base:=base) T
 have G5:=g_is_set_line (P:=P) (w:=w) (base:=base) T G1 G2
 obtain ⟨G3,G4⟩:=g_are_rows (P:=P) (w:=w) (base:=base) T G1 G2 G5 60
 have G7:=g_lists_in (P:=P) (w:=w) (base:=base) T
 obtain ⟨G8,G9⟩:=g_new_places (P:=P) (w:=w) (base:=base) T G7 60
 obtain ⟨G10,G11⟩:=g_depth (P:=P) (w:=w) (base:=base) T G7 60
 have G6:=JX (P:=P) (w:=w) (base:=base) T G8 G10
 have G0:=g_is_program (P:=P) (w:=w) (base:=base) T G1 G2 G3 G6
 have G17:=g_row_text (P:=P) (w:=w) (base:=base) T
 obtain ⟨G15,G16⟩:=wV (P:=P) (w:=w) (base:=base) T G17 60
 have G12:=g_show (P:=P) (w:=w) (base:=base) T G17 G15
 have G14:=g_ask (P:=P) (w:=w) (base:=base) T
 have G18:=g_number_in (P:=P) (w:=w) (base:=base) T
 have G19:=g_row_of (P:=P) (w:=w) (base:=base) T G18
 have G13:=g_read (P:=P) (w:=w) (base:=base) T G14 G18 G0 G19
 have G20:=g'cell (P:=P) (w:=w) (base:=base) T
 have G21:=g'line (P:=P) (w:=w) (base:=base) T
 have G22:=g'deed (P:=P) (w:=w) (base:=base) T G21
 have G23:=g'body (P:=P) (w:=w) (base:=base) T G22
 have G24:=g'program (P:=P) (w:=w) (base:=base) T G20 G23
 have G25:=g'words (P:=P) (w:=w) (base:=base) T
 have G26:=g'shown (P:=P) (w:=w) (base:=base) T G25 60
 have G27:=g'due (P:=P) (w:=w) (base:=base) T G26
 have G28:=g'alike (P:=P) (w:=w) (base:=base) T  60
 exact g_law T G20 G24 G27 G12 G13 G28 F
end
end EV
namespace M
open PySem PySem.Spec L2
section
variable {ρ ρ1 ρ2:Ev} {S S1 S2:List D} {d d1 d2:D} {F F':WF} {G:WL} {M1 M2:WM} {f:Ev->Option D}
end
end M
namespace RW
open PySem PySem.Spec L2 M
def names:List Kw:=["set","take","skip","halt","either","loop","call"]
def Sc:D->Bool
 | .non=>true
 | .bl _=>true
 | .int i=>decide (i.natAbs<=10 ^ 50)
 | .str x=>names.contains x
 | _=>false
def Fi:Nat->D->Prop
 | 0,d=>Sc d=true
 | n+1,d=>Sc d=true\/∃ ds,(d=.tup ds\/d=.lst ds)/\∀ r∈ds,Fi n r
theorem Fi.sc {d:D} (h:Sc d=true):∀ n,Fi n d
 | 0=>h
 | n+1=>.inl h
theorem Fi.up:∀ {n:Nat} {d:D},Fi n d->Fi (n+1) d
 | 0,d,h=>.inl h
 | n+1,d,h=>by
  rcases h with h | ⟨ds,e,h⟩
  ·exact .inl h
  ·exact .inr ⟨ds,e,fun r hr=>(h r hr).up⟩
theorem Fi.mono {n m:Nat} {d:D} (h:Fi n d) (hm:n<=m):Fi m d:=by
  induction m with
  | zero => have e : n = 0 := by omega
            subst e;exact h
  | succ m ih =>
    by_cases e:n=m+1
    . subst e;exact h
    . exact (ih (by omega)).up
theorem Fi.int {i:Int} (h:i.natAbs<=10 ^ 50) (n:Nat):Fi n (.int i):=Fi.sc (d:=.int i) (KS h) n
theorem Fi.str {x:Kw} (h:names.contains x=true) (n:Nat):Fi n (.str x):=Fi.sc (d:=.str x) h n
theorem names_ok:names.all PyData.strOk=true:=by decide +kernel
theorem sc_lay {d:D} (h:Sc d=true):(zZ d).canLay0=true/\(zZ d).depth=0:=by
 cases d with
 | str x =>
  refine ⟨?_,by simp only [zZ];rw [PyData.depth]⟩
  simp only [zZ]
  rw [PyData.canLay0]
  exact Q8.mp names_ok x (by simpa [Sc] using h)
 | non=>exact ⟨by simp only [zZ];rw [PyData.canLay0],by simp only [zZ];rw [PyData.depth]⟩
 | bl b=>exact ⟨by simp only [zZ];rw [PyData.canLay0],by simp only [zZ];rw [PyData.depth]⟩
 | int i=>exact ⟨by simp only [zZ];rw [PyData.canLay0],by simp only [zZ];rw [PyData.depth]⟩
 | _=>cases h
theorem JU:∀ {ds:List D} {k:Nat},(∀ r∈ds,(zZ r).canLay0=true/\(zZ r).depth<=k)->PyData.canLayAll0 (Zx ds)=true/\PyData.depthAll (Zx ds)<=k
 | [],k,_=>⟨by rw [Zx,PyData.canLayAll0],by rw [Zx,PyData.depthAll];omega⟩
 | d::ds,k,h=>by
  obtain ⟨h1,h2⟩:=h d Qj
  obtain ⟨h3,h4⟩:=JU fun r hr=>h r (Qc _ hr)
  rw [Zx,PyData.canLayAll0,PyData.depthAll,h1,h3]
  exact ⟨rfl,by omega⟩
theorem Fi.lay:∀ {n:Nat} {d:D},Fi n d->(zZ d).canLay0=true/\(zZ d).depth<=n
 | 0,d,h=>⟨(sc_lay h).1,by rw [(sc_lay h).2];omega⟩
 | n+1,d,h=>by
  rcases h with h | ⟨ds,rfl | rfl,h⟩
  ·exact ⟨(sc_lay h).1,by rw [(sc_lay h).2];omega⟩
  ·obtain ⟨h1,h2⟩:=JU fun r hr=>(h r hr).lay
   rw [zZ,PyData.canLay0,PyData.depth]
   exact ⟨h1,by omega⟩
  ·obtain ⟨h1,h2⟩:=JU fun r hr=>(h r hr).lay
   rw [zZ,PyData.canLay0,PyData.depth]
   exact ⟨h1,by omega⟩
mutual
def wt:D->Nat
 | .tup ds=>wts ds
 | .lst ds=>wts ds
 | _=>8
def wts:List D->Nat
 | []=>0
 | d::ds=>wt d+1+wts ds
end
theorem names_sz:names.all (fun x=>decide (x.cps.size<=8)&&x.cps.toList.all fun c=>decide (c<16 ^ 8))=true:=by decide +kernel
theorem repr_len (i:Int) (h:i.natAbs<=10 ^ 50):(PyData.int i).shown.length<=60:=by
  rw [PyData.shown]
  have key:∀ n:Nat,n<=10 ^ 50->(Str.ofString (toString (n:Int))).length<=51:=fun n hn =>
    PyProof.Rows.toString_length_le (k:=51) (P8 n) (by decide) (by
      have:(n:Int)<=((10 ^ 50:Nat):Int):=Int.ofNat_le.mpr hn
      have e:((10 ^ 50:Nat):Int)<10 ^ 51:=by decide
      exact Int.lt_of_le_of_lt this e)
  cases i with
  | ofNat n=>exact QA (key n h) (by decide)
  | negSucc n =>
    have h1 := key (n + 1) (by have : (Int.negSucc n).natAbs = n + 1 := rfl
                               omega)
    rw [PySem.ofString_length] at h1 ⊢
    have e:toString (Int.negSucc n)="-"++toString ((n+1:Nat):Int):=rfl
    rw [e,String.length_append]
    have:"-".length=1:=by decide
    omega
theorem log_ok (i:Int) (h:i.natAbs<=10 ^ 50):i.natAbs.log2<1920:=by
 by_cases h0:i.natAbs=0
 ·rw [h0];decide
 ·exact (Nat.log2_lt h0).mpr (Q0 h (by decide +kernel))
structure Sw (p:PyData) (w:Nat):Prop where
 sh:p.showable=true
 nd:p.hasDict=false
 sl:PyData.leavesShort 60 p=true
 bk:p.bulk<=w
theorem wt_sc {d:D} (h:Sc d=true):wt d=8:=by cases d <;> first | cases h;done | simp [wt]
theorem sc_sw {d:D} (h:Sc d=true):Sw (zZ d) (wt d):=by
 cases d with
 | non=>rw [zZ,wt_sc h];exact ⟨by rw [PyData.showable],by rw [PyData.hasDict],by rw [PyData.leavesShort],by rw [PyData.bulk];omega⟩
 | bl b=>rw [zZ,wt_sc h];exact ⟨by rw [PyData.showable],by rw [PyData.hasDict],by rw [PyData.leavesShort],by rw [PyData.bulk];omega⟩
 | int i =>
  have hi:i.natAbs<=10 ^ 50:=of_decide_eq_true h
  rw [zZ,wt_sc h]
  exact ⟨by rw [PyData.showable];exact KS (log_ok i hi),by rw [PyData.hasDict],by rw [PyData.leavesShort];exact KS (repr_len i hi),by rw [PyData.bulk];omega⟩
 | str x =>
  have hx:=Q8.mp names_sz x (by simpa [Sc] using h)
  rw [QC,decide_eq_true_eq] at hx
  rw [zZ,wt_sc h]
  exact ⟨by rw [PyData.showable],by rw [PyData.hasDict],by rw [PyData.leavesShort];exact hx.2,by rw [PyData.bulk];exact hx.1⟩
 | _=>cases h
theorem all_sw:∀ {ds:List D},(∀ r∈ds,Sw (zZ r) (wt r))->PyData.showableAll (Zx ds)=true/\PyData.hasDictAll (Zx ds)=false/\PyData.leavesShortAll 60 (Zx ds)=true/\PyData.bulkAll (Zx ds)<=wts ds
 | [],_=>⟨by rw [Zx,PyData.showableAll],by rw [Zx,PyData.hasDictAll],by rw [Zx,PyData.leavesShortAll],by rw [Zx,PyData.bulkAll];omega⟩
 | d::ds,h=>by
  have h1:=h d Qj
  obtain ⟨a,b,c,e⟩:=all_sw fun r hr=>h r (Qc _ hr)
  have:=h1.bk
  rw [Zx,PyData.showableAll,PyData.hasDictAll,PyData.leavesShortAll,PyData.bulkAll,wts,h1.sh,h1.nd,h1.sl,a,b,c]
  exact ⟨rfl,rfl,rfl,by omega⟩
theorem Fi.sw:∀ {n:Nat} {d:D},Fi n d->Sw (zZ d) (wt d)
 | 0,d,h=>sc_sw h
 | n+1,d,h=>by
  rcases h with h | ⟨ds,rfl | rfl,h⟩
  ·exact sc_sw h
  ·obtain ⟨a,b,c,e⟩:=all_sw fun r hr=>(h r hr).sw
   rw [zZ,wt]
   exact ⟨by rw [PyData.showable];exact a,by rw [PyData.hasDict];exact b,by rw [PyData.leavesShort];exact c,by rw [PyData.bulk];exact e⟩
  ·obtain ⟨a,b,c,e⟩:=all_sw fun r hr=>(h r hr).sw
   rw [zZ,wt]
   exact ⟨by rw [PyData.showable];exact a,by rw [PyData.hasDict];exact b,by rw [PyData.leavesShort];exact c,by rw [PyData.bulk];exact e⟩
theorem Fi.shown {n:Nat} {d:D} (h:Fi n d) (hn:n<=60) (hw:wt d<=200000):shOk d=true:=by
 obtain ⟨a,b⟩:=h.lay
 have s:=h.sw
 have h1:=PyData.shown_le_bulk 60 (by omega) _ s.sl
 have h2:=s.bk
 unfold shOk
 rw [a,s.sh,s.nd,KS (by omega),KS (by
  have:62*200000+60<=Kg:=by decide
  have h3:(60+2)*(zZ d).bulk<=(60+2)*200000:=Nat.mul_le_mul_left _ (by omega)
  omega)]
 rfl
theorem Fi.repr {n:Nat} {d:D} (h:Fi n d) (hn:n<=60) (hw:wt d<=200000):Jn [d]=some (.str (zZ d).shown):=by
 show (if shOk d=true then _ else _)=_
 rw [KQ (h.shown hn hw)]
theorem j5:∀ a b:List D,wts (a++b)=wts a+wts b
 | [],b=>by rw [QK,wts];omega
 | d::a,b=>by rw [QF,wts,wts,j5 a b];omega
def Py (n:Nat) (d:D):Prop:=(zZ d).canLay0=true/\(zZ d).depth<=n
theorem Fi.pyd {n:Nat} {d:D} (h:Fi n d):Py n d:=h.lay
theorem Py.mono {n m:Nat} {d:D} (h:Py n d) (hm:n<=m):Py m d:=⟨h.1,QA h.2 hm⟩
theorem Py.int (i:Int) (n:Nat):Py n (.int i):=⟨by rw [zZ,PyData.canLay0],by rw [zZ,PyData.depth];omega⟩
theorem Py.tup {n:Nat} {ds:List D} (h:∀ r∈ds,Py n r):Py (n+1) (.tup ds):=by
 obtain ⟨h1,h2⟩:=JU h
 unfold Py
 rw [zZ,PyData.canLay0,PyData.depth]
 exact ⟨h1,by omega⟩
theorem Py.lst {n:Nat} {ds:List D} (h:∀ r∈ds,Py n r):Py (n+1) (.lst ds):=by
 obtain ⟨h1,h2⟩:=JU h
 unfold Py
 rw [zZ,PyData.canLay0,PyData.depth]
 exact ⟨h1,by omega⟩
theorem Py.eq {n:Nat} {d:D} (h:Py n d) (hn:n<=64):YY d d=some (.bl true):=by
 have hp:YX d=true:=by
  unfold YX SeqAt.shaped
  rw [h.1,KS (QA h.2 hn)];rfl
 unfold YY
 rw [KQ ⟨hp,hp⟩,eqD_self hp]
end RW
namespace EV
open PySem PySem.Spec L2 M
variable {mm:Nat}
inductive Rq where
 | one (x:Kw) (ps:List D) | call (k:Nat) | loop (rs:List Rq) | either (a b:List Rq)
mutual
def Rq.toD:Rq->D
 | .one x ps=>.tup (.str x::ps)
 | .call k=>.tup [.str "call",.int (k:Nat)]
 | .loop rs=>.tup [.str "loop",.lst (qDs rs)]
 | .either a b=>.tup [.str "either",.lst (qDs a),.lst (qDs b)]
def qDs:List Rq->List D
 | []=>[]
 | r::rs=>r.toD::qDs rs
end
theorem jq:∀ rs:List Rq,qDs rs=rs.map Rq.toD
 | []=>by simp [qDs]
 | r::rs=>by simp [qDs,jq rs]
def Lf:D->Bool
 | .int _=>true
 | .tup _=>true
 | _=>false
def Dk (mm:Nat) (x:Kw) (ps:List D):Prop:=(x="skip"/\ps=[])\/(x="halt"/\ps=[])\/(∃ box:Nat,x="take"/\ps=[.int box]/\box<mm) \/
 ∃ (box:Nat) (ns:List Int),x="set"/\ps=[.int box,.tup (ns.map .int)]/\box<mm/\ns.length=mm+1/\∀ n∈ns,n.natAbs<=999999
mutual
def Rq.ok (mm nb:Nat):Rq->Prop
 | .one x ps=>(x≠"call"/\x≠"loop"/\x≠"either")/\ps.length<=10/\(∀ p∈ps,Lf p=true)/\RW.Py 5 (.tup (.str x::ps))/\Dk mm x ps
 | .call k=>k<nb
 | .loop rs=>oks mm nb rs/\rs.length<=100
 | .either a b=>(oks mm nb a/\a.length<=100)/\oks mm nb b/\b.length<=100
def oks (mm nb:Nat):List Rq->Prop
 | []=>True
 | r::rs=>r.ok mm nb/\oks mm nb rs
end
mutual
def Rq.rk (g:Nat->Nat):Rq->Nat
 | .one _ _=>0
 | .call k=>g k+1
 | .loop rs=>rks g rs+1
 | .either a b=>max (rks g a) (rks g b)+1
def rks (g:Nat->Nat):List Rq->Nat
 | []=>0
 | r::rs=>max (r.rk g) (rks g rs)
end
theorem yM {g:Nat->Nat}:∀ {rs:List Rq} {r:Rq},r∈rs->r.rk g<=rks g rs
 | x::rs,r,h=>by
  rw [rks]
  rcases Qa.mp h with rfl | h
  ·omega
  ·have:=yM (g:=g) h;omega
theorem yb {nb:Nat}:∀ {rs:List Rq} {r:Rq},oks mm nb rs->r∈rs->r.ok mm nb
 | x::rs,r,o,h=>by
  rw [oks] at o
  rcases Qa.mp h with rfl | h
  ·exact o.1
  ·exact yb o.2 h
theorem WH {n:Nat} (h:n<=1000000):n<=Kg:=QA h (by decide)
theorem size8 {n:Nat} (h:n<=1000000):n<Kg:=Q0 h (by decide)
theorem ZL {ρ:Ev} {i:Nat} {d:D} (h:ρ[i]?=some (some d)):zc i ρ=some d:=by unfold zc;rw [h];rfl
theorem eq_t {x:Kw}:Ze (.str x) (.str x)=some (.bl true):=by unfold Ze;rw [eqS,KS rfl];rfl
theorem eq_f {x y:Kw} (h:x≠y):Ze (.str x) (.str y)=some (.bl false):=by unfold Ze;rw [eqS,KU h];rfl
theorem ne_t {x y:Kw} (h:x≠y):je (.str x) (.str y)=some (.bl true):=by unfold je;rw [eqS,KU h];rfl
theorem ne_f {x:Kw}:je (.str x) (.str x)=some (.bl false):=by unfold je;rw [eqS,KS rfl];rfl
theorem W7 {ρ:Ev} {i:Nat} {x:Kw} {ps:List D} (h:ρ[i]?=some (some (.tup (.str x::ps)))):fIx (zk false (zc i)) (fC (.int 0)) ρ=some (.str x):=Z7 (yh (ZL h)) rfl (zL (j:=0) rfl)
theorem kis {ρ:Ev} {i:Nat} {x:Kw} {ps:List D} (h:ρ[i]?=some (some (.tup (.str x::ps)))):zw (f2 Ze (fIx (zk false (zc i)) (fC (.int 0))) (fC (.str x))) ρ=some true:=zP (f2v (W7 h) rfl eq_t)
theorem kno {ρ:Ev} {i:Nat} {x y:Kw} {ps:List D} (h:ρ[i]?=some (some (.tup (.str x::ps)))) (n:x≠y):zw (f2 Ze (fIx (zk false (zc i)) (fC (.int 0))) (fC (.str y))) ρ=some false:=zP (f2v (W7 h) rfl (eq_f n))
theorem tup3v {ρ:Ev} {f f' f'':Ev->Option D} {d d' d'':D} (e:f ρ=some d) (e':f' ρ=some d') (e'':f'' ρ=some d''):ZO (za f (za f' (za f'' zi))) ρ=some (.tup [d,d',d'']):=by
 rw [fTup_,ZQ,e,oB,ZQ,e',oB,ZQ,e''];exact dTup_ (yz (by simp))
theorem wY {a b:Int}:yo (.int a) (.int b)=some (.int (a+b)):=rfl
end EV
namespace RW
open PySem L2 M
inductive Rw where
 | skip | halt | call (k:Nat) | loop (rs:List Rw) | either (a b:List Rw)
mutual
def Rw.ht:Rw->Nat
 | .loop rs=>hts rs+1
 | .either a b=>max (hts a) (hts b)+1
 | _=>0
def hts:List Rw->Nat
 | []=>0
 | r::rs=>max r.ht (hts rs)
end
mutual
def Rw.ok (f l:Nat):Rw->Prop
 | .call k=>f<=k/\k<=l
 | .loop rs=>oks f l rs/\rs.length<=100
 | .either a b=>(oks f l a/\a.length<=100)/\oks f l b/\b.length<=100
 | _=>True
def oks (f l:Nat):List Rw->Prop
 | []=>True
 | r::rs=>r.ok f l/\oks f l rs
end
mutual
def Rw.np (g:Nat->Int):Rw->Int
 | .call k=>g k
 | .loop rs=>1+nps g rs
 | .either a b=>1+(nps g a+nps g b)
 | _=>1
def nps (g:Nat->Int):List Rw->Int
 | []=>0
 | r::rs=>r.np g+nps g rs
end
mutual
def Rw.dp (g:Nat->Int):Rw->Int
 | .call k=>max 1 (g k)
 | .loop rs=>1+dps g rs
 | .either a b=>1+max (dps g a) (dps g b)
 | _=>1
def dps (g:Nat->Int):List Rw->Int
 | []=>0
 | r::rs=>max (r.dp g) (dps g rs)
end
mutual
theorem WZ {g g':Nat->Int} {f l:Nat} (h:∀ k,f<=k->k<=l->g k=g' k):∀ r:Rw,r.ok f l->r.np g=r.np g'/\r.dp g=r.dp g'
 | .skip,_=>by simp [Rw.np,Rw.dp]
 | .halt,_=>by simp [Rw.np,Rw.dp]
 | .call k,o=>by rw [Rw.ok] at o;simp only [Rw.np,Rw.dp,h k o.1 o.2];exact ⟨trivial,trivial⟩
 | .loop rs,o=>by
  rw [Rw.ok] at o
  obtain ⟨h1,h2⟩:=ZN h rs o.1
  simp only [Rw.np,Rw.dp,h1,h2];exact ⟨trivial,trivial⟩
 | .either a b,o=>by
  rw [Rw.ok] at o
  obtain ⟨h1,h2⟩:=ZN h a o.1.1
  obtain ⟨h3,h4⟩:=ZN h b o.2.1
  simp only [Rw.np,Rw.dp,h1,h2,h3,h4];exact ⟨trivial,trivial⟩
theorem ZN {g g':Nat->Int} {f l:Nat} (h:∀ k,f<=k->k<=l->g k=g' k):∀ rs:List Rw,oks f l rs->nps g rs=nps g' rs/\dps g rs=dps g' rs
 | [],_=>by simp [nps,dps]
 | r::rs,o=>by
  rw [oks] at o
  obtain ⟨h1,h2⟩:=WZ h r o.1
  obtain ⟨h3,h4⟩:=ZN h rs o.2
  simp only [nps,dps,h1,h2,h3,h4];exact ⟨trivial,trivial⟩
end
theorem Wl (g:Nat->Int):∀ rs:List Rw,(rs.map (Rw.np g)).sum=nps g rs
 | []=>by simp [nps]
 | r::rs=>by simp [nps,Wl g rs]
def mx (ns:List Int):Int:=ns.foldr max 0
theorem foldMx:∀ (ns:List Int) (a:Int),0<=a->(∀ x∈ns,0<=x)->ns.foldl (fun a b=>if a<b then b else a) a=max a (mx ns)
 | [],a,h,_=>by simp [mx];omega
 | x::ns,a,h,hx=>by
  have h1:=hx x Qj
  rw [List.foldl_cons,foldMx ns _ (by split <;> omega) fun y hy=>hx y (Qc _ hy)]
  simp only [mx,PB]
  split <;> omega
theorem maxD_mx {ns:List Int} (h:∀ x∈ns,0<=x):Jo 0 (ns.map .int)=some (.int (mx ns)):=by
 unfold Jo
 rw [wk,PQ]
 by_cases hn:ns=[]
 ·rw [KQ hn,hn];rfl
 ·rw [KR hn]
  cases ns with
  | nil=>exact absurd rfl hn
  | cons x ns =>
   have h1:=h x Qj
   unfold maxI
   rw [foldMx _ _ (by simpa using h1) h]
   simp only [List.headD_cons,mx,PB]
   congr 2
   omega
theorem mulT {a b:Int} (h1:-(2 ^ 64)<b) (h2:b<2 ^ 64):IntMulOk a b:=by
 have:=wS (a:=b) (b:=a) h1 h2
 unfold IntMulOk at *
 rw [Bool.and_comm (decide (Builtin.Int.intBits a > shortFactorBits)),Int.add_comm]
 exact this
theorem Jl (k:Key) (d:D):∀ {ks:List Key} {ds:List D},ks.length=ds.length->wm ks k=true->Z6 ks (J7 k d ks ds) k=some d
 | [],ds,h,e=>by simp [wm] at e
 | k'::ks,[],h,e=>by simp at h
 | k'::ks,x::ds,h,e=>by
  simp only [J7,Z6]
  by_cases hk:k'=k
  ·rw [KQ hk,KQ hk]
  ·rw [KR hk]
   refine Jl k d (by simpa using h) ?_
   unfold wm at e ⊢
   rw [Pc,KU hk,Bool.false_or] at e
   exact e
theorem wF {k k':Key} (d:D) (hne:k'≠k):∀ {ks:List Key} {ds:List D},Z6 ks (J7 k d ks ds) k'=Z6 ks ds k'
 | [],ds=>by simp [Z6]
 | q::ks,[]=>by simp [Z6,J7]
 | q::ks,x::ds=>by
  simp only [J7,Z6]
  by_cases hq:q=k'
  ·rw [KQ hq,KQ hq,KR (fun z=>hne (hq.symm.trans z))]
  ·rw [KR hq,KR hq]
   exact wF d hne
theorem look_app {k':Key}:∀ {ks:List Key} {ds:List D} {ks2:List Key} {ds2:List D},ks.length=ds.length->Z6 (ks++ks2) (ds++ds2) k'=(Z6 ks ds k').or (Z6 ks2 ds2 k')
 | [],[],ks2,ds2,h=>by simp [Z6]
 | [],x::ds,ks2,ds2,h=>by simp at h
 | q::ks,[],ks2,ds2,h=>by simp at h
 | q::ks,x::ds,ks2,ds2,h=>by
  simp only [QF,Z6]
  by_cases hq:q=k'
  ·rw [KQ hq,KQ hq];rfl
  ·rw [KR hq,KR hq];exact look_app (by simpa using h)
theorem we {k:Key}:∀ {ks:List Key} {ds:List D},wm ks k=false->Z6 ks ds k=none
 | [],ds,h=>by simp [Z6]
 | q::ks,[],h=>by simp [Z6]
 | q::ks,x::ds,h=>by
  unfold wm at h
  rw [Pc,P0] at h
  simp only [Z6]
  rw [KR (by simpa using h.1)]
  exact we h.2
theorem rep_len (k:Key) (d:D):∀ {ks:List Key} {ds:List D},ks.length=ds.length->ks.length=(J7 k d ks ds).length
 | [],ds,h=>by simpa [J7] using h
 | q::ks,[],h=>by simp at h
 | q::ks,x::ds,h=>by simp only [J7,Qg] at *;rw [rep_len k d (ds:=ds) (by omega)]
structure Dc (d:D) (m:Nat) (g:Nat->Option Int):Prop where
 ex:∃ ks ds,d=.dict ks ds/\ks.length=ds.length/\ks.length<=m/\∀ j:Nat,Z6 ks ds (.inl (j:Int))=(g j).map D.int
theorem Dc.nil:Dc (.dict [] []) 0 (fun _=>none):=⟨[],[],rfl,rfl,Ql _,fun j=>by simp [Z6]⟩
theorem Dc.get {d:D} {m:Nat} {g:Nat->Option Int} (h:Dc d m g) {j:Nat} {v:Int} (e:g j=some v):dGet d (.int (j:Nat))=some (.int v):=by
 obtain ⟨ks,ds,rfl,h1,h2,h3⟩:=h.ex
 have:=h3 j
 rw [e] at this
 exact this
def upG (g:Nat->Option Int) (j:Nat) (v:Int):Nat->Option Int:=fun k=>if k=j then some v else g k
theorem dput_ {im:Nat} {fk fv:Ev->Option D} {ρ:Ev} {T:Out->Prop} {d:D} {m:Nat} {g:Nat->Option Int} {j:Nat} {v:Int} (ev:fv ρ=some (.int v)) (ed:ρ[im]?.join=some d) (ek:fk ρ=some (.int (j:Nat))) (h:Dc d m g) (hm:m<1000)
  (k:∀ d',Dc d' (if g j=none then m+1 else m) (upG g j v)->T (.nx (ρ.set im (some d')))):Wo (mDPut im fk fv ρ) T:=by
 obtain ⟨ks,ds,rfl,h1,h2,h3⟩:=h.ex
 unfold mDPut
 rw [ev,oB,ed,oB]
 show Wo (Option.bind (some (ks,ds)) _) T
 rw [oB,ek,oB,asI_,oB,KQ (Q0 h2 (Qx hm (by decide)))]
 refine ⟨_,rfl,k _ ⟨_,_,rfl,?_,?_,fun i=>?_⟩⟩
 ·unfold putKs putDs
  by_cases z:wm ks (.inl (j:Int))=true
  ·rw [KQ z,KQ z];exact rep_len _ _ h1
  ·rw [KR z,KR z];simp [h1]
 ·unfold putKs
  by_cases z:wm ks (.inl (j:Int))=true
  ·rw [KQ z];show ks.length<=_;split <;> omega
  ·rw [KR z]
   have e:g j=none:=by
    have:=h3 j
    rw [we (by simpa using z)] at this
    cases q:g j with
    | none=>rfl
    | some _=>rw [q] at this;cases this
   rw [KQ e]
   show (ks++[_]).length<=_
   simp;omega
 ·unfold putKs putDs upG
  by_cases z:wm ks (.inl (j:Int))=true
  ·rw [KQ z,KQ z]
   by_cases e:i=j
   ·rw [KQ e,e];exact Jl _ _ h1 z
   ·rw [KR e,wF _ (fun q=>e (by have:=Sum.inl.inj q;omega))];exact h3 i
  ·rw [KR z,KR z,look_app h1]
   by_cases e:i=j
   ·rw [KQ e,e,we (by simpa using z)]
    simp [Z6]
   ·rw [KR e,h3 i]
    have:Z6 [(Sum.inl (j:Int):Key)] [D.int v] (.inl (i:Int))=none:=by
     simp only [Z6]
     rw [KR (fun q=>e (by have:=Sum.inl.inj q;omega))]
    rw [this]
    simp
end RW
namespace EV
open PySem PySem.Spec L2 M
open RW (Dc upG dput_ Fi Sc wt wts)
variable {mm:Nat}
mutual
def Rq.np (g:Nat->Int):Rq->Int
 | .one _ _=>1
 | .call k=>g k
 | .loop rs=>1+nps g rs
 | .either a b=>1+(nps g a+nps g b)
def nps (g:Nat->Int):List Rq->Int
 | []=>0
 | r::rs=>r.np g+nps g rs
end
mutual
def Rq.lat (f:Nat):Rq->Prop
 | .one _ _=>True
 | .call k=>f<=k
 | .loop rs=>Yg f rs
 | .either a b=>Yg f a/\Yg f b
def Yg (f:Nat):List Rq->Prop
 | []=>True
 | r::rs=>r.lat f/\Yg f rs
end
theorem Wl (g:Nat->Int):∀ rs:List Rq,(rs.map (Rq.np g)).sum=nps g rs
 | []=>by simp [nps]
 | r::rs=>by simp [nps,Wl g rs]
mutual
theorem np_nn (g:Nat->Int) (h:∀ k,0<=g k):∀ r:Rq,0<=r.np g
 | .one _ _=>by simp [Rq.np]
 | .call k=>by simp only [Rq.np];exact h k
 | .loop rs=>by have:=WY g h rs;simp only [Rq.np];omega
 | .either a b=>by have:=WY g h a;have:=WY g h b;simp only [Rq.np];omega
theorem WY (g:Nat->Int) (h:∀ k,0<=g k):∀ rs:List Rq,0<=nps g rs
 | []=>by simp [nps]
 | r::rs=>by have:=np_nn g h r;have:=WY g h rs;simp only [nps];omega
end
mutual
theorem WZ {g g':Nat->Int} {f nb:Nat} (h:∀ k,f<=k->k<nb->g k=g' k):∀ r:Rq,r.lat f->r.ok mm nb->r.np g=r.np g'
 | .one _ _,_,_=>by simp [Rq.np]
 | .call k,o,o'=>by rw [Rq.lat] at o;rw [Rq.ok] at o';simp only [Rq.np,h k o o']
 | .loop rs,o,o'=>by rw [Rq.lat] at o;rw [Rq.ok] at o';simp only [Rq.np,ZN h rs o o'.1]
 | .either a b,o,o'=>by rw [Rq.lat] at o;rw [Rq.ok] at o';simp only [Rq.np,ZN h a o.1 o'.1.1,ZN h b o.2 o'.2.1]
theorem ZN {g g':Nat->Int} {f nb:Nat} (h:∀ k,f<=k->k<nb->g k=g' k):∀ rs:List Rq,Yg f rs->oks mm nb rs->nps g rs=nps g' rs
 | [],_,_=>by simp [nps]
 | r::rs,o,o'=>by rw [Yg] at o;rw [oks] at o';simp only [nps,WZ h r o.1 o'.1,ZN h rs o.2 o'.2]
end
theorem wP {u:D->Ev->Option Ev} {c:Ev->Option Bool} {e:Ev->Option D} (I:Ev->Prop):∀ (ps:List (D×D)) (ρ:Ev),I ρ->(∀ p ρ,p∈ps->I ρ->∃ ρ1,u p.1 ρ=some ρ1/\c ρ1=some true/\e ρ1=some p.2/\I ρ1)->Yo u c e (ps.map Prod.fst) ρ=some (ps.map Prod.snd)
 | [],ρ,_,_=>rfl
 | p::ps,ρ,hi,h=>by
  obtain ⟨ρ1,h1,h2,h3,h4⟩:=h p ρ Qj hi
  rw [Qk,Yo,h1,oB,h2,oB,KQ rfl,h3,oB,wP I ps ρ1 h4 fun q ρ' hq=>h q ρ' (Qc _ hq)]
  rfl
theorem Zw {k:Nat} {fl:Ev->Option (List D)} {u:D->Ev->Option Ev} {c:Ev->Option Bool} {e:Ev->Option D} {ρ:Ev} (ps:List (D×D)) (I:Ev->Prop) (hfl:fl ρ=some (ps.map Prod.fst)) (hm:ps.length<=1000) (h0:I (ρ++List.replicate k none))
  (hs:∀ p ρ,p∈ps->I ρ->∃ ρ1,u p.1 ρ=some ρ1/\c ρ1=some true/\e ρ1=some p.2/\I ρ1):Zs k fl u c e ρ=some (.lst (ps.map Prod.snd)):=by
 rw [fComp_,hfl,oB,wP I ps _ h0 hs,oB]
 exact wN (yz (by rw [Qe];omega))
def ZM:Rq->List (List Rq)
 | .loop rs=>[rs]
 | .either a b=>[a,b]
 | _=>[]
theorem yt {f:Nat}:∀ {rs:List Rq} {r:Rq},Yg f rs->r∈rs->r.lat f
 | x::rs,r,o,h=>by
  rw [Yg] at o
  rcases Qa.mp h with rfl | h
  ·exact o.1
  ·exact yt o.2 h
theorem y9 {g:Nat->Nat} {r:Rq} {x:List Rq} (h:x∈ZM r):rks g x+1<=r.rk g:=by
 cases r with
 | one _ _=>cases h
 | call _=>cases h
 | loop a=>simp only [ZM,Qm] at h;subst h;rw [Rq.rk];omega
 | either a b =>
  simp only [ZM,Qa,Qi,or_false] at h
  rw [Rq.rk]
  rcases h with rfl | rfl <;> omega
theorem subs_ok {nb f:Nat} {r:Rq} {x:List Rq} (ho:r.ok mm nb) (hf:r.lat f) (h:x∈ZM r):oks mm nb x/\Yg f x/\x.length<=100:=by
 cases r with
 | one _ _=>cases h
 | call _=>cases h
 | loop a=>simp only [ZM,Qm] at h;subst h;rw [Rq.ok] at ho;rw [Rq.lat] at hf;exact ⟨ho.1,hf,ho.2⟩
 | either a b =>
  simp only [ZM,Qa,Qi,or_false] at h
  rw [Rq.ok] at ho;rw [Rq.lat] at hf
  rcases h with rfl | rfl
  ·exact ⟨ho.1.1,hf.1,ho.1.2⟩
  ·exact ⟨ho.2.1,hf.2,ho.2.2⟩
theorem lf_isi {d:D} (h:Lf d=true):yu "list" d=some (.bl false):=by cases d <;> first | rfl | cases h
theorem comp_none:∀ (ds:List D) (ρ:Ev),(∀ d∈ds,yu "list" d=some (.bl false))->ρ.length=2->Yo (zI 1) (zw (f1 (yu "list") (zc 1))) (zc 1) ds ρ=some []
 | [],ρ,_,_=>rfl
 | d::ds,ρ,h,hl=>by
  rw [Yo,zI,oB]
  have e:zw (f1 (yu "list") (zc 1)) (ρ.set 1 (some d))=some false:=zP (f1v (ZL (zK (by omega))) (h d Qj))
  rw [e,oB,KR (by simp)]
  exact comp_none ds _ (fun x hx=>h x (Qc _ hx)) (by simpa using hl)
theorem wG {nb:Nat} (r:Rq) (ho:r.ok mm nb):mq7 [r.toD]=some (.lst ((ZM r).map fun x=>.lst (qDs x))):=by
 refine Wo.eq ?_
 unfold mq7 bq7
 rw [ZZ]
 refine ⟨rfl,?_⟩
 simp only [Zd,zMap,zLen,List.replicate,zApp,QD,Nat.reduceAdd,Nat.reduceSub]
 refine Y5 (d:=.lst ((ZM r).map fun x=>.lst (qDs x))) ?_ rfl
 cases r with
 | one x ps =>
  rw [Rq.ok] at ho
  rw [Rq.toD,fComp_,yh (ZL rfl),oB,comp_none _ _ (fun d hd=>?_) rfl]
  ·rfl
  ·rcases Qa.mp hd with rfl | hd
   ·rfl
   ·exact lf_isi (ho.2.2.1 d hd)
 | call k=>rw [Rq.toD];rfl
 | loop a=>rw [Rq.toD];rfl
 | either a b=>rw [Rq.toD];rfl
def Tells (d:D) (f nb:Nat) (g:Nat->Int):Prop:=∀ k:Nat,f<=k->k<nb->dGet d (.int (k:Nat))=some (.int (g k))
section
variable {dd:D} {f nb:Nat} {g:Nat->Int} (hd:Tells dd f nb g)
include hd
theorem np_step {n:Nat} {r:Rq} (ho:r.ok mm nb) (hf:r.lat f) (h:∀ x∈ZM r,(Rq8 n).1 [.lst (qDs x),dd]=some (.int (nps g x))):(Rq8 (n+1)).2 [r.toD,dd]=some (.int (r.np g)):=by
 refine Wo.eq ?_
 rw [show (Rq8 (n+1)).2=ZE 2 2 (bq9 (Rq8 n).1 (Rq8 n).2) by rw [Rq8]]
 unfold bq9
 rw [ZZ]
 refine ⟨rfl,?_⟩
 simp only [Zd,zMap,zLen,List.replicate,zApp,QD,Nat.reduceAdd,Nat.reduceSub]
 generalize (Rq8 n).1=m1 at h ⊢
 generalize (Rq8 n).2=m2
 have Zg:∀ ρ:Ev,ρ=[some r.toD,some dd]->f2 yo (fC (.int 1)) (fA gg (zk true (Zs 1 (zk true (fA mq7 (za (zc 0) zi))) (zI 2) Z2 (fA m1 (za (zc 2) (za (zc 1) zi)))))) ρ=some (.int (1+((ZM r).map (nps g)).sum)):=by
  rintro ρ rfl
  have ec:=Zw (k:=1) (fl:=zk true (fA mq7 (za (zc 0) zi))) (u:=zI 2) (c:=Z2) (e:=fA m1 (za (zc 2) (za (zc 1) zi))) (ρ:=[some r.toD,some dd]) ((ZM r).map fun x=>(.lst (qDs x),.int (nps g x))) (fun ρ=>∃ z:Option D,ρ=[some r.toD,some dd,z])
   ((yf (fA1 rfl (wG r ho))).trans (by rw [Qt];rfl)) (by cases r <;> simp [ZM]) ⟨none,rfl⟩ (by
    rintro p ρ hp ⟨z,rfl⟩
    obtain ⟨x,hx,rfl⟩:=Qw.mp hp
    exact ⟨_,rfl,rfl,fA2 rfl rfl (h x hx),_,rfl⟩)
  refine f2v (y:=.int ((ZM r).map (nps g)).sum) rfl ?_ rfl
  rw [fA_,yf ec,oB,Qt]
  exact (congrArg gg (show List.map _ (ZM r)=((ZM r).map (nps g)).map D.int by rw [Qt];rfl)).trans gSum_
 cases r with
 | call k =>
  rw [Rq.ok] at ho
  rw [Rq.lat] at hf
  rw [Rq.toD,zx]
  refine ⟨_,by rw [mIf_,kis rfl,oB,KQ rfl,mRet_,f2v (y:=.int (k:Nat)) rfl (Z7 (yh (ZL rfl)) rfl (zL (j:=1) rfl)) (hd k hf ho)];rfl,?_⟩
  simp only [Rq.np];rfl
 | one x ps =>
  rw [Rq.ok] at ho
  rw [Rq.toD] at Zg
  rw [Rq.toD,zx]
  refine Yt (kno rfl ho.1.1) ?_
  rw [Zk,zG,zu]
  exact Y5 (Zg _ rfl) (by simp [ZM,Rq.np])
 | loop rs =>
  rw [Rq.toD] at Zg
  rw [Rq.toD,zx]
  refine Yt (kno rfl (by decide)) ?_
  rw [Zk,zG,zu]
  exact Y5 (Zg _ rfl) (by simp [ZM,Rq.np])
 | either a b =>
  rw [Rq.toD] at Zg
  rw [Rq.toD,zx]
  refine Yt (kno rfl (by decide)) ?_
  rw [Zk,zG,zu]
  exact Y5 (Zg _ rfl) (by simp [ZM,Rq.np])
theorem nps_step {n:Nat} {rs:List Rq} (hl:rs.length<=100) (h:∀ r∈rs,(Rq8 n).2 [r.toD,dd]=some (.int (r.np g))):(Rq8 (n+1)).1 [.lst (qDs rs),dd]=some (.int (nps g rs)):=by
 refine Wo.eq ?_
 rw [show (Rq8 (n+1)).1=ZE 2 2 (bq8 (Rq8 n).1 (Rq8 n).2) by rw [Rq8]]
 unfold bq8
 rw [ZZ]
 refine ⟨rfl,?_⟩
 simp only [Zd,zMap,zLen,List.replicate,zApp,QD,Nat.reduceAdd,Nat.reduceSub]
 generalize (Rq8 n).1=m1
 generalize (Rq8 n).2=m2 at h ⊢
 have ec:=Zw (k:=1) (fl:=zk true (zc 0)) (u:=zI 2) (c:=Z2) (e:=fA m2 (za (zc 2) (za (zc 1) zi))) (ρ:=[some (.lst (qDs rs)),some dd]) (rs.map fun r=>(r.toD,.int (r.np g))) (fun ρ=>∃ z:Option D,ρ=[some (.lst (qDs rs)),some dd,z])
  ((yf (ds:=qDs rs) rfl).trans (by rw [Qt,jq];rfl)) (by rw [Qe];omega) ⟨none,rfl⟩ (by
   rintro p ρ hp ⟨z,rfl⟩
   obtain ⟨x,hx,rfl⟩:=Qw.mp hp
   exact ⟨_,rfl,rfl,fA2 rfl rfl (h x hx),_,rfl⟩)
 refine Y5 (d:=.int (nps g rs)) ?_ rfl
 rw [fA_,yf ec,oB,Qt]
 exact (congrArg gg (show List.map _ rs=(rs.map (Rq.np g)).map D.int by rw [Qt];rfl)).trans (gSum_.trans (by rw [Wl]))
theorem new_all:∀ (h n:Nat),2*h+2<=n->∀ rs:List Rq,rks (fun _=>0) rs<=h->oks mm nb rs->Yg f rs->rs.length<=100->(Rq8 n).1 [.lst (qDs rs),dd]=some (.int (nps g rs)):=by
 intro h
 induction h with
 | zero =>
  intro n hn rs hk ho hf hl
  obtain ⟨n,rfl⟩:∃ m,n=m+2:=⟨n - 2,by omega⟩
  refine nps_step hd hl fun r hr=>np_step hd (yb ho hr) (yt hf hr) fun x hx=>?_
  have h1:=yM (g:=fun _=>0) hr
  have h2:=(y9 (g:=fun _=>0) hx)
  omega
 | succ h ih =>
  intro n hn rs hk ho hf hl
  obtain ⟨n,rfl⟩:∃ m,n=m+2:=⟨n - 2,by omega⟩
  refine nps_step hd hl fun r hr=>np_step hd (yb ho hr) (yt hf hr) fun x hx=>?_
  have h1:=yM (g:=fun _=>0) hr
  have h2:=(y9 (g:=fun _=>0) hx)
  obtain ⟨o1,o2,o3⟩:=subs_ok (yb ho hr) (yt hf hr) hx
  exact ih n (by omega) x (by omega) o1 o2 o3
end
def upto (n i:Nat) (g:Nat->Int):Nat->Option Int:=fun k=>if n - i<=k/\k<n then some (g k) else none
theorem upto_none {n i:Nat} {g:Nat->Int} {j:Nat} (h:j<n - i):upto n i g j=none:=KR (by omega)
theorem j6 {n i:Nat} {g:Nat->Int} {j:Nat} (h:n - i<=j) (h2:j<n):upto n i g j=some (g j):=KQ ⟨h,h2⟩
theorem upto_up {n i:Nat} {g:Nat->Int} (hi:i<n) (k:Nat):upG (upto n i g) (n - 1 - i) (g (n - 1 - i)) k=upto n (i+1) g k:=by
 unfold upG upto
 by_cases e:k=n - 1 - i
 ·rw [KQ e,KQ (by omega),e]
 ·rw [KR e]
  by_cases h:n - i<=k/\k<n
  ·rw [KQ h,KQ (by omega)]
  ·rw [KR h,KR (by omega)]
theorem dc_as {d:D} {m m':Nat} {g g':Nat->Option Int} (h:Dc d m g) (hm:m=m') (hg:∀ k,g k=g' k):Dc d m' g':=by
 have:g=g':=funext hg
 subst this;subst hm;exact h
open RW (Py Fi Sc wt wts names j5 mulT)
variable {mm:Nat}
theorem if_t {c:Ev->Option Bool} {m1 m2:Ev->Option Out} {ρ:Ev} {T:Out->Prop} (e:c ρ=some true) (k:Wo (m1 ρ) T):Wo (mIf c m1 m2 ρ) T:=by rw [mIf_,e];exact k
theorem ge {c:Ev->Option Bool} {m1 m2:Ev->Option Out} {ρ:Ev} {T:Out->Prop} {b:Bool} (e:c ρ=some b) (k1:b=true->Wo (m1 ρ) T) (k2:b=false->Wo (m2 ρ) T):Wo (mIf c m1 m2 ρ) T:=by
 rw [mIf_,e]
 cases b with
 | true=>exact k1 rfl
 | false=>exact k2 rfl
theorem orv {c1 c2:Ev->Option Bool} {ρ:Ev} {a b:Bool} (e1:c1 ρ=some a) (e:a=false->c2 ρ=some b):fOr c1 c2 ρ=some (a||b):=by
 rw [fOr_,e1]
 cases a with
 | true=>rfl
 | false=>exact e rfl
theorem andc {c1 c2:Ev->Option Bool} {ρ:Ev} {a b:Bool} (e1:c1 ρ=some a) (e:a=true->c2 ρ=some b):jB c1 c2 ρ=some (a&&b):=by
 rw [fAnd_,e1]
 cases a with
 | true=>exact e rfl
 | false=>rfl
theorem lt_ {a b:Int}:dLt (.int a) (.int b)=some (.bl (decide (a<b))):=rfl
theorem gt_ {a b:Int}:dGt (.int a) (.int b)=some (.bl (decide (b<a))):=rfl
theorem sub_ {a b:Int}:wu (.int a) (.int b)=some (.int (a - b)):=rfl
theorem nilv {ρ:Ev}:Za zi ρ=some (.lst []):=by rw [fLst_];exact wN (ds:=[]) (yz (by simp))
theorem Wt {ρ:Ev} {f f':Ev->Option D} {d d':D} (e:f ρ=some d) (e':f' ρ=some d'):ZO (za f (za f' zi)) ρ=some (.tup [d,d']):=by
 rw [fTup_,ZQ,e,oB,ZQ,e'];exact dTup_ (yz (by simp))
theorem atB {B:List D} {j:Nat} (h:j<B.length):atI B ((j:Nat):Int)=some (B.getD j .non):=zL (by simp [List.getD,h])
theorem mem_getD {B:List D} {j:Nat} (h:j<B.length):B.getD j .non∈B:=by
 simp only [List.getD,QN h,Option.getD_some]
 exact List.getElem_mem h
theorem Wn (ns:List Int) (k:Int) (h0:0<=k) (hk:k<=1000):∃ v:Int,JR [.scr ns,.int k]=some (.int v):=by
 suffices h:Wo (JR [.scr ns,.int k]) fun d=>∃ v:Int,d=.int v by
  obtain ⟨d,e,v,rfl⟩:=h
  exact ⟨v,e⟩
 unfold JR bq20
 rw [ZZ]
 refine ⟨rfl,?_⟩
 simp only [Zd,zMap,zLen,List.replicate,zApp,QD,Nat.reduceAdd,Nat.reduceSub]
 have el:∀ ρ:Ev,ρ[0]?.join=some (.scr ns)->fA yP (zk true (zc 0)) ρ=some (.int (ns.length:Nat)):=fun ρ h=>by
  rw [fA_,fSeq_,show zc 0 ρ=some (.scr ns) from h,oB]
  show yP (ns.map D.int)=_
  rw [gLen_,Qe]
 have tail:∀ v:Int,Wo (zE (Zj 2 (f2 Yu (f2 jD (zc 2) (zc 2)) (fC (.int 2147483629)))) (zR (f2 Yu (f2 jD (f2 yo (zc 2) (fC (.int 11))) (f2 yo (zc 2) (fC (.int 3)))) (fC (.int 2147483587)))) [some (.scr ns),some (.int k),some (.int v)]) (JA fun d=>∃ v:Int,d=.int v)\/¬ (-(2 ^ 64)<v/\v<2 ^ 64):=fun v=>by
  by_cases hv:-(2 ^ 64)<v/\v<2 ^ 64
  ·left
   rw [zx]
   refine yp (f2v (f2v rfl rfl (y6 (wS hv.1 hv.2))) rfl (yc (by decide))) ?_
   simp only [zSet,zu]
   have m0:=QP (v*v) (show (2147483629:Int)≠0 by decide)
   have m1:=QH (v*v) (show (0:Int)<2147483629 by decide)
   exact Y5 (f2v (f2v (f2v rfl rfl rfl) (f2v rfl rfl rfl) (y6 (wS (by omega) (by omega)))) rfl (yc (by decide))) ⟨_,rfl⟩
  ·exact .inr hv
 by_cases hlt:k<(ns.length:Nat)
 ·rw [zx]
  refine if_t (zP (f2v rfl (el _ rfl) (by show some (D.bl (decide (k<((ns.length:Nat):Int))))=_;rw [KS hlt]))) ?_
  exact Y4 (Z7 (ds:=ns.map .int) rfl rfl (atI_map h0 hlt)) ⟨_,rfl⟩
 ·rw [zx]
  refine Yt (zP (f2v rfl (el _ rfl) (by show some (D.bl (decide (k<((ns.length:Nat):Int))))=_;rw [KU hlt]))) ?_
  rw [Zk,zG,zu,zx]
  refine yp (f2v (f2v rfl rfl (y6 (wS (by omega) (by omega)))) rfl rfl) ?_
  simp only [zSet,zu]
  rw [zx]
  by_cases hp:(0:Int)<(ns.length:Nat)
  ·refine if_t (zP (f2v (el _ rfl) rfl (by rw [gt_,KS hp]))) ?_
   have q0:=QP (k*7) (show ((ns.length:Nat):Int)≠0 by omega)
   have q1:=QH (k*7) hp
   refine yp (f2v (f2v (f2v (Z7 (ds:=ns.map .int) rfl (f2v (f2v rfl rfl (y6 (wS (by omega) (by omega)))) (el _ rfl) (yc hp)) (atI_map q0 q1)) rfl (y6 (mulT (by decide) (by decide)))) (f2v rfl rfl (y6 (wS (by omega) (by omega)))) rfl) rfl (yc (by decide))) ?_
   simp only [zSet,zu]
   refine (tail _).resolve_right fun z=>z ?_
   have r0:=QP (ns.getD (k*7 % ((ns.length:Nat):Int)).toNat 0*48271+k*7919) (show (2147483647:Int)≠0 by decide)
   have r1:=QH (ns.getD (k*7 % ((ns.length:Nat):Int)).toNat 0*48271+k*7919) (show (0:Int)<2147483647 by decide)
   exact ⟨by omega,by omega⟩
  ·refine Yt (zP (f2v (el _ rfl) rfl (by rw [gt_,KU hp]))) ?_
   rw [Zk,zG,zu]
   exact (tail _).resolve_right fun z=>z ⟨by omega,by omega⟩
theorem at_mod {L:List D} {c:Int} (h:0<L.length):∃ d∈L,atI L (c % (L.length:Nat))=some d:=by
 have h0:=QP c (show ((L.length:Nat):Int)≠0 by omega)
 have h1:=QH c (show (0:Int)<(L.length:Nat) by omega)
 obtain ⟨j,hj⟩:∃ j:Nat,c % (L.length:Nat)=(j:Nat):=⟨(c % (L.length:Nat)).toNat,by omega⟩
 have hl:j<L.length:=by omega
 exact ⟨L.getD j .non,mem_getD hl,by rw [hj];exact atB hl⟩
theorem ns_small:∀ x∈([0,1,0,-1,1,2,0,3,-2]:List Int),x.natAbs<=3:=by decide
theorem line_ok (c:Int) {KM:Nat} (hm:KM<=6):∃ ns:List Int,mq21 [.int c,.int (KM:Nat)]=some (.tup (ns.map .int))/\ns.length=KM+1/\∀ x∈ns,x.natAbs<=999999:=by
 suffices h:Wo (mq21 [.int c,.int (KM:Nat)]) fun d=>∃ ns:List Int,d=.tup (ns.map .int)/\ns.length=KM+1/\∀ x∈ns,x.natAbs<=999999 by
  obtain ⟨d,e,ns,rfl,q⟩:=h
  exact ⟨ns,e,q⟩
 unfold mq21 bq21
 rw [ZZ]
 refine ⟨rfl,?_⟩
 simp only [Zd,zMap,zLen,List.replicate,zApp,QD,Nat.reduceAdd,Nat.reduceSub]
 rw [zx]
 refine new_ nilv (by simp) ?_
 simp only [zSet,zu]
 rw [zx,W4,rng1v (n:=KM+1) (f2v rfl rfl rfl) (by omega),oB]
 refine wo_for (fun i ρ=>∃ (ns:List Int) (a b e:Option D),ρ=[some (.int c),some (.int (KM:Nat)),some (.lst (ns.map .int)),a,b,e]/\ns.length=i/\∀ x∈ns,x.natAbs<=999999) ⟨[],_,_,_,rfl,rfl,fun x hx=>by cases hx⟩ ?_ ?_
 ·rintro i d ρ hd ⟨ns,a,b,e,rfl,hl,hb⟩
  obtain ⟨hi,rfl⟩:=WP hd
  rw [Int.zero_add,uName_,zG]
  simp only [zSet]
  have hii:((i:Nat):Int)*(i:Nat)=((i*i:Nat):Int):=by rw [Int.natCast_mul]
  have hpos:(0:Int)<=(i:Nat)*(i:Nat):=by rw [hii];omega
  rw [zx]
  refine yp (f2v (f2v (f2v (f2v rfl (f2v (f2v rfl rfl (y6 (wS (by omega) (by omega)))) rfl wY) (dDivP_s (show (i:Nat)*(i:Nat)+3≠(0:Int) by omega))) rfl (y6 (mulT (by decide) (by decide)))) (f2v rfl rfl (y6 (wS (by omega) (by omega)))) wY) rfl (yc (by decide))) ?_
  simp only [zSet,zu]
  generalize (c.fdiv ((i:Nat)*(i:Nat)+3)*48271+(i:Nat)*69621) % 2147483647=v
  have q0:=QP v (show (9:Int)≠0 by decide)
  have q1:=QH v (show (0:Int)<9 by decide)
  rw [zx]
  refine yp (d:=.int (([0,1,0,-1,1,2,0,3,-2]:List Int).getD (v % 9).toNat 0)) (Z7 (ds:=([0,1,0,-1,1,2,0,3,-2]:List Int).map .int) rfl (f2v rfl rfl (yc (by decide))) (atI_map q0 q1)) ?_
  simp only [zSet,zu]
  have hx0:(([0,1,0,-1,1,2,0,3,-2]:List Int).getD (v % 9).toNat 0).natAbs<=3:=by
   refine ns_small _ ?_
   have hlt:(v % 9).toNat<9:=by omega
   simp only [List.getD]
   rw [QN (by simpa using hlt),Option.getD_some]
   exact List.getElem_mem _
  generalize (([0,1,0,-1,1,2,0,3,-2]:List Int).getD (v % 9).toNat 0)=x0 at hx0
  have fin:∀ x:Int,x.natAbs<=999999->Wo (mUpd 2 yA (zc 5) [some (.int c),some (.int (KM:Nat)),some (.lst (ns.map .int)),some (.int (i:Nat)),some (.int v),some (.int x)]) fun o=>match o with
    | .nx ρ2=>∃ (ns:List Int) (a b e:Option D),ρ2=[some (.int c),some (.int (KM:Nat)),some (.lst (ns.map .int)),a,b,e]/\ns.length=i+1/\∀ x∈ns,x.natAbs<=999999
    | .ct ρ2=>∃ (ns:List Int) (a b e:Option D),ρ2=[some (.int c),some (.int (KM:Nat)),some (.lst (ns.map .int)),a,b,e]/\ns.length=i+1/\∀ x∈ns,x.natAbs<=999999
    | .bk ρ2=>Then (zR (fA jA (zk true (zc 2)))) (JA fun d=>∃ ns:List Int,d=.tup (ns.map .int)/\ns.length=KM+1/\∀ x∈ns,x.natAbs<=999999) (.nx ρ2)
    | .rt r=>Then (zR (fA jA (zk true (zc 2)))) (JA fun d=>∃ ns:List Int,d=.tup (ns.map .int)/\ns.length=KM+1/\∀ x∈ns,x.natAbs<=999999) (.rt r):=fun x hx=>by
   refine upd_ (d:=.int x) rfl rfl (lAppend_ (w9 (by rw [Qe];omega))) ?_
   simp only [zSet]
   refine ⟨ns++[x],_,_,_,by rw [Qz];rfl,by simp [hl],fun y hy=>?_⟩
   rcases Qq.mp hy with hy | hy
   ·exact hb y hy
   ·rw [Qm.mp hy];exact hx
  rw [zx]
  refine ge (zP (f2v (f2v (f2v rfl rfl (YZ (by decide) (by decide))) rfl (yc (by decide))) rfl jf)) (fun _=>?_) (fun _=>?_)
  ·rw [zx]
   have w0:=QP (v / 540) (show (1999999:Int)≠0 by decide)
   have w1:=QH (v / 540) (show (0:Int)<1999999 by decide)
   refine yp (f2v (f2v (f2v rfl rfl (YZ (by decide) (by decide))) rfl (yc (by decide))) rfl sub_) ?_
   simp only [zSet,zu]
   refine ge (zP (f2v rfl rfl gt_)) (fun _=>?_) (fun _=>?_)
   ·have u0:=QP (v / 540 % 1999999 - 999999) (show (19:Int)≠0 by decide)
    have u1:=QH (v / 540 % 1999999 - 999999) (show (0:Int)<19 by decide)
    refine yp (f2v (f2v rfl rfl (yc (by decide))) rfl sub_) ?_
    simp only [zSet,zu]
    exact fin _ (by omega)
   ·rw [Zk,zG,zu]
    exact fin _ (by omega)
  ·rw [Zk,zG,zu]
   exact fin _ (by omega)
 ·rintro ρ ⟨ns,a,b,e,rfl,hl,hb⟩
  rw [YV] at hl
  rw [zu]
  exact Y5 (tupL rfl) ⟨ns,rfl,hl,hb⟩
theorem wts_ints:∀ ns:List Int,wts (ns.map .int)=9*ns.length
 | []=>by simp [wts]
 | n::ns=>by rw [Qk,wts,wts_ints ns,wt,Qg];omega;all_goals (intros;simp_all)
theorem yI {ds:List D}:wt (.tup ds)=wts ds:=by rw [wt]
theorem jL {ds:List D}:wt (.lst ds)=wts ds:=by rw [wt]
theorem wt_int {i:Int}:wt (.int i)=8:=by simp [wt]
theorem Yj {x:Kw}:wt (.str x)=8:=by simp [wt]
theorem ne_nil {xs:List D} (h:YX (.lst xs)=true):dNeD (.lst xs) (.lst [])=some (.bl (!xs.isEmpty)):=by
 unfold dNeD
 rw [KQ ⟨h,by decide⟩]
 unfold eqD
 cases xs with
 | nil=>rw [zZ,Zx,PyData.eqv];simp [PyData.eqvAll]
 | cons a t=>rw [zZ,Zx,zZ,Zx,PyData.eqv];simp [PyData.eqvAll]
variable {mm:Nat}
mutual
def Rq.dph (g:Nat->Nat):Rq->Nat
 | .one _ _=>1
 | .call k=>max 1 (g k)
 | .loop rs=>1+ZY g rs
 | .either a b=>1+max (ZY g a) (ZY g b)
def ZY (g:Nat->Nat):List Rq->Nat
 | []=>0
 | r::rs=>max (r.dph g) (ZY g rs)
end
abbrev r1:Nat->Nat:=fun _=>1
mutual
theorem rk_dph:∀ r:Rq,r.rk (fun _=>0)<=r.dph r1
 | .one _ _=>by simp only [Rq.rk,Rq.dph];omega
 | .call k=>by simp only [Rq.rk,Rq.dph];omega
 | .loop rs=>by have:=j9 rs;simp only [Rq.rk,Rq.dph];omega
 | .either a b=>by have:=j9 a;have:=j9 b;simp only [Rq.rk,Rq.dph];omega
theorem j9:∀ rs:List Rq,rks (fun _=>0) rs<=ZY r1 rs
 | []=>by simp only [rks];omega
 | r::rs=>by have:=rk_dph r;have:=j9 rs;simp only [rks,ZY];omega
end
mutual
theorem dph_le {g:Nat->Nat} {c f nb:Nat} (h:∀ k,f<=k->k<nb->g k<=c+1):∀ r:Rq,r.lat f->r.ok mm nb->r.dph g<=r.dph r1+c
 | .one _ _,_,_=>by simp only [Rq.dph];omega
 | .call k,o,o'=>by rw [Rq.lat] at o;rw [Rq.ok] at o';have:=h k o o';simp only [Rq.dph];omega
 | .loop rs,o,o'=>by rw [Rq.lat] at o;rw [Rq.ok] at o';have:=jC h rs o o'.1;simp only [Rq.dph];omega
 | .either a b,o,o'=>by rw [Rq.lat] at o;rw [Rq.ok] at o';have:=jC h a o.1 o'.1.1;have:=jC h b o.2 o'.2.1;simp only [Rq.dph];omega
theorem jC {g:Nat->Nat} {c f nb:Nat} (h:∀ k,f<=k->k<nb->g k<=c+1):∀ rs:List Rq,Yg f rs->oks mm nb rs->ZY g rs<=ZY r1 rs+c
 | [],_,_=>by simp only [ZY];omega
 | r::rs,o,o'=>by rw [Yg] at o;rw [oks] at o';have:=dph_le h r o.1 o'.1;have:=jC h rs o.2 o'.2;simp only [ZY];omega
end
def wc (g:Nat->Int):List D->Int
 | .str x::.int k::_=>if x="call" then g k.toNat else 1
 | .str _::_=>1
 | _=>0
mutual
def cs (g:Nat->Int):D->Int
 | .tup ds=>wc g ds+csL g ds
 | .lst ds=>csL g ds
 | _=>0
def csL (g:Nat->Int):List D->Int
 | []=>0
 | d::ds=>cs g d+csL g ds
end
variable {g:Nat->Int}
theorem jE {ds:List D}:cs g (.tup ds)=wc g ds+csL g ds:=by rw [cs]
theorem Jw {ds:List D}:cs g (.lst ds)=csL g ds:=by rw [cs]
theorem cs_int {i:Int}:cs g (.int i)=0:=by simp [cs]
theorem Jv {x:Kw}:cs g (.str x)=0:=by simp [cs]
theorem csL_app:∀ a b:List D,csL g (a++b)=csL g a+csL g b
 | [],b=>by rw [QK,csL];omega
 | d::a,b=>by rw [QF,csL,csL,csL_app a b];omega
theorem cs_ints (ns:List Int):cs g (.tup (ns.map .int))=0:=by
 have h:∀ ns:List Int,csL g (ns.map D.int)=0:=fun ns=>by
  induction ns with
  | nil=>rw [QJ,csL]
  | cons n ns ih=>rw [Qk,csL,ih,cs_int];rfl
 rw [jE,h]
 cases ns <;> simp [wc]
theorem wc_lst (x:Kw) (pre top top' post:List D):wc g (.str x::(pre++.lst top::post))=wc g (.str x::(pre++.lst top'::post)):=by
 cases pre with
 | nil=>simp [wc]
 | cons p pre=>cases p <;> simp [wc]
mutual
theorem cs_tree {nb:Nat}:∀ t:Rq,t.ok mm nb->cs g t.toD=t.np g
 | .one x ps,o=>by
  rw [Rq.ok] at o
  rw [Rq.toD,jE,Rq.np,csL,Jv]
  rcases o.2.2.2.2 with ⟨rfl,rfl⟩ | ⟨rfl,rfl⟩ | ⟨b,rfl,rfl,_⟩ | ⟨b,ns,rfl,rfl,_⟩
  ·simp [wc,csL]
  ·simp [wc,csL]
  ·simp [wc,csL,cs_int];exact fun h=>absurd h (by decide)
  ·simp [wc,csL,cs_int,cs_ints];exact fun h=>absurd h (by decide)
 | .call k,_=>by rw [Rq.toD,jE,Rq.np];simp [wc,csL,Jv,cs_int]
 | .loop rs,o=>by rw [Rq.ok] at o;rw [Rq.toD,jE,Rq.np,csL,Jv,csL,Jw,YD rs o.1,csL];simp [wc]
 | .either a b,o=>by rw [Rq.ok] at o;rw [Rq.toD,jE,Rq.np,csL,Jv,csL,Jw,YD a o.1.1,csL,Jw,YD b o.2.1,csL];simp [wc]
theorem YD {nb:Nat}:∀ ts:List Rq,oks mm nb ts->csL g (qDs ts)=nps g ts
 | [],_=>by rw [qDs,csL,nps]
 | t::ts,o=>by rw [oks] at o;rw [qDs,csL,nps,cs_tree t o.1,YD ts o.2]
end
def yg:List (Nat×Int)->Nat->Int
 | [],_=>0
 | p::l,j=>(if p.1=j then p.2 else 0)+yg l j
theorem lateC_nn:∀ (l:List (Nat×Int)),(∀ p∈l,0<=p.2)->∀ j,0<=yg l j
 | [],_,j=>by rw [yg];omega
 | p::l,h,j=>by
  have h1:=lateC_nn l (fun q hq=>h q (Qc _ hq)) j
  have h2:=h p Qj
  rw [yg]
  split <;> omega
open RW (Py Fi Sc wt wts names j5)
variable {mm:Nat}
mutual
def nd:D->Nat
 | .tup ds=>1+nds ds
 | .lst ds=>nds ds
 | _=>0
def nds:List D->Nat
 | []=>0
 | d::ds=>nd d+nds ds
end
theorem yZ {ds:List D}:nd (.tup ds)=1+nds ds:=by rw [nd]
theorem jw {ds:List D}:nd (.lst ds)=nds ds:=by rw [nd]
theorem nd_int {i:Int}:nd (.int i)=0:=by simp [nd]
theorem jv {x:Kw}:nd (.str x)=0:=by simp [nd]
theorem nds_app:∀ a b:List D,nds (a++b)=nds a+nds b
 | [],b=>by rw [QK,nds];omega
 | d::a,b=>by rw [QF,nds,nds,nds_app a b];omega
theorem nds_ints:∀ ns:List Int,nds (ns.map .int)=0
 | []=>by simp [nds]
 | n::ns=>by rw [Qk,nds,nds_ints ns,nd_int]
abbrev r0:Nat->Nat:=fun _=>0
def RowT (mm nb f:Nat) (d:D):Prop:=∃ t:Rq,d=t.toD/\t.ok mm nb/\t.lat f/\t.dph r1<=1/\Fi 3 d/\(wt d<=150/\nd d<=2)/\((t=.loop []\/t=.either [] [])\/(∃ k,t=.call k)\/∃ x ps,t=.one x ps)
def YA (p:Nat×Int):D:=.tup [.int (p.1:Nat),.int p.2]
def jy (KK:List (Nat×Int)):D:=.lst (KK.map YA)
structure LatOk (nb f:Nat) (KK:List (Nat×Int)):Prop where
 few:KK.length<=4
 few2:nb<=4
 mem:∀ p∈KK,f<=p.1/\p.1<nb
theorem lat_py (KK:List (Nat×Int)):YX (jy KK)=true:=by
 have h:Py 2 (jy KK):=.lst fun d hd=>by
  obtain ⟨p,hp,rfl⟩:=Qw.mp hd
  refine Py.tup (n:=0) fun e he=>?_
  simp only [Qa,Qi,or_false] at he
  rcases he with rfl | rfl <;> exact .int _ _
 unfold YX SeqAt.shaped
 rw [h.1,KS (QA h.2 (by omega))];rfl
theorem yj (x:Kw) (ps:List D):(Rq.one x ps).toD=.tup (.str x::ps):=by rw [Rq.toD]
theorem yl (k:Nat):(Rq.call k).toD=.tup [.str "call",.int (k:Nat)]:=by rw [Rq.toD]
theorem ye (a:List Rq):(Rq.loop a).toD=.tup [.str "loop",.lst (qDs a)]:=by rw [Rq.toD]
theorem ZB (a b:List Rq):(Rq.either a b).toD=.tup [.str "either",.lst (qDs a),.lst (qDs b)]:=by rw [Rq.toD]
theorem jZ {n:Nat} {ds:List D} (h:∀ r∈ds,Fi n r):Fi (n+1) (.tup ds):=.inr ⟨ds,.inl rfl,h⟩
theorem fi_lst {n:Nat} {ds:List D} (h:∀ r∈ds,Fi n r):Fi (n+1) (.lst ds):=.inr ⟨ds,.inr rfl,h⟩
theorem j8 {nb f:Nat} {x:Kw} {ps:List D} (hx:x≠"call"/\x≠"loop"/\x≠"either") (hn:names.contains x=true) (hp:ps.length<=10) (hl:∀ p∈ps,Lf p=true) (hf:∀ p∈ps,Fi 2 p) (hw:wt (.tup (.str x::ps))<=150) (hn2:nds ps<=1) (hk:Dk mm x ps):RowT mm nb f (.tup (.str x::ps)):=by
 have hfi:Fi 3 (.tup (.str x::ps)):=jZ fun r hr=>by
  rcases Qa.mp hr with rfl | hr
  ·exact .str hn _
  ·exact hf r hr
 exact ⟨.one x ps,(yj x ps).symm,by rw [Rq.ok];exact ⟨hx,hp,hl,hfi.pyd.mono (by omega),hk⟩,by rw [Rq.lat];trivial,by rw [Rq.dph];exact Ql 1,hfi,⟨hw,by rw [yZ,nds,jv];omega⟩,.inr (.inr ⟨_,_,rfl⟩)⟩
theorem row_call {nb f k:Nat} (h1:f<=k) (h2:k<nb) (hnb:nb<=4):RowT mm nb f (.tup [.str "call",.int (k:Nat)]) :=
 ⟨.call k,(yl k).symm,by rw [Rq.ok];exact h2,by rw [Rq.lat];exact h1,by rw [Rq.dph];exact Ql 1,jZ fun r hr=>by
  simp only [Qa,Qi,or_false] at hr
  rcases hr with rfl | rfl
  ·exact .str (by decide) _
  ·exact .int (QA (m:=10) (by omega) (by decide)) _,⟨by simp only [yI,wts,Yj,wt_int];omega,by simp only [yZ,nds,jv,nd_int];omega⟩,.inr (.inl ⟨_,rfl⟩)⟩
theorem fi_nil (n:Nat):Fi (n+1) (.lst []):=fi_lst fun r hr=>by cases hr
theorem row_loop {nb f:Nat}:RowT mm nb f (.tup [.str "loop",.lst []]) :=
 ⟨.loop [],by rw [ye,qDs],by rw [Rq.ok,oks];exact ⟨trivial,by simp⟩,by rw [Rq.lat,Yg];trivial,by rw [Rq.dph,ZY];omega,jZ fun r hr=>by
  simp only [Qa,Qi,or_false] at hr
  rcases hr with rfl | rfl
  ·exact .str (by decide) _
  ·exact fi_nil 1,⟨by simp only [yI,wts,Yj,jL];omega,by simp only [yZ,nds,jv,jw];omega⟩,.inl (.inl rfl)⟩
theorem row_either {nb f:Nat}:RowT mm nb f (.tup [.str "either",.lst [],.lst []]) :=
 ⟨.either [] [],by rw [ZB,qDs],by rw [Rq.ok,oks];exact ⟨⟨trivial,by simp⟩,trivial,by simp⟩,by rw [Rq.lat,Yg];exact ⟨trivial,trivial⟩,by rw [Rq.dph,ZY];omega,jZ fun r hr=>by
  simp only [Qa,Qi,or_false] at hr
  rcases hr with rfl | rfl | rfl
  ·exact .str (by decide) _
  ·exact fi_nil 1
  ·exact fi_nil 1,⟨by simp only [yI,wts,Yj,jL];omega,by simp only [yZ,nds,jv,jw];omega⟩,.inl (.inr rfl)⟩
theorem lenv {f:Ev->Option D} {ρ:Ev} {ds:List D} (h:f ρ=some (.lst ds)):fA yP (zk true f) ρ=some (.int (ds.length:Nat)):=by rw [fA_,yf h,oB,gLen_]
theorem deed_ok (c:Int) {KM nb f:Nat} (hm:KM<=6) {KK:List (Nat×Int)} (hl:LatOk nb f KK):∃ d,mq22 [.int c,.int (KM:Nat),jy KK]=some d/\RowT KM nb f d:=by
 suffices h:Wo (mq22 [.int c,.int (KM:Nat),jy KK]) (RowT KM nb f) by
  obtain ⟨d,e,q⟩:=h
  exact ⟨d,e,q⟩
 unfold mq22 bq22
 rw [ZZ]
 refine ⟨rfl,?_⟩
 simp only [Zd,zMap,zLen,List.replicate,zApp,QD,Nat.reduceAdd,Nat.reduceSub]
 rw [zx]
 refine yp (f2v (f2v rfl rfl (YZ (by decide) (by decide))) rfl (yc (by decide))) ?_
 simp only [zSet,zu]
 generalize c / 8 % 13=kd
 rw [zx]
 refine ge (andc (zP (f2v rfl rfl gt_)) fun _=>zP (f2v rfl nilv (ne_nil (lat_py KK)))) (fun e=>?_) (fun _=>?_)
 ·simp only [QC,decide_eq_true_eq,Pp,List.isEmpty_eq_false_iff,ne_eq,List.map_eq_nil_iff] at e
  have hpos:0<KK.length:=List.length_pos_iff.mpr e.2
  have ec:Zs 1 (zk true (zc 2)) (zI 5) Z2 (ZO (za (fC (.str "call")) (za (fIx (zk false (zc 5)) (fC (.int 0))) zi))) [some (.int c),some (.int (KM:Nat)),some (jy KK),some (.int kd),none]=some (.lst (KK.map fun p=>.tup [.str "call",.int (p.1:Nat)])):=by
   have:=Zw (k:=1) (fl:=zk true (zc 2)) (u:=zI 5) (c:=Z2) (e:=ZO (za (fC (.str "call")) (za (fIx (zk false (zc 5)) (fC (.int 0))) zi))) (ρ:=[some (.int c),some (.int (KM:Nat)),some (jy KK),some (.int kd),none]) (KK.map fun p=>(YA p,.tup [.str "call",.int (p.1:Nat)])) (fun ρ=>∃ z:Option D,ρ=[some (.int c),some (.int (KM:Nat)),some (jy KK),some (.int kd),none,z])
    ((yf (ds:=KK.map YA) rfl).trans (by rw [Qt];rfl)) (by rw [Qe];have:=hl.few;omega) ⟨none,rfl⟩ (by
     rintro p ρ hp ⟨z,rfl⟩
     obtain ⟨x,hx,rfl⟩:=Qw.mp hp
     exact ⟨_,rfl,rfl,Wt rfl (Z7 (yh (ZL rfl)) rfl (zL (j:=0) rfl)),_,rfl⟩)
   rw [this,Qt]
   rfl
  obtain ⟨d,hd,ed⟩:=at_mod (L:=KK.map fun p=>.tup [.str "call",.int (p.1:Nat)]) (c:=c / 104) (by rw [Qe];exact hpos)
  rw [Qe] at ed
  obtain ⟨p,hp,rfl⟩:=Qw.mp hd
  refine Y4 (jJ (Z7 (yf ec) (f2v (f2v rfl rfl (YZ (by decide) (by decide))) (lenv (ds:=KK.map YA) rfl) (by rw [Qe];exact yc (by omega))) ed) rfl) ?_
  exact row_call (hl.mem p hp).1 (hl.mem p hp).2 hl.few2
 ·rw [Zk,zG,zu,zx]
  refine ge (zP (f2v rfl rfl jf)) (fun e=>?_) (fun _=>?_)
  ·exact Y4 (tup3v rfl nilv nilv) row_either
  ·rw [Zk,zG,zu,zx]
   refine ge (zP (f2v rfl rfl jf)) (fun e=>?_) (fun _=>?_)
   ·exact Y4 (Wt rfl nilv) row_loop
   ·rw [Zk,zG,zu,zx]
    refine ge (andc (zP (f2v rfl rfl jf)) fun _=>zP (f2v (f2v (f2v rfl rfl (YZ (by decide) (by decide))) rfl (yc (by decide))) rfl jf)) (fun e=>?_) (fun _=>?_)
    ·exact Y4 (jJ (tup1_ rfl) rfl) (j8 (ps:=[]) (by decide) (by decide) (by simp) (fun p hp=>by cases hp) (fun p hp=>by cases hp) (by simp only [yI,wts,Yj];omega) (by simp only [nds];omega) (.inr (.inl ⟨rfl,rfl⟩)))
    ·rw [Zk,zG,zu,zx]
     refine ge (orv (zP (f2v rfl rfl jf)) fun _=>zP (f2v rfl rfl jf)) (fun e=>?_) (fun e=>?_)
     ·exact Y4 (jJ (tup1_ rfl) rfl) (j8 (ps:=[]) (by decide) (by decide) (by simp) (fun p hp=>by cases hp) (fun p hp=>by cases hp) (by simp only [yI,wts,Yj];omega) (by simp only [nds];omega) (.inl ⟨rfl,rfl⟩))
     ·rw [Zk,zG,zu,zx]
      simp only [P0,decide_eq_false_iff_not] at e
      have hpos:(0:Int)<(KM:Nat):=by omega
      have q0:=QP (c / 104) (show ((KM:Nat):Int)≠0 by omega)
      have q1:=QH (c / 104) hpos
      refine yp (f2v (f2v rfl rfl (YZ (by decide) (by decide))) rfl (yc hpos)) ?_
      simp only [zSet,zu]
      generalize c / 104 % ((KM:Nat):Int)=box at q0 q1
      have fb:Fi 2 (.int box):=.int (QA (m:=10) (by omega) (by decide)) _
      rw [zx]
      refine ge (andc (zP (f2v rfl rfl gt_)) fun _=>zP (f2v rfl rfl lt_)) (fun _=>?_) (fun _=>?_)
      ·refine Y4 (jJ (Wt rfl rfl) rfl) (j8 (ps:=[.int box]) (by decide) (by decide) (by simp) (fun p hp=>?_) (fun p hp=>?_) (by simp only [yI,wts,Yj,wt_int];omega) (by simp only [nds,nd_int];omega) (.inr (.inr (.inl ⟨box.toNat,rfl,by rw [Int.toNat_of_nonneg q0],by omega⟩))))
       ·rw [Qm.mp hp];rfl
       ·rw [Qm.mp hp];exact fb
      ·rw [Zk,zG,zu]
       obtain ⟨ns,el,hln,hx⟩:=line_ok (c / 13) hm
       refine Y4 (jJ (tup3v rfl rfl (fA2 (f2v rfl rfl (YZ (by decide) (by decide))) rfl el)) (by simp [D.flat,Yi,flats_ints])) (j8 (ps:=[.int box,.tup (ns.map .int)]) (by decide) (by decide) (by simp) (fun p hp=>?_) (fun p hp=>?_) (by simp only [yI,wts,Yj,wt_int,wts_ints];omega) (by simp only [nds,nd_int,yZ,nds_ints];omega) (.inr (.inr (.inr ⟨box.toNat,ns,rfl,by rw [Int.toNat_of_nonneg q0],by omega,hln,hx⟩))))
       ·simp only [Qa,Qi,or_false] at hp
        rcases hp with rfl | rfl <;> rfl
       ·simp only [Qa,Qi,or_false] at hp
        rcases hp with rfl | rfl
        ·exact fb
        ·refine jZ fun r hr=>?_
         obtain ⟨x,hx',rfl⟩:=Qw.mp hr
         exact .int (QA (hx x hx') (by decide)) _
variable {mm:Nat}
def Gq (mm nb f n:Nat) (d:D):Prop:=∃ t:Rq,d=t.toD/\t.ok mm nb/\t.lat f/\t.dph r1<=n/\Fi (2*n+3) d
section
variable {nb f:Nat} {g:Nat->Int}
theorem Gq.mono {n m:Nat} {d:D} (h:Gq mm nb f n d) (hm:n<=m):Gq mm nb f m d:=by
 obtain ⟨t,a,b,c,e,g⟩:=h
 exact ⟨t,a,b,c,by omega,g.mono (by omega)⟩
theorem RowT.gq {d:D} (h:RowT mm nb f d) {n:Nat} (hn:1<=n):Gq mm nb f n d:=by
 obtain ⟨t,a,b,c,e,g,_⟩:=h
 exact ⟨t,a,b,c,by omega,g.mono (by omega)⟩
theorem jz {n:Nat}:∀ {ds:List D},(∀ r∈ds,Gq mm nb f n r)->∃ ts:List Rq,ds=qDs ts/\oks mm nb ts/\Yg f ts/\ZY r1 ts<=n/\ts.length=ds.length
 | [],_=>⟨[],by rw [qDs],by rw [oks];trivial,by rw [Yg];trivial,by rw [ZY];omega,rfl⟩
 | d::ds,h=>by
  obtain ⟨t,a,b,c,e,_⟩:=h d Qj
  obtain ⟨ts,a',b',c',e',l'⟩:=jz fun r hr=>h r (Qc _ hr)
  exact ⟨t::ts,by rw [qDs,<- a,<- a'],by rw [oks];exact ⟨b,b'⟩,by rw [Yg];exact ⟨c,c'⟩,by rw [ZY];omega,by simp [l']⟩
theorem gq_fi {n:Nat} {ds:List D} (h:∀ r∈ds,Gq mm nb f n r):Fi (2*n+4) (.lst ds):=fi_lst fun r hr=>by obtain ⟨_,_,_,_,_,g⟩:=h r hr;exact g
theorem gq_loop {n:Nat} {ds:List D} (hl:ds.length<=100) (h:∀ r∈ds,Gq mm nb f n r):Gq mm nb f (n+1) (.tup [.str "loop",.lst ds]):=by
 obtain ⟨ts,rfl,b,c,e,l⟩:=jz h
 refine ⟨.loop ts,(ye ts).symm,by rw [Rq.ok];exact ⟨b,by omega⟩,by rw [Rq.lat];exact c,by rw [Rq.dph];omega,?_⟩
 refine jZ (n:=2*n+4) fun r hr=>?_
 simp only [Qa,Qi,or_false] at hr
 rcases hr with rfl | rfl
 ·exact .str (by decide) _
 ·exact gq_fi h
theorem Y9 {n:Nat} {as bs:List D} (la:as.length<=100) (ha:∀ r∈as,Gq mm nb f n r) (lb:bs.length<=100) (hb:∀ r∈bs,Gq mm nb f n r):Gq mm nb f (n+1) (.tup [.str "either",.lst as,.lst bs]):=by
 obtain ⟨ts,rfl,b,c,e,l⟩:=jz ha
 obtain ⟨us,rfl,b',c',e',l'⟩:=jz hb
 refine ⟨.either ts us,(ZB ts us).symm,by rw [Rq.ok];exact ⟨⟨b,by omega⟩,b',by omega⟩,by rw [Rq.lat];exact ⟨c,c'⟩,by rw [Rq.dph];omega,?_⟩
 refine jZ (n:=2*n+4) fun r hr=>?_
 simp only [Qa,Qi,or_false] at hr
 rcases hr with rfl | rfl | rfl
 ·exact .str (by decide) _
 ·exact gq_fi ha
 ·exact gq_fi hb
def FrOk (mm nb f m n:Nat) (fr:Fr):Prop:=(fr.x="loop"/\fr.pre=[]/\fr.post=[])\/(fr.x="either"/\fr.pre=[]/\fr.post=[.lst []])\/(fr.x="either"/\fr.post=[]/\∃ a,fr.pre=[.lst a]/\a.length<=m/\∀ r∈a,Gq mm nb f n r)
def Fq (mm nb f dp m:Nat):Nat->List Fr->Prop
 | n,[]=>n=dp
 | n,fr::fs=>FrOk mm nb f m n fr/\fr.done.length+1<=m/\(∀ r∈fr.done,Gq mm nb f (n+1) r)/\Fq mm nb f dp m (n+1) fs
structure Zt (mm nb f dp m n:Nat) (top:List D) (fs:List Fr):Prop where
 len:top.length<=m
 gq:∀ r∈top,Gq mm nb f n r
 pos:1<=n
 fq:Fq mm nb f dp m n fs
variable {dp:Nat}
theorem FrOk.up {m n:Nat} {fr:Fr} (h:FrOk mm nb f m n fr):FrOk mm nb f (m+1) n fr:=by
 rcases h with h | h | ⟨h1,h2,a,h3,h4,h5⟩
 ·exact .inl h
 ·exact .inr (.inl h)
 ·exact .inr (.inr ⟨h1,h2,a,h3,by omega,h5⟩)
theorem Fq.up {m:Nat}:∀ {n:Nat} {fs:List Fr},Fq mm nb f dp m n fs->Fq mm nb f dp (m+1) n fs
 | n,[],h=>h
 | n,fr::fs,⟨a,b,c,d⟩=>⟨a.up,by omega,c,d.up⟩
theorem Fq.sum {m:Nat}:∀ {n:Nat} {fs:List Fr},Fq mm nb f dp m n fs->n+fs.length=dp
 | n,[],h=>h
 | n,fr::fs,⟨_,_,_,d⟩=>by have:=d.sum;simp only [Qg];omega
theorem Zt.up {m n:Nat} {top:List D} {fs:List Fr} (z:Zt mm nb f dp m n top fs):Zt mm nb f dp (m+1) n top fs:=⟨Nat.le_succ_of_le z.len,z.gq,z.pos,z.fq.up⟩
theorem Zt.row {m n:Nat} {top:List D} {fr:Fr} {fs:List Fr} (z:Zt mm nb f dp m n top (fr::fs)) (hm:m<=100):Zt mm nb f dp m (n+1) (shut fr top) fs:=by
 obtain ⟨a,b,c,d⟩:=z.fq
 refine ⟨?_,fun r hr=>?_,by omega,d⟩
 ·unfold shut;rw [Qf];simp only [Qg,QB];omega
 ·unfold shut at hr
  rcases Qq.mp hr with hr | hr
  ·exact c r hr
  ·rw [Qm.mp hr]
   have hl:=z.len
   rcases a with ⟨h1,h2,h3⟩ | ⟨h1,h2,h3⟩ | ⟨h1,h2,e,h3,h4,h5⟩
   ·rw [h1,h2,h3];exact gq_loop (by omega) z.gq
   ·rw [h1,h2,h3];exact Y9 (by omega) z.gq (by simp) fun r hr=>by cases hr
   ·rw [h1,h2,h3];exact Y9 (by omega) h5 (by omega) z.gq
theorem Zt.shut {m:Nat} (hm:m<=100):∀ {fs:List Fr} {n:Nat} {top:List D},Zt mm nb f dp m n top fs->(Zb top fs).length<=m/\∀ r∈Zb top fs,Gq mm nb f dp r
 | [],n,top,z=>by
  have e:n=dp:=z.fq
  subst e
  exact ⟨z.len,z.gq⟩
 | fr::fs,n,top,z=>by rw [Zb];exact Zt.shut hm (z.row hm)
theorem j4:∀ (fs:List Fr) (top:List D),wts (Zb top fs)=wts top+wts (Zb [] fs)
 | [],top=>by rw [Zb,Zb];simp only [wts];omega
 | fr::fs,top=>by
  rw [Zb,Zb,j4 fs (M.shut fr top),j4 fs (M.shut fr [])]
  unfold M.shut
  simp only [j5,wts,yI,jL]
  omega
theorem Jb:∀ (fs:List Fr) (top:List D),nds (Zb top fs)=nds top+nds (Zb [] fs)
 | [],top=>by rw [Zb,Zb];simp only [nds];omega
 | fr::fs,top=>by
  rw [Zb,Zb,Jb fs (M.shut fr top),Jb fs (M.shut fr [])]
  unfold M.shut
  simp only [nds_app,nds,yZ,jw]
  omega
theorem Jd:∀ (fs:List Fr) (top:List D),csL g (Zb top fs)=csL g top+csL g (Zb [] fs)
 | [],top=>by rw [Zb,Zb];simp only [csL];omega
 | fr::fs,top=>by
  rw [Zb,Zb,Jd fs (M.shut fr top),Jd fs (M.shut fr [])]
  unfold M.shut
  simp only [csL_app,csL,jE,Jw]
  rw [wc_lst fr.x fr.pre top [] fr.post]
  omega
theorem inV2 {x:Kw} (h1:x≠"either") (h2:x≠"loop"):inV (.str x) jW=false:=by
 unfold inV jW
 simp only [Pc,List.any_nil,Bool.or_false,P0]
 exact ⟨by simp [eqV];exact fun e=>h1 e.symm,by simp [eqV];exact fun e=>h2 e.symm⟩
theorem add_ok {m n:Nat} {top:List D} {fs:List Fr} {d:D} (z:Zt mm nb f dp m n top fs) (hd:RowT mm nb f d) (hm:m<100) (hdp:dp<=10):∃ top' fs' n',addQ (dp:Nat) d top fs=some (top',fs')/\Zt mm nb f dp (m+1) n' top' fs'/\Zb top' fs'=Zb (top++[d]) fs:=by
 have hg:=hd.gq z.pos
 have hl:=z.len
 have hs:=z.fq.sum
 have zup:Zt mm nb f dp (m+1) n (top++[d]) fs:=⟨by rw [Qf];simp only [Qg,QB];omega,fun r hr=>by
  rcases Qq.mp hr with hr | hr
  ·exact z.gq r hr
  ·rw [Qm.mp hr];exact hg,z.pos,z.fq.up⟩
 have htop:top.length<Kg:=w9 (by omega)
 obtain ⟨t,rfl,ok,_,_,_,_,hk⟩:=hd
 have hn:=z.pos
 have fit:∀ {x:Kw} {ps:List D},FrOk mm nb f (m+1) (n - 1) ⟨top,x,[],ps⟩->((fs.length+1:Nat):Int)<(dp:Nat)->Zt mm nb f dp (m+1) (n - 1) [] (⟨top,x,[],ps⟩::fs):=fun hF hlt =>
  ⟨by simp,fun r hr=>(by cases hr),by omega,hF,by simp only;omega,fun r hr=>by rw [show n - 1+1=n by omega];exact z.gq r hr,by rw [show n - 1+1=n by omega];exact z.fq.up⟩
 rcases hk with (rfl | rfl) | ⟨k,rfl⟩ | ⟨x,ps,rfl⟩
 ·rw [ye,qDs] at zup ⊢
  unfold addQ
  simp only
  rw [KQ ⟨htop,by omega,by simp⟩]
  by_cases ho:inV (.str "loop") jW=true/\((fs.length+1:Nat):Int)<(dp:Nat)
  ·rw [KQ ho,KQ ⟨by simp,by simp⟩]
   exact ⟨_,_,n - 1,rfl,fit (.inl ⟨rfl,rfl,rfl⟩) ho.2,by rw [Zb];rfl⟩
  ·rw [KR ho]
   exact ⟨_,_,n,rfl,zup,rfl⟩
 ·rw [ZB,qDs] at zup ⊢
  unfold addQ
  simp only
  rw [KQ ⟨htop,by omega,by simp⟩]
  by_cases ho:inV (.str "either") jW=true/\((fs.length+1:Nat):Int)<(dp:Nat)
  ·rw [KQ ho,KQ ⟨by simp,by simp⟩]
   exact ⟨_,_,n - 1,rfl,fit (.inr (.inl ⟨rfl,rfl,rfl⟩)) ho.2,by rw [Zb];rfl⟩
  ·rw [KR ho]
   exact ⟨_,_,n,rfl,zup,rfl⟩
 ·rw [yl] at zup ⊢
  unfold addQ
  simp only
  rw [KQ ⟨htop,by omega,by simp⟩,KR (fun h=>by rw [inV2 (by decide) (by decide)] at h;cases h.1)]
  exact ⟨_,_,n,rfl,zup,rfl⟩
 ·rw [Rq.ok] at ok
  rw [yj] at zup ⊢
  unfold addQ
  simp only
  rw [KQ ⟨htop,by omega,by omega⟩,KR (fun h=>by rw [inV2 ok.1.2.2 ok.1.2.1] at h;cases h.1)]
  exact ⟨_,_,n,rfl,zup,rfl⟩
theorem pop_ok {m n:Nat} {top:List D} {fs:List Fr} (z:Zt mm nb f dp m n top fs) (hm:m<=100) (hp:0<fs.length):∃ top' fs' n',popQ top fs=some (top',fs')/\Zt mm nb f dp m n' top' fs'/\Zb top' fs'=Zb top fs:=by
 cases fs with
 | nil=>simp at hp
 | cons fr fs =>
  obtain ⟨a,b,c,d⟩:=id z.fq
  rcases a with ⟨h1,h2,h3⟩ | ⟨h1,h2,h3⟩ | ⟨h1,h2,e,h3,h4,h5⟩
  ·refine ⟨_,_,n+1,by rw [popQ,h3],z.row hm,by rw [Zb]⟩
  ·refine ⟨[],⟨fr.done,fr.x,fr.pre++[.lst top],[]⟩::fs,n,by rw [popQ,h3],⟨by simp,fun r hr=>(by cases hr),z.pos,.inr (.inr ⟨h1,rfl,top,by rw [h2];rfl,z.len,z.gq⟩),b,c,d⟩,?_⟩
   rw [Zb,Zb]
   unfold M.shut
   simp only
   rw [h2,h3]
   rfl
  ·refine ⟨_,_,n+1,by rw [popQ,h2],z.row hm,by rw [Zb]⟩
def Draws (mm nb f:Nat) (g:Nat->Int) (ρ:Ev) (F c1 c2:Ev->Option D):Prop:=∀ (u c:Int),∃ (d k1:D) (k:Int),F ((evQ ρ u).set 8 (some (.int c)))=some d/\RowT mm nb f d/\c1 (((evQ ρ u).set 8 (some (.int c))).set 9 (some d))=some k1/\c2 ((((evQ ρ u).set 8 (some (.int c))).set 9 (some d)).set 10 (some k1))=some (.int k)/\k=cs g d
theorem step_ok {ρ:Ev} {F c1 c2:Ev->Option D} (hD:Draws mm nb f g ρ F c1 c2) {m n:Nat} {top:List D} {fs:List Fr} {c u KN:Int} (z:Zt mm nb f dp m n top fs) (hm:m<100) (hdp:dp<=10):∃ top' fs' n' u',stepQ (dp:Nat) KN ρ F c1 c2 c top fs u=some ((top',fs'),u')/\Zt mm nb f dp (m+1) n' top' fs'/\wts (Zb top' fs')<=wts (Zb top fs)+151/\nds (Zb top' fs')<=nds (Zb top fs)+2/\csL g (Zb top' fs') - u'=csL g (Zb top fs) - u/\(u<=KN->u'<=KN):=by
 unfold stepQ
 by_cases hc:c % 8=0/\0<fs.length
 ·rw [KQ hc]
  obtain ⟨top',fs',n',e,z',hcl⟩:=pop_ok z (by omega) hc.2
  exact ⟨top',fs',n',u,by rw [e];rfl,z'.up,by rw [hcl];omega,by rw [hcl];omega,by rw [hcl],id⟩
 ·rw [KR hc]
  obtain ⟨d,k1,k,e1,hd,e2,e3,e4⟩:=hD u c
  have hr:isRowT d=true:=by
   obtain ⟨t,rfl,_⟩:=hd
   cases t with
   | one x ps=>rw [yj];rfl
   | call k=>rw [yl];rfl
   | loop a=>rw [ye];rfl
   | either a b=>rw [ZB];rfl
  rw [e1,oB,KQ hr,e2,oB,e3,oB,asI_,oB]
  by_cases hu:u+k<=KN
  ·rw [KQ hu]
   obtain ⟨top',fs',n',e,z',hcl⟩:=add_ok z hd hm hdp
   obtain ⟨_,_,_,_,_,_,hw,_⟩:=hd
   refine ⟨top',fs',n',u+k,by rw [e];rfl,z',?_,?_,?_,fun _=>hu⟩
   ·rw [hcl,j4 fs (top++[d]),j4 fs top,j5]
    simp only [wts]
    omega
   ·rw [hcl,Jb fs (top++[d]),Jb fs top,nds_app]
    simp only [nds]
    omega
   ·rw [hcl,Jd fs (top++[d]),Jd fs top,csL_app]
    simp only [csL]
    omega
  ·rw [KR hu]
   exact ⟨top,fs,n,u,rfl,z.up,by omega,by omega,rfl,id⟩
theorem goQ_ok {ρ:Ev} {F c1 c2:Ev->Option D} (hD:Draws mm nb f g ρ F c1 c2) {KN:Int} (hdp:dp<=10):∀ (cs:List Int) (m n:Nat) (top:List D) (fs:List Fr) (u:Int),Zt mm nb f dp m n top fs->m+cs.length<=100->∃ out u',goQ (dp:Nat) KN ρ F c1 c2 cs top fs u=some (out,u')/\out.length<=m+cs.length/\(∀ r∈out,Gq mm nb f dp r)/\wts out<=wts (Zb top fs)+151*cs.length/\nds out<=nds (Zb top fs)+2*cs.length/\csL g out - u'=csL g (Zb top fs) - u/\(u<=KN->u'<=KN)
 | [],m,n,top,fs,u,z,hm=>by
  obtain ⟨h1,h2⟩:=z.shut (by simp at hm;omega)
  exact ⟨_,u,by rw [goQ],by simpa using h1,h2,by simp,by simp,rfl,id⟩
 | c::cs,m,n,top,fs,u,z,hm=>by
  simp only [Qg] at hm
  obtain ⟨top',fs',n',u',e,z',hw,hn,hc,hm1⟩:=step_ok (c:=c) (u:=u) (KN:=KN) hD z (by omega) hdp
  obtain ⟨out,u2,e2,hl,hg,hw2,hn2,hc2,hm2⟩:=goQ_ok hD hdp cs (m+1) n' top' fs' u' z' (by omega)
  refine ⟨out,u2,?_,by simp only [Qg];omega,hg,by simp only [Qg];omega,by simp only [Qg];omega,hc2.trans hc,fun h=>hm2 (hm1 h)⟩
  rw [goQ,e,oB]
  exact e2
end
variable {mm:Nat}
theorem eqD_ii (a b:Int):YY (.int a) (.int b)=some (.bl (decide (a=b))):=by
 have h:∀ i:Int,YX (.int i)=true:=fun i=>by
  unfold YX SeqAt.shaped
  rw [(Py.int i 0).1,KS (QA (Py.int i 0).2 (by omega))];rfl
 unfold YY
 rw [KQ ⟨h a,h b⟩]
 unfold eqD
 rw [zZ,zZ,PyData.eqv]
 rfl
def CoOf (d:D):Option Nat->Prop
 | some k=>d=.tup [.str "call",.int (k:Nat)]
 | none=>∃ x ps,d=.tup (.str x::ps)/\x≠"call"
def coV (v:Int) (g:Nat->Int):Option Nat->Int
 | some k=>g k
 | none=>v
theorem cost_comp {d:D} (co:Option Nat) (hd:CoOf d co):∀ (KK:List (Nat×Int)) (ρ:Ev),ρ.length=12->ρ[9]?=some (some d)->∃ vs:List Int,Yo (zI 11) (jB (zw (f2 Ze (fIx (zk false (zc 9)) (fC (.int 0))) (fC (.str "call")))) (zw (f2 YY (fIx (zk false (zc 11)) (fC (.int 0))) (fIx (zk false (zc 9)) (fC (.int 1)))))) (fIx (zk false (zc 11)) (fC (.int 1))) (KK.map YA) ρ=some (vs.map .int)/\vs.length<=KK.length/\vs.sum=coV 0 (yg KK) co
 | [],ρ,_,_=>⟨[],rfl,Ql _,by cases co <;> rfl⟩
 | p::KK,ρ,hl,h9=>by
  have l1:(ρ.set 11 (some (YA p))).length=12:=by simpa using hl
  have h9':(ρ.set 11 (some (YA p)))[9]?=some (some d):=by rw [zf (by decide)];exact h9
  have h11:(ρ.set 11 (some (YA p)))[11]?=some (some (YA p)):=zK (by omega)
  obtain ⟨vs,e,hv,hs⟩:=cost_comp co hd KK _ l1 h9'
  cases co with
  | none =>
   obtain ⟨x,ps,rfl,hx⟩:=hd
   have et:jB (zw (f2 Ze (fIx (zk false (zc 9)) (fC (.int 0))) (fC (.str "call")))) (zw (f2 YY (fIx (zk false (zc 11)) (fC (.int 0))) (fIx (zk false (zc 9)) (fC (.int 1))))) (ρ.set 11 (some (YA p)))=some false:=andc (kno h9' hx) (b:=false) fun z=>by cases z
   rw [Qk,Yo,zI,oB,et,oB,KR (by simp),e]
   exact ⟨vs,rfl,by simp;omega,hs⟩
  | some k =>
   have hd':d=.tup [.str "call",.int (k:Nat)]:=hd
   rw [hd'] at h9'
   have et:jB (zw (f2 Ze (fIx (zk false (zc 9)) (fC (.int 0))) (fC (.str "call")))) (zw (f2 YY (fIx (zk false (zc 11)) (fC (.int 0))) (fIx (zk false (zc 9)) (fC (.int 1))))) (ρ.set 11 (some (YA p)))=some (decide (p.1=k)):=(andc (kis h9') fun _=>zP (f2v (Z7 (yh (ZL h11)) rfl (zL (j:=0) rfl)) (Z7 (yh (ZL h9')) rfl (zL (j:=1) rfl)) (eqD_ii (p.1:Nat) (k:Nat)))).trans (by simp [Int.natCast_inj])
   rw [Qk,Yo,zI,oB,et,oB]
   by_cases hk:p.1=k
   ·rw [KQ (by simp [hk]),Z7 (d:=.int p.2) (yh (ZL h11)) rfl (zL (j:=1) rfl),oB,e]
    refine ⟨p.2::vs,rfl,by simp;omega,?_⟩
    rw [P5,hs]
    show p.2+yg KK k=yg (p::KK) k
    rw [yg,KQ hk]
   ·rw [KR (by simp [hk]),e]
    refine ⟨vs,rfl,by simp;omega,?_⟩
    rw [hs]
    show yg KK k=yg (p::KK) k
    rw [yg,KR hk]
    omega
theorem draws_ok {nb f KM:Nat} (hm:KM<=6) {KK:List (Nat×Int)} (hl:LatOk nb f KK) (cells:D) (deep KN:Int):Draws KM nb f (yg KK) (Zd 11 [cells,.int (KM:Nat),jy KK,.int deep,.int KN]) (fA mq22 (za (zc 8) (za (zc 1) (za (zc 2) zi)))) (fA gg (zk true (Zs 1 (zk true (zc 2)) (zI 11) (jB (zw (f2 Ze (fIx (zk false (zc 9)) (fC (.int 0))) (fC (.str "call")))) (zw (f2 YY (fIx (zk false (zc 11)) (fC (.int 0))) (fIx (zk false (zc 9)) (fC (.int 1)))))) (fIx (zk false (zc 11)) (fC (.int 1)))))) (f2 yo (zc 10) (fA gInt (za (yw (f2 je (fIx (zk false (zc 9)) (fC (.int 0))) (fC (.str "call")))) zi))):=by
 intro u c
 obtain ⟨d,ed,hd⟩:=deed_ok c hm hl
 obtain ⟨co,hco,hcs⟩:∃ co:Option Nat,CoOf d co/\∀ g:Nat->Int,cs g d=coV 1 g co:=by
  obtain ⟨t,rfl,ok,_,_,_,_,hk⟩:=hd
  have hc:=fun g=>cs_tree (g:=g) t ok
  rcases hk with (rfl | rfl) | ⟨k,rfl⟩ | ⟨x,ps,rfl⟩
  ·exact ⟨none,⟨_,_,ye [],by decide⟩,fun g=>by rw [hc];simp [Rq.np,nps,coV]⟩
  ·exact ⟨none,⟨_,_,ZB [] [],by decide⟩,fun g=>by rw [hc];simp [Rq.np,nps,coV]⟩
  ·exact ⟨some k,yl k,fun g=>by rw [hc];simp [Rq.np,coV]⟩
  ·rw [Rq.ok] at ok
   exact ⟨none,⟨x,ps,yj x ps,ok.1.1⟩,fun g=>by rw [hc];simp [Rq.np,coV]⟩
 obtain ⟨vs,ev,hv,hs⟩:=cost_comp co hco KK ([some cells,some (.int (KM:Nat)),some (jy KK),some (.int deep),some (.int KN),none,none,some (.int u),some (.int c),some d,none]++List.replicate 1 none) rfl rfl
 have en:∃ b:Bool,f2 je (fIx (zk false (zc 9)) (fC (.int 0))) (fC (.str "call")) [some cells,some (.int (KM:Nat)),some (jy KK),some (.int deep),some (.int KN),none,none,some (.int u),some (.int c),some d,some (.int vs.sum)]=some (.bl b)/\vs.sum+(if b then 1 else 0)=cs (yg KK) d:=by
  rw [hcs,hs]
  cases co with
  | none =>
   obtain ⟨x,ps,rfl,hx⟩:=hco
   exact ⟨true,f2v (W7 rfl) rfl (ne_t hx),rfl⟩
  | some k =>
   have hd':d=.tup [.str "call",.int (k:Nat)]:=hco
   subst hd'
   exact ⟨false,f2v (W7 rfl) rfl ne_f,by simp [coV]⟩
 obtain ⟨b,eb,hb⟩:=en
 refine ⟨d,.int vs.sum,vs.sum+(if b then 1 else 0),fA3 rfl rfl rfl ed,hd,?_,?_,hb⟩
 ·show fA gg _ [some cells,some (.int (KM:Nat)),some (jy KK),some (.int deep),some (.int KN),none,none,some (.int u),some (.int c),some d,none]=_
  have hfew:=hl.few
  have ec:Zs 1 (zk true (zc 2)) (zI 11) (jB (zw (f2 Ze (fIx (zk false (zc 9)) (fC (.int 0))) (fC (.str "call")))) (zw (f2 YY (fIx (zk false (zc 11)) (fC (.int 0))) (fIx (zk false (zc 9)) (fC (.int 1)))))) (fIx (zk false (zc 11)) (fC (.int 1))) [some cells,some (.int (KM:Nat)),some (jy KK),some (.int deep),some (.int KN),none,none,some (.int u),some (.int c),some d,none]=some (.lst (vs.map .int)):=by
   rw [fComp_,yf (ds:=KK.map YA) rfl,oB,ev,oB]
   exact wN (yz (by rw [Qe];omega))
  rw [fA_,yf ec,oB]
  exact gSum_
 ·exact f2v (x:=.int vs.sum) (y:=.int (if b then 1 else 0)) rfl (fA1 (jJ eb rfl) rfl) rfl
theorem body_ok {nb f KM dp:Nat} (hm:KM<=6) {KK:List (Nat×Int)} (hl:LatOk nb f KK) {cs:List Int} (hc:cs.length<=20) (hd1:1<=dp) (hd2:dp<=10) {KN:Int} (h0:0<=KN):∃ (out:List D) (u:Int),mq23 [.lst (cs.map .int),.int (KM:Nat),jy KK,.int (dp:Nat),.int KN]=some (.tup [.lst out,.int u])/\out.length<=20/\(∀ r∈out,Gq KM nb f dp r)/\wts out<=151*cs.length/\nds out<=2*cs.length/\csL (yg KK) out=u/\u<=KN:=by
 obtain ⟨out,u,e,h1,h2,h3,h4,h5,h6⟩:=goQ_ok (draws_ok hm hl (.lst (cs.map .int)) (dp:Nat) KN) (KN:=KN) hd2 cs 0 dp [] [] 0 ⟨by simp,fun r hr=>(by cases hr),hd1,rfl⟩ (by omega)
 refine ⟨out,u,?_,by omega,h2,by simpa [Zb,wts] using h3,by simpa [Zb,nds] using h4,by simp only [Zb,csL] at h5;omega,h6 h0⟩
 refine wD rfl ?_
 unfold bq23 mB15
 show Option.bind (Jm (cs.map .int)) _=_
 rw [wk,oB]
 show Option.bind (some ((dp:Nat):Int)) _=_
 rw [oB]
 show Option.bind (some KN) _=_
 rw [oB,KQ (by rfl),e]
 rfl
variable {mm:Nat}
theorem fA5 {ρ:Ev} {fa fb fc fd fe:Ev->Option D} {x y z t w d:D} {g:List D->Option D} (h1:fa ρ=some x) (h2:fb ρ=some y) (h3:fc ρ=some z) (h4:fd ρ=some t) (h5:fe ρ=some w) (e:g [x,y,z,t,w]=some d):fA g (za fa (za fb (za fc (za fd (za fe zi))))) ρ=some d:=by
 rw [fA_,ZQ,h1,oB,ZQ,h2,oB,ZQ,h3,oB,ZQ,h4,oB,ZQ,h5];exact e
def hb (n k:Nat):Nat:=if k=0 then (if n=1 then 6 else 3) else 2
structure BodG (mm n k:Nat) (ds:List D):Prop where
 len:ds.length<=20
 gq:∀ r∈ds,Gq mm n (k+1) (hb n k) r
 wt:wts ds<=2500
 nd:nds ds<=if k=0 then 40 else 8
theorem wrap_v {ρ:Ev} {d:D} (h:ρ[12]?=some (some d)):Za (za (ZO (za (fC (.str "either")) (za (Za zi) (za (Za (za (ZO (za (fC (.str "loop")) (za (Za (za (ZO (za (fC (.str "either")) (za (zc 12) (za (Za zi) zi)))) zi)) zi))) zi)) zi)))) zi) ρ=some (.lst [.tup [.str "either",.lst [],.lst [.tup [.str "loop",.lst [.tup [.str "either",d,.lst []]]]]]]) :=
 Yf (tup3v rfl nilv (Yf (Wt rfl (Yf (tup3v rfl (ZL h) nilv)))))
theorem wrap_g {out:List D} (hl:out.length<=20) (hg:∀ r∈out,Gq mm 1 1 3 r) (hw:wts out<=2265) (hn:nds out<=30):BodG mm 1 0 [.tup [.str "either",.lst [],.lst [.tup [.str "loop",.lst [.tup [.str "either",.lst out,.lst []]]]]]]:=by
 have one:∀ {n:Nat} {d:D},Gq mm 1 1 n d->∀ r∈[d],Gq mm 1 1 n r:=fun h r hr=>by rw [Qm.mp hr];exact h
 have non:∀ {n:Nat},∀ r∈([]:List D),Gq mm 1 1 n r:=fun r hr=>by cases hr
 have g1:Gq mm 1 1 4 (.tup [.str "either",.lst out,.lst []]):=Y9 (n:=3) (by omega) hg (by simp) non
 have g2:Gq mm 1 1 5 (.tup [.str "loop",.lst [.tup [.str "either",.lst out,.lst []]]]):=gq_loop (n:=4) (by simp) (one g1)
 have g3:Gq mm 1 1 6 (.tup [.str "either",.lst [],.lst [.tup [.str "loop",.lst [.tup [.str "either",.lst out,.lst []]]]]]):=Y9 (n:=5) (by simp) non (by simp) (one g2)
 refine ⟨by simp,one g3,?_,?_⟩
 ·simp only [wts,yI,jL,Yj];omega
 ·simp only [nds,yZ,jw,jv]
  show _<=(if (0:Nat)=0 then 40 else 8)
  rw [KQ rfl]
  omega
def Ct (n i:Nat) (KN:Int) (L:List (List D)) (KK:List (Nat×Int)) (t:Nat):Prop:=(KK.getD t (0,0)).1=n - i+t/\(KK.getD t (0,0)).2<=KN/\(csL (yg (KK.drop (t+1))) (L.getD t [])=(KK.getD t (0,0)).2\/(n=1/\csL (yg (KK.drop (t+1))) (L.getD t [])=(KK.getD t (0,0)).2+3))
abbrev PI (ns:List Int) (at_ KM:Nat) (KN:Int) (n i:Nat) (ρ:Ev):Prop:=i<=n/\∃ (L:List (List D)) (KK:List (Nat×Int)) (z7 z8 z9 z10 z11 z12 z13:Option D),ρ=[some (.scr ns),some (.int (at_:Nat)),some (.int (KM:Nat)),some (.int KN),some (.lst (L.map .lst)),some (jy KK),some (.int (n:Nat)),z7,z8,z9,z10,z11,z12,z13]/\L.length=i/\KK.length=i/\(∀ p∈KK,n - i<=p.1/\p.1<n)/\(∀ t,t<i->BodG KM n (n - i+t) (L.getD t []))/\(∀ p∈KK,0<=p.2)/\∀ t,t<i->Ct n i KN L KK t
theorem prog_ok (ns:List Int) {at_ KM:Nat} (ha:at_<=100) (hm:KM<=6) {KN:Int} (h0:0<=KN):∃ (L:List (List D)) (KK:List (Nat×Int)),mq24 [.scr ns,.int (at_:Nat),.int (KM:Nat),.int KN]=some (.tup [.int (KM:Nat),.lst (L.map .lst)])/\1<=L.length/\L.length<=4/\(∀ k,k<L.length->BodG KM L.length k (L.getD k []))/\KK.length=L.length/\(∀ p∈KK,0<=p.2)/\∀ t,t<L.length->Ct L.length L.length KN L KK t:=by
 suffices h:Wo (mq24 [.scr ns,.int (at_:Nat),.int (KM:Nat),.int KN]) fun d=>∃ (L:List (List D)) (KK:List (Nat×Int)),d=.tup [.int (KM:Nat),.lst (L.map .lst)]/\1<=L.length/\L.length<=4/\(∀ k,k<L.length->BodG KM L.length k (L.getD k []))/\KK.length=L.length/\(∀ p∈KK,0<=p.2)/\∀ t,t<L.length->Ct L.length L.length KN L KK t by
  obtain ⟨d,e,L,KK,rfl,q⟩:=h
  exact ⟨L,KK,e,q⟩
 unfold mq24 bq24
 rw [ZZ]
 refine ⟨rfl,?_⟩
 simp only [Zd,zMap,zLen,List.replicate,zApp,QD,Nat.reduceAdd,Nat.reduceSub]
 obtain ⟨v0,e0⟩:=Wn ns (at_:Nat) (by omega) (by omega)
 have p0:=QP v0 (show (4:Int)≠0 by decide)
 have p1:=QH v0 (show (0:Int)<4 by decide)
 obtain ⟨n,hn⟩:∃ n:Nat,1+v0 % 4=n:=⟨(1+v0 % 4).toNat,by omega⟩
 have n1:1<=n:=by omega
 have n4:n<=4:=by omega
 rw [zx]
 refine yp nilv ?_
 simp only [zSet,zu]
 rw [zx]
 refine yp nilv ?_
 simp only [zSet,zu]
 rw [zx]
 refine yp (d:=.int (n:Nat)) (f2v rfl (f2v (fA2 rfl rfl e0) rfl (yc (by decide))) (wY.trans (by rw [hn]))) ?_
 simp only [zSet,zu]
 have er:gh (f2 wu (zc 6) (fC (.int 1))) (f1 wX (fC (.int 1))) [some (.scr ns),some (.int (at_:Nat)),some (.int (KM:Nat)),some (.int KN),some (.lst []),some (.lst []),some (.int (n:Nat)),none,none,none,none,none,none,none]=some (YK ((n:Int) - 1) n):=by
  unfold gh
  rw [show f2 wu (zc 6) (fC (.int 1)) [some (.scr ns),some (.int (at_:Nat)),some (.int (KM:Nat)),some (.int KN),some (.lst []),some (.lst []),some (.int (n:Nat)),none,none,none,none,none,none,none]=some (.int ((n:Int) - 1)) from rfl,oB,show f1 wX (fC (.int 1)) [some (.scr ns),some (.int (at_:Nat)),some (.int (KM:Nat)),some (.int KN),some (.lst []),some (.lst []),some (.int (n:Nat)),none,none,none,none,none,none,none]=some (.int (-1)) from rfl,oB,asI_,oB,asI_,oB,KQ (by omega)]
  congr 2
  omega
 rw [zx,W4,er,oB]
 refine wo_for (fun i ρ=>PI ns at_ KM KN n i ρ) ⟨Q5 _,[],[],_,_,_,_,_,_,_,rfl,rfl,rfl,fun p hp=>(by cases hp),fun t ht=>by omega,fun p hp=>(by cases hp),fun t ht=>by omega⟩ ?_ ?_
 ·rintro i d ρ hd ⟨hi,L,KK,z7,z8,z9,z10,z11,z12,z13,rfl,hL,hla,hmem,hG,hnn,hct⟩
  obtain ⟨hin,rfl⟩:=YJ hd
  obtain ⟨k,hk⟩:∃ k:Nat,k=n - 1 - i:=⟨_,rfl⟩
  have ej:(n:Int) - 1 - (i:Nat)=((k:Nat):Int):=by omega
  rw [ej,uName_,zG]
  simp only [zSet]
  rw [zx]
  refine yp rfl ?_
  simp only [zSet,zu]
  rw [zx]
  refine yp rfl ?_
  simp only [zSet,zu]
  rw [zx]
  have Zg:∀ (sz dp:Nat),sz<=(if k=0 then 15 else 4)->dp=(if k=0 then 3 else 2)->Wo (zE (Zj 10 (f2 yo (f2 yo (f2 yo (zc 1) (fC (.int 1))) (f2 jD (fC (.int 11)) (fA gInt (za (yw (f2 dGt (zc 7) (fC (.int 0)))) zi)))) (f2 jD (fC (.int 4)) (zc 7))))
    (zE (Zj 11 (Zs 1 (wL (zc 8)) (zI 14) Z2 (fA JR (za (zc 0) (za (f2 yo (zc 10) (zc 14)) zi)))))
    (zE (mAsg (uTup (Jk (zI 12) (Jk (zI 13) uNil))) (fA mq23 (za (zc 11) (za (zc 2) (za (zc 5) (za (zc 9) (za (zc 3) zi)))))))
    (zE (mIf (jB (zw (f2 Ze (zc 6) (fC (.int 1)))) (zw (f2 Ze (f2 Yu (f2 wv (fA JR (za (zc 0) (za (zc 1) zi))) (fC (.int 108))) (fC (.int 2))) (fC (.int 1)))))
    (Zj 12 (Za (za (ZO (za (fC (.str "either")) (za (Za zi) (za (Za (za (ZO (za (fC (.str "loop")) (za (Za (za (ZO (za (fC (.str "either")) (za (zc 12) (za (Za zi) zi)))) zi)) zi))) zi)) zi)))) zi)))
    zV)
    (zE (Zj 4 (Yl (fL (Za (za (zc 12) zi))) (fL (zc 4))))
    (Zj 5 (Yl (fL (Za (za (ZO (za (zc 7) (za (zc 13) zi))) zi))) (fL (zc 5))))))))
    [some (.scr ns),some (.int (at_:Nat)),some (.int (KM:Nat)),some (.int KN),some (.lst (L.map .lst)),some (jy KK),some (.int (n:Nat)),some (.int (k:Nat)),some (.int (sz:Nat)),some (.int (dp:Nat)),z10,z11,z12,z13]) fun o=>∃ ρ2,o=.nx ρ2/\PI ns at_ KM KN n (i+1) ρ2:=by
   intro sz dp hsz hdp
   have hsz':sz<=15:=by split at hsz <;> omega
   have hdp1:1<=dp/\dp<=3:=by split at hdp <;> omega
   obtain ⟨bg,hbg,ebg⟩:∃ bg:Nat,bg<=200/\f2 yo (f2 yo (f2 yo (zc 1) (fC (.int 1))) (f2 jD (fC (.int 11)) (fA gInt (za (yw (f2 dGt (zc 7) (fC (.int 0)))) zi)))) (f2 jD (fC (.int 4)) (zc 7)) [some (.scr ns),some (.int (at_:Nat)),some (.int (KM:Nat)),some (.int KN),some (.lst (L.map .lst)),some (jy KK),some (.int (n:Nat)),some (.int (k:Nat)),some (.int (sz:Nat)),some (.int (dp:Nat)),z10,z11,z12,z13]=some (.int (bg:Nat)):=by
    by_cases h0:(0:Int)<(k:Nat)
    ·refine ⟨at_+1+11+4*k,by omega,f2v (f2v (f2v rfl rfl wY) (f2v (x:=.int 11) (y:=.int 1) rfl (fA1 (x:=.bl true) (jJ (f2v rfl rfl (by rw [gt_,KS h0])) rfl) rfl) (y6 (wS (by decide) (by decide)))) wY) (f2v rfl rfl (y6 (wS (by decide) (by decide)))) (wY.trans ?_)⟩
     congr 2
    ·refine ⟨at_+1+4*k,by omega,f2v (f2v (f2v rfl rfl wY) (f2v (x:=.int 11) (y:=.int 0) rfl (fA1 (x:=.bl false) (jJ (f2v rfl rfl (by rw [gt_,KU h0])) rfl) rfl) (y6 (wS (by decide) (by decide)))) wY) (f2v rfl rfl (y6 (wS (by decide) (by decide)))) (wY.trans ?_)⟩
     congr 2
   rw [zx]
   refine yp ebg ?_
   simp only [zSet,zu]
   obtain ⟨cs,ecs,hcs,_⟩:=fcomp_ints (k:=1) (fl:=wL (zc 8)) (u:=zI 14) (c:=Z2) (e:=fA JR (za (zc 0) (za (f2 yo (zc 10) (zc 14)) zi))) (ρ:=[some (.scr ns),some (.int (at_:Nat)),some (.int (KM:Nat)),some (.int KN),some (.lst (L.map .lst)),some (jy KK),some (.int (n:Nat)),some (.int (k:Nat)),some (.int (sz:Nat)),some (.int (dp:Nat)),some (.int (bg:Nat)),z11,z12,z13]) (ds:=yX 0 sz) (fun _ _=>True) (fun ρ=>∃ z:Option D,ρ=[some (.scr ns),some (.int (at_:Nat)),some (.int (KM:Nat)),some (.int KN),some (.lst (L.map .lst)),some (jy KK),some (.int (n:Nat)),some (.int (k:Nat)),some (.int (sz:Nat)),some (.int (dp:Nat)),some (.int (bg:Nat)),z11,z12,z13,z])
    (rng1v (n:=sz) rfl (by omega)) (by rw [YV];omega) ⟨none,rfl⟩ (by
     rintro t d ρ hd ⟨z,rfl⟩
     obtain ⟨ht,rfl⟩:=WP hd
     rw [uName_,zG]
     simp only [zSet]
     obtain ⟨v,ev⟩:=Wn ns ((bg:Nat)+(0+(t:Nat))) (by omega) (by omega)
     exact ⟨rfl,⟨_,fA2 rfl (f2v rfl rfl wY) ev,v,rfl,trivial⟩,_,rfl⟩)
   rw [YV] at hcs
   rw [zx]
   refine yp ecs ?_
   simp only [zSet,zu]
   have hlat:LatOk n (k+1) KK:=⟨by omega,n4,fun p hp=>⟨by have:=(hmem p hp).1;omega,(hmem p hp).2⟩⟩
   obtain ⟨out,u,eo,o1,o2,o3,o4,o5,o6⟩:=body_ok (cs:=cs) (KM:=KM) (dp:=dp) hm hlat (by omega) (by omega) (by omega) h0
   have hu0:0<=u:=by
    obtain ⟨ts,e1,b1,_⟩:=jz o2
    rw [<- o5,e1,YD ts b1]
    exact WY _ (lateC_nn KK hnn) ts
   rw [zx]
   refine asg_ (fA5 rfl rfl rfl rfl rfl eo) rfl ?_
   simp only [zSet,zu]
   have fin:∀ body:List D,BodG KM n k body->(csL (yg KK) body=u\/(n=1/\csL (yg KK) body=u+3))->Wo (zE (Zj 4 (Yl (fL (Za (za (zc 12) zi))) (fL (zc 4)))) (Zj 5 (Yl (fL (Za (za (ZO (za (zc 7) (za (zc 13) zi))) zi))) (fL (zc 5)))) [some (.scr ns),some (.int (at_:Nat)),some (.int (KM:Nat)),some (.int KN),some (.lst (L.map .lst)),some (jy KK),some (.int (n:Nat)),some (.int (k:Nat)),some (.int (sz:Nat)),some (.int (dp:Nat)),some (.int (bg:Nat)),some (lstI cs),some (.lst body),some (.int u)]) fun o=>∃ ρ2,o=.nx ρ2/\PI ns at_ KM KN n (i+1) ρ2:=by
    intro body hb hcb
    rw [zx]
    refine yp (catv (lv (Yf (d:=.lst body) rfl)) (lv (xs:=L.map .lst) rfl) (by rw [Qe];simp only [Qg,QB];omega)) ?_
    simp only [zSet,zu]
    refine yp (catv (lv (Yf (Wt (d:=.int (k:Nat)) (d':=.int u) rfl rfl))) (lv (xs:=KK.map YA) rfl) (by rw [Qe];simp only [Qg,QB];omega)) ?_
    simp only [zSet]
    refine ⟨_,rfl,by omega,body::L,(k,u)::KK,_,_,_,_,_,_,_,rfl,by simp [hL],by simp [hla],fun p hp=>?_,fun t ht=>?_,fun p hp=>?_,fun t ht=>?_⟩
    ·rcases Qa.mp hp with rfl | hp
     ·simp only;omega
     ·have:=hmem p hp;omega
    ·cases t with
     | zero=>rw [show n - (i+1)+0=k by omega];simpa using hb
     | succ t =>
      rw [show n - (i+1)+(t+1)=n - i+t by omega]
      simpa using hG t (by omega)
    ·rcases Qa.mp hp with rfl | hp
     ·exact hu0
     ·exact hnn p hp
    ·cases t with
     | zero=>exact ⟨by show k=_;omega,o6,hcb⟩
     | succ t =>
      obtain ⟨c1,c2,c3⟩:=hct t (by omega)
      exact ⟨c1.trans (by omega),c2,c3⟩
   have bodg:¬ (n=1)\/True->(dp<=hb n k)->BodG KM n k out:=fun _ hle=>⟨o1,fun r hr=>(o2 r hr).mono hle,by omega,by
    split
    ·rename_i h0;rw [KQ h0] at hsz;omega
    ·rename_i h0;rw [KR h0] at hsz;omega⟩
   have hle:dp<=hb n k:=by
    unfold hb
    rw [hdp]
    split
    ·split <;> omega
    ·omega
   rw [zx]
   refine ge (andc (zP (f2v rfl rfl jf)) fun _=>zP (f2v (f2v (f2v (fA2 rfl rfl e0) rfl (YZ (by decide) (by decide))) rfl (yc (by decide))) rfl jf)) (fun e=>?_) (fun _=>?_)
   ·simp only [QC,decide_eq_true_eq] at e
    have hn1:n=1:=by omega
    have hk0:k=0:=by omega
    refine yp (wrap_v (d:=.lst out) rfl) ?_
    simp only [zSet,zu]
    refine fin _ ?_ (.inr ⟨hn1,?_⟩)
    rotate_left
    ·simp only [csL,jE,Jw,Jv,wc]
     omega
    subst hn1
    subst hk0
    rw [KQ rfl] at hsz hdp
    subst hdp
    exact wrap_g o1 o2 (by omega) (by omega)
   ·rw [Zk,zG,zu]
    exact fin out (bodg (.inr trivial) hle) (.inl o5)
  have conv:∀ {m:Ev->Option Out} {ρ:Ev},Wo (m ρ) (fun o=>∃ ρ2,o=.nx ρ2/\PI ns at_ KM KN n (i+1) ρ2)->∃ ρ2,m ρ=some (.nx ρ2)/\PI ns at_ KM KN n (i+1) ρ2:=fun ⟨o,e,ρ2,ho,q⟩=>⟨ρ2,by rw [e,ho],q⟩
  have s0:=QP (v0 / 3) (show (9:Int)≠0 by decide)
  have s1:=QH (v0 / 3) (show (0:Int)<9 by decide)
  refine ge (zP (f2v rfl rfl jf)) (fun e=>?_) (fun e=>?_)
  ·simp only [decide_eq_true_eq] at e
   obtain ⟨sz,hsz⟩:∃ m:Nat,6+v0 / 3 % 9=m:=⟨(6+v0 / 3 % 9).toNat,by omega⟩
   rw [zx]
   refine yp (d:=.int (sz:Nat)) (f2v rfl (f2v (f2v (fA2 rfl rfl e0) rfl (YZ (by decide) (by decide))) rfl (yc (by decide))) (wY.trans (by rw [hsz]))) ?_
   simp only [zSet,zu]
   refine yp rfl ?_
   simp only [zSet,zu]
   obtain ⟨ρ2,e2,q⟩:=conv (Zg sz 3 (by rw [KQ (by omega)];omega) (by rw [KQ (by omega)]))
   exact ⟨_,e2,q⟩
  ·simp only [decide_eq_false_iff_not] at e
   rw [Zk,zG,zu]
   obtain ⟨ρ2,e2,q⟩:=conv (Zg 4 2 (by rw [KR (by omega)];omega) (by rw [KR (by omega)]))
   exact ⟨_,e2,q⟩
 ·rintro ρ ⟨-,L,KK,z7,z8,z9,z10,z11,z12,z13,rfl,hL,hla,hmem,hG,hnn,hct⟩
  rw [jS] at hL hG hla hct
  rw [zu]
  refine Y5 (Wt rfl rfl) ⟨L,KK,rfl,by omega,by omega,fun k hk=>?_,by omega,hnn,fun t ht=>?_⟩
  ·rw [hL]
   have:=hG k (by omega)
   rwa [show n - n+k=k by omega] at this
  ·rw [hL]
   exact hct t (by omega)
end EV
namespace ST
open PySem PySem.StrLaws Builtin Builtin.Str
abbrev cl (x:Kw):List Nat:=x.cps.toList
theorem cl_ext {x y:Kw} (h:cl x=cl y):x=y:=Str.ext' (Array.toList_inj.mp h)
theorem cl_app (x y:Kw):cl (x++y)=cl x++cl y:=by show (x++y).cps.toList=_;rw [Str.cps_append,Array.toList_append]
theorem yd (x:Kw):(cl x).length=x.length:=by show x.cps.toList.length=x.cps.size;simp
theorem at_head {x y:Kw} {c:Nat} {cs:List Nat} (hy:cl y=c::cs) {n k:Nat} (h:At x y n k):(cl x)[k]?=some c:=by
 have e:=h.2
 rw [subAt_eq] at e
 have e:=eq_of_beq e
 have e':((cl x).drop k).take y.length=c::cs:=e.trans hy
 have:(((cl x).drop k).take y.length)[0]?=some c:=by rw [e'];rfl
 rw [List.getElem?_take] at this
 split at this
 ·rw [P7] at this;exact this
 ·cases this
theorem at_of' {x y:Kw} {k:Nat} {r:List Nat} (h:(cl x).drop k=cl y++r):subAt x y k=true:=by
 rw [subAt_eq]
 show (((cl x).drop k).take y.length == cl y)=true
 rw [h,<- yd y,List.take_left' rfl]
 exact beq_self_eq_true _
theorem sub_of {x p:Kw} {a b:Nat} {r:List Nat} (h:(cl x).drop a=cl p++r) (hb:b=a+p.length):strSub x a b=p:=by
 refine cl_ext ?_
 show (strSub x a b).cps.toList=cl p
 rw [strSub_toList]
 show ((cl x).drop a).take (b - a)=cl p
 rw [h,hb,Nat.add_sub_cancel_left,<- yd p,List.take_left' rfl]
section
variable {x y:Kw} {c:Nat} {cs:List Nat} (hy:cl y=c::cs)
include hy
theorem not_at {a k:Nat} {p:Kw} {r:List Nat} (hp:c∉cl p) (h:(cl x).drop a=cl p++r) (h1:a<=k) (h2:k<a+p.length):¬ At x y x.length k:=fun hA=>by
 have e:=at_head hy hA
 have e2:((cl x).drop a)[k - a]?=some c:=by rw [P7];rw [<- e];congr 1;omega
 rw [h,QM (by rw [yd];omega)] at e2
 exact hp (List.mem_of_getElem? e2)
theorem parts_of:∀ (ps:List Kw) (p:Kw) (a f:Nat) (cuts:List Nat),(cl x).drop a=cl (Str.join y (p::ps))->a<=x.length->ChainG x y x.length a cuts f->(∀ k,f<=k->¬ At x y x.length k)->(∀ q∈p::ps,c∉cl q)->partsFrom x y.length a cuts=p::ps
 | [],p,a,f,cuts,hx,ha,hG,hn,hf=>by
  have hx':(cl x).drop a=cl p++[]:=by rw [QT];exact hx
  have hl:x.length=a+p.length:=by
   have:=congrArg List.length hx'
   rw [Pe,Qf,yd,yd,QB] at this
   omega
  cases cuts with
  | nil=>show [strSub x a x.length]=[p];rw [sub_of hx' hl]
  | cons d r =>
   exfalso
   have h2:=hG.2.1
   have:d+y.length<=x.length:=h2.1
   have hw:y.length=cs.length+1:=by rw [<- yd,hy];rfl
   exact not_at hy (hf p Qj) hx' hG.1 (by omega) h2
 | q::r,p,a,f,cuts,hx,ha,hG,hn,hf=>by
  have hj:cl (Str.join y (p::q::r))=cl p++(cl y++cl (Str.join y (q::r))):=by
   show cl (p++y++Str.join y (q::r))=_
   rw [cl_app,cl_app,QL]
  rw [hj] at hx
  have hd:(cl x).drop (a+p.length)=cl y++cl (Str.join y (q::r)):=by
   rw [<- List.drop_drop,hx,<- yd p,List.drop_left' rfl]
  have hl:=congrArg List.length hd
  rw [Pe,Qf,yd,yd] at hl
  have hw:y.length=cs.length+1:=by rw [<- yd,hy];rfl
  have hA:At x y x.length (a+p.length):=⟨by omega,(at_of' hd)⟩
  cases cuts with
  | nil=>exact absurd hA (hn _ (by have:f=a:=hG;omega))
  | cons d t =>
   have h0:d=a+p.length:=by
    rcases Nat.lt_trichotomy d (a+p.length) with h | h | h
    ·exact absurd hG.2.1 (not_at hy (hf p Qj) hx hG.1 h)
    ·exact h
    ·exact absurd hA (hG.2.2.1 _ (by omega) h)
   subst h0
   show strSub x a (a+p.length)::partsFrom x y.length (a+p.length+y.length) t=_
   rw [sub_of hx rfl,parts_of r q _ f t (by rw [<- List.drop_drop,hd,<- yd y,List.drop_left' rfl]) (by omega) hG.2.2.2 hn fun z hz=>hf z (Qc _ hz)]
theorem WE (hk:Builtin.Str.strKind y=1) (p:Kw) (ps:List Kw) (hx:x=Str.join y (p::ps)) (hf:∀ q∈p::ps,c∉cl q):Txt.split x y=p::ps:=by
 have hw:y.length=cs.length+1:=by rw [<- yd,hy];rfl
 obtain ⟨f,hG,hn⟩:=occ_tight x y (by omega)
 have key:=parts_of hy ps p 0 f _ (by rw [PZ,hx]) (Q5 _) hG hn hf
 unfold Txt.split
 split
 ·rename_i hc
  rw [Bool.or_eq_true,decide_eq_true_eq,decide_eq_true_eq] at hc
  rcases hc with h | h
  ·cases ps with
   | nil=>rw [hx];rfl
   | cons q r =>
    have:x.length=p.length+y.length+(Str.join y (q::r)).length:=by rw [hx];show (p++y++Str.join y (q::r)).length=_;rw [Str.length_append,Str.length_append]
    omega
  ·rw [hk] at h
   unfold Builtin.Str.strKind at h
   split at h
   ·omega
   ·split at h <;> omega
 ·split
  ·rename_i he
   rw [List.isEmpty_iff.mp he] at key
   have:[strSub x 0 x.length]=p::ps:=key
   rw [sub_whole] at this
   exact this
  ·rw [partsBetween_eq];exact key
end
end ST
namespace ST
open PySem PySem.StrLaws Builtin Builtin.Str PySem.NumText
def tn (n:Int):Kw:=Str.ofString (toString n)
abbrev dgs (m:Nat):List Nat:=(Nat.toDigits 10 m).map Char.toNat
theorem tn_nat (m:Nat):cl (tn (m:Int))=dgs m:=PySem.W.KIN.signs_num m
theorem tn_neg (m:Nat):cl (tn (Int.negSucc m))=45::dgs (m+1):=by
 show (Str.ofString (toString (Int.negSucc m))).cps.toList=_
 rw [PyProof.Rows.signs_ofString]
 show (("-"++Nat.repr (m+1):String)).toList.map Char.toNat=_
 rw [String.toList_append,Qz,Nat.toList_repr]
 rfl
theorem dg_all (m:Nat):AllDigits (dgs m):=fun c hc=>by
 obtain ⟨ch,hch,e⟩:=Qw.mp hc
 have r:=PyProof.Rows.digit_range (Nat.isDigit_of_mem_toDigits (by decide) (by decide) hch)
 rw [<- e];exact r
theorem dg_len {m:Nat} (h:m<=999999):1<=(dgs m).length/\(dgs m).length<=6:=by
 rw [Qe]
 exact ⟨PyProof.Rows.tDigits_len_ge 10 m,PyProof.Rows.digits10_le (by decide) (Q0 h (by decide))⟩
theorem dg_head:∀ m:Nat,0<m->∃ c r,dgs m=c::r/\c≠48:=by
 intro m
 induction m using Nat.strongRecOn with
 | _ m ih =>
  intro h0
  by_cases h:m<10
  ·unfold dgs
   rw [Nat.toDigits_of_lt_base h]
   refine ⟨(Nat.digitChar m).toNat,[],rfl,?_⟩
   have:∀ d:Nat,d<10->0<d->(Nat.digitChar d).toNat≠48:=by decide
   exact this m h h0
  ·have hm:m % 10<10:=Nat.mod_lt m (by decide)
   have t:Nat.toDigits 10 (m / 10)++Nat.toDigits 10 (m % 10)=Nat.toDigits 10 (10*(m / 10)+m % 10):=Nat.toDigits_append_toDigits (by decide) (by omega) hm
   rw [Nat.div_add_mod] at t
   obtain ⟨c,r,e,hc⟩:=ih (m / 10) (by omega) (by omega)
   unfold dgs at e ⊢
   rw [<- t,Qz,e]
   exact ⟨c,_,rfl,hc⟩
theorem Wu {n:Int} (h:n.natAbs<=999999):1<=(tn n).length/\(tn n).length<=7:=by
 rw [<- yd]
 cases n with
 | ofNat m =>
  have:=dg_len (m:=m) (by simpa using h)
  rw [show cl (tn (Int.ofNat m))=dgs m from tn_nat m]
  omega
 | negSucc m =>
  have:=dg_len (m:=m+1) (by simpa using h)
  rw [tn_neg,Qg]
  omega
theorem tn_free {k:Nat} (hk:k≠45/\(k<48\/57<k)) (n:Int):k∉cl (tn n):=PyProof.Rows.int_text_free' k hk n
theorem starts1 {x y:Kw} {c:Nat} (hy:cl y=[c]):Txt.startswith x y=decide ((cl x).head?=some c):=by
 have hl:y.length=1:=by rw [<- yd,hy];rfl
 unfold Txt.startswith
 rw [subAt_eq]
 show (decide (0+y.length<=x.length)&&(((cl x).drop 0).take y.length == cl y))=_
 rw [PZ,hl,hy,<- yd x]
 cases hx:cl x with
 | nil=>simp
 | cons a t =>
  by_cases e:a=c
  ·subst e;simp
  ·simp [e]
theorem slice1 {x:Kw} {c:Nat} {r:List Nat} (hx:cl x=c::r):cl (Txt.slice x (some 1) none)=r:=by
 have hl:x.length=r.length+1:=by rw [<- yd,hx];rfl
 have hi:strSliceIndices (some 1) none 1 x.length=(List.range r.length).map (·+1):=by
  have h1:max (0:Int) (min 1 ((r.length+1:Nat):Int))=1:=by omega
  have h2:(if (1:Int)<((r.length+1:Nat):Int) then (((r.length+1:Nat):Int) - 1+1 - 1) / 1 else 0)=((r.length:Nat):Int):=by
   split
   ·rw [Int.ediv_one];omega
   ·omega
  rw [hl]
  show sliceRange (max (0:Int) (min 1 ((r.length+1:Nat):Int))) ((r.length+1:Nat):Int) 1=_
  rw [h1]
  show (List.range (if (1:Int)<((r.length+1:Nat):Int) then (((r.length+1:Nat):Int) - 1+1 - 1) / 1 else 0).toNat).map (fun k:Nat=>((1:Int)+1*(k:Int)).toNat)=_
  rw [h2,Po]
  refine List.map_congr_left fun k _=>?_
  show ((1:Int)+1*(k:Int)).toNat=k+1
  omega
 unfold Txt.slice
 rw [hi,KR (by simp [hl])]
 show (List.filterMap _ _).toArray.toList=r
 rw [List.filterMap_map]
 have:∀ n,n<=r.length->(List.range n).filterMap ((fun i=>x.cps[i]?)∘(·+1))=r.take n:=by
  intro n
  induction n with
  | zero=>intro _;simp
  | succ n ih =>
   intro h
   rw [List.range_succ,List.filterMap_append,ih (by omega),List.take_succ]
   congr 1
   have:x.cps[n+1]?=(cl x)[n+1]?:=by simp
   simp only [PH,Function.comp,List.filterMap_nil]
   rw [this,hx,List.getElem?_cons_succ]
   cases r[n]? <;> rfl
 rw [this _ (Ql _),PM]
end ST
namespace EV
open PySem PySem.Spec L2 M ST
theorem retV {f:Ev->Option D} {ρ:Ev} {d:D} (e:f ρ=some d):zR f ρ=some (.rt d):=by rw [mRet_,e];rfl
theorem c_dash:cl ("-":Kw)=[45]:=by decide +kernel
theorem c_nought:cl ("0":Kw)=[48]:=by decide +kernel
theorem in_figs:∀ c:Nat,48<=c->c<=57->dInS (.str ⟨#[c]⟩) (.str "0123456789")=some (.bl true):=by
 intro c h1 h2
 have:c=48\/c=49\/c=50\/c=51\/c=52\/c=53\/c=54\/c=55\/c=56\/c=57:=by omega
 show some (D.bl (!(Builtin.Str.occurrences ("0123456789":Kw) ⟨#[c]⟩ 0 ("0123456789":Kw).length 1).isEmpty))=_
 rcases this with rfl | rfl | rfl | rfl | rfl | rfl | rfl | rfl | rfl | rfl <;> (congr 2;decide +kernel)
theorem boolsT (n:Nat):jc (List.replicate n (D.bl true))=some (.bl true):=by
 have e:List.replicate n (D.bl true)=(List.replicate n true).map D.bl:=by rw [List.map_replicate]
 unfold jc
 rw [e,gx]
 simp
theorem num_core {w fig:Kw} {n:Int} {b:Bool} (h1:Txt.startswith w "-"=b) (hf:(if b then Txt.slice w (some 1) none else w)=fig) (hd:PySem.NumText.AllDigits (cl fig)) (l1:1<=fig.length) (l2:fig.length<=60) (lw:w.length<=61) (h0:(cl fig).head?=some 48->w="0") (hi:intText? w=some n):mq18 [.str w]=some (.int n):=by
 have wl:w.length<=Kg:=WH (by omega)
 have e1:fIf (zw (f2 YO (zc 0) (fC (.str "-")))) (fCutS (zc 0) (yv (fC (.int 1))) fNo) (zc 0) [some (.str w),none]=some (.str fig):=by
  have t:zw (f2 YO (zc 0) (fC (.str "-"))) [some (.str w),none]=some b:=zP (f2v (x:=.str w) (y:=.str "-") rfl rfl (by show some (D.bl (Txt.startswith w "-"))=_;rw [h1]))
  unfold fIf
  rw [t,oB]
  cases b with
  | true =>
   rw [KQ rfl] at hf ⊢
   show (if w.length<=Kg then some (D.str (Txt.slice w (some 1) none)) else none)=_
   rw [KQ wl,hf]
  | false =>
   rw [KR Qh] at hf ⊢
   rw [<- hf];rfl
 have e2:y2 dLe dLe (fC (.int 1)) (fA gLenS (za (zc 1) zi)) (fC (.int 60)) [some (.str w),some (.str fig)]=some (.bl true):=by
  have el:fA gLenS (za (zc 1) zi) [some (.str w),some (.str fig)]=some (.int (fig.length:Nat)):=by
   show (if fig.length<=Kg then some (D.int (fig.length:Nat)) else none)=_
   rw [KQ (WH (by omega))]
  unfold y2
  show Option.bind (some (D.int 1)) _=_
  rw [oB,el,oB]
  have q1:dLe (.int 1) (.int (fig.length:Nat))=some (.bl true):=by show some (D.bl (decide ((1:Int)<=(fig.length:Nat))))=_;rw [KS (by omega)]
  have q2:dLe (.int (fig.length:Nat)) (.int 60)=some (.bl true):=by show some (D.bl (decide (((fig.length:Nat):Int)<=60)))=_;rw [KS (by omega)]
  rw [q1,oB]
  show Option.bind (some true) _=_
  rw [oB,KQ rfl]
  show Option.bind (some (D.int 60)) _=_
  rw [oB,q2]
 have e3:fA jc (zk true (Zs 1 (fSigns (zc 1)) (zI 2) Z2 (yw (f2 dInS (zc 2) (fC (.str "0123456789")))))) [some (.str w),some (.str fig)]=some (.bl true):=by
  have ec:=Zw (k:=1) (fl:=fSigns (zc 1)) (u:=zI 2) (c:=Z2) (e:=yw (f2 dInS (zc 2) (fC (.str "0123456789")))) (ρ:=[some (.str w),some (.str fig)]) ((cl fig).map fun c=>(D.str ⟨#[c]⟩,D.bl true)) (fun ρ=>∃ z:Option D,ρ=[some (.str w),some (.str fig),z])
   (by
    show (if fig.cps.all (·<128)=true then some (fig.cps.toList.map fun c=>D.str ⟨#[c]⟩) else none)=_
    rw [KQ (by
     rw [<- Array.all_toList,Q8]
     intro c hc
     have:=hd c hc
     exact KS (by omega)),Qt]
    rfl) (by rw [Qe,yd];omega) ⟨none,rfl⟩ (by
    rintro p ρ hp ⟨z,rfl⟩
    obtain ⟨c,hc,rfl⟩:=Qw.mp hp
    have:=hd c hc
    exact ⟨_,rfl,rfl,jJ (f2v rfl rfl (in_figs c this.1 this.2)) rfl,_,rfl⟩)
  rw [Qt] at ec
  rw [fA_,yf ec,oB]
  show jc ((cl fig).map fun _=>D.bl true)=_
  rw [List.map_const']
  exact boolsT _
 refine Wo.eq ?_
 unfold mq18 bq18
 rw [ZZ]
 refine ⟨rfl,?_⟩
 simp only [Zd,zMap,zLen,List.replicate,zApp,QD,Nat.reduceAdd,Nat.reduceSub]
 rw [zx]
 refine yp e1 ?_
 simp only [zSet,zu]
 rw [zx]
 refine Yt (JP (jG (zP e2)) (jG (zP e3))) ?_
 rw [Zk,zG,zu,zx]
 have t4:zw (f2 YO (zc 1) (fC (.str "0"))) [some (.str w),some (.str fig)]=some (decide ((cl fig).head?=some 48)):=zP (f2v (x:=.str fig) (y:=.str "0") rfl rfl (by show some (D.bl (Txt.startswith fig "0"))=_;rw [starts1 c_nought]))
 have e4:jB (zw (f2 YO (zc 1) (fC (.str "0")))) (zw (f2 je (zc 0) (fC (.str "0")))) [some (.str w),some (.str fig)]=some false:=by
  rw [fAnd_,t4,oB]
  by_cases hh:(cl fig).head?=some 48
  ·rw [KS hh,KQ rfl,h0 hh]
   exact zP (f2v rfl rfl ne_f)
  ·rw [KU hh,KR Qh]
 refine Yt e4 ?_
 rw [Zk,zG,zu]
 refine Y5 (d:=.int n) ?_ rfl
 show (if w.length<=640 then (intText? w).map D.int else none)=_
 rw [KQ (by omega),hi]
 rfl
theorem num_in (n:Int) (h:n.natAbs<=999999):mq18 [.str (tn n)]=some (.int n):=by
 have hl:=Wu h
 cases n with
 | ofNat m =>
  have hm:m<=999999:=by simpa using h
  have ec:cl (tn (Int.ofNat m))=dgs m:=tn_nat m
  have hd:=dg_all m
  refine num_core (fig:=tn (Int.ofNat m)) (b:=false) ?_ (KR Qh) (by rw [ec];exact hd) hl.1 (by omega) (by omega) (fun hh=>?_) ?_
  ·rw [starts1 c_dash,ec]
   refine KU fun hh=>?_
   have:45∈dgs m:=List.mem_of_mem_head? (by rw [hh];rfl)
   have:=hd 45 this
   omega
  ·by_cases h0:m=0
   ·subst h0;decide +kernel
   ·obtain ⟨c,r,e,hc⟩:=dg_head m (by omega)
    rw [ec,e] at hh
    exact absurd (by injection hh) hc
  ·exact PySem.W.KIN.num_reads (by simp) (by show (m:Int)<10 ^ 10;omega)
 | negSucc m =>
  have hm:m+1<=999999:=by simpa using h
  have ec:=tn_neg m
  have es:=slice1 ec
  have hd:=dg_all (m+1)
  have hg:=dg_len hm
  refine num_core (fig:=Txt.slice (tn (Int.negSucc m)) (some 1) none) (b:=true) ?_ (KQ rfl) (by rw [es];exact hd) (by rw [<- yd,es];exact hg.1) (by rw [<- yd,es];omega) (by omega) (fun hh=>?_) ?_
  ·rw [starts1 c_dash,ec];rfl
  ·obtain ⟨c,r,e,hc⟩:=dg_head (m+1) (by omega)
   rw [es,e] at hh
   exact absurd (by injection hh) hc
  ·have:=PySem.intText_neg ec hd (by intro z;rw [z] at hg;simp at hg) (by omega)
   rw [PySem.W.KIN.val_back] at this
   exact this
variable {mm:Nat}
abbrev Ln:=Kw×List Int
def lnW (l:Ln):List Kw:=l.1::l.2.map tn
def lnT (l:Ln):Kw:=Str.join " " (lnW l)
def Ym:List Kw->Kw
 | []=>Str.empty
 | x::xs=>x++Ym xs
def wd (ns:List Int):Kw:=Ym (ns.map fun n=>" "++tn n)
theorem W8 (y p:Kw):∀ ps:List Kw,Str.join y (p::ps)=p++Ym (ps.map (y++·))
 | []=>(Str.append_empty p).symm
 | q::r=>by
  show p++y++Str.join y (q::r)=_
  rw [W8 y q r,Qk,Ym,Str.append_assoc,Str.append_assoc]
theorem wg:∀ ps:List Kw,Str.join "" ps=Ym ps
 | []=>rfl
 | [p]=>(Str.append_empty p).symm
 | p::q::r=>by
  show p++""++Str.join "" (q::r)=_
  rw [wg (q::r),show ("":Kw)=Str.empty from rfl,Str.append_empty]
  rfl
theorem lnT_ (w:Kw) (ns:List Int):lnT (w,ns)=w++wd ns:=by
 unfold lnT lnW wd
 rw [W8,Qt]
 rfl
theorem gv:∀ a b:List Kw,Ym (a++b)=Ym a++Ym b
 | [],b=>(Str.empty_append _).symm
 | x::a,b=>by rw [QF,Ym,gv a b,Ym,Str.append_assoc]
theorem catS_len:∀ xs:List Kw,(Ym xs).length=(xs.map (·.length)).sum
 | []=>rfl
 | x::xs=>by rw [Ym,Str.length_append,catS_len xs];rfl
def Sm (l:Ln):Prop:=l.1.length<=6/\l.2.length<=8/\∀ n∈l.2,n.natAbs<=999999
theorem wd_len:∀ ns:List Int,(∀ n∈ns,n.natAbs<=999999)->(wd ns).length<=8*ns.length
 | [],_=>Ql 0
 | n::ns,h=>by
  have h1:=wd_len ns fun m hm=>h m (Qc _ hm)
  have h2:=Wu (h n Qj)
  have e:wd (n::ns)=" "++tn n++wd ns:=rfl
  rw [e,Str.length_append,Str.length_append,Qg]
  have:(" ":Kw).length=1:=by decide +kernel
  omega
theorem ln_len {l:Ln} (h:Sm l):(lnT l).length<=80:=by
 obtain ⟨w,ns⟩:=l
 rw [lnT_,Str.length_append]
 have h1:=h.1
 have h2:=wd_len ns h.2.2
 have h3:=h.2.1
 simp only at h1 h2 h3
 omega
theorem strsD_map:∀ xs:List Kw,WA (xs.map D.str)=some xs
 | []=>rfl
 | x::xs=>by
  rw [Qk]
  unfold WA
  rw [strsD_map xs]
  rfl
theorem join_v {f:Ev->Option D} {g:Ev->Option (List D)} {ρ:Ev} {a:Kw} {xs:List Kw} (h1:f ρ=some (.str a)) (h2:g ρ=some (xs.map D.str)) (hl:(xs.map (·.length)).sum+xs.length*a.length<=1000000):gi f g ρ=some (.str (Str.join a xs)):=by
 unfold gi
 rw [h1,oB,h2,oB]
 show ((WA (xs.map D.str)).bind fun xs=>if JoinOk a xs=true then some (D.str (Txt.join a xs)) else none)=_
 rw [strsD_map,oB]
 have ok:JoinOk a xs=true:=by
  unfold JoinOk
  rw [StrLaws.joinTotal]
  have:(xs.map (·.length)).sum+xs.length*a.length<=Kg:=WH hl
  unfold Builtin.Str.tooLong
  rw [KU (by omega)]
  rfl
 rw [KQ ok]
 show some (D.str (Builtin.Str.glued a xs))=_
 rw [StrLaws.glued_eq_join]
theorem stri (n:Int) (h:n.natAbs<=999999):jI [.int n]=some (.str (tn n)):=by
 show (if n.natAbs.log2<1920 then some (D.str (toString n)) else none)=_
 rw [KQ]
 ·rfl
 ·have:n.natAbs.log2<=n.natAbs:=Nat.log2_le_self _
  have h2:n.natAbs.log2<20:=by
   by_cases h0:n.natAbs=0
   ·rw [h0];decide
   ·exact (Nat.log2_lt h0).mpr (Q0 h (by decide))
  omega
theorem Wz:∀ (xs:List Kw) (k:Nat),(∀ x∈xs,x.length<=k)->(xs.map (·.length)).sum<=k*xs.length
 | [],k,_=>by simp
 | x::xs,k,h=>by
  have:=Wz xs k fun y hy=>h y (Qc _ hy)
  have:=h x Qj
  rw [Qk,P5,Qg,Nat.mul_add]
  omega
theorem words_ok (ns:List Int) (hl:ns.length<=8) (h:∀ n∈ns,n.natAbs<=999999):mq25 [.tup (ns.map .int)]=some (.str (wd ns)):=by
 refine wD rfl ?_
 unfold bq25
 have ec:=Zw (k:=1) (fl:=zk false (zc 0)) (u:=zI 1) (c:=Z2) (e:=f2 Zy (fC (.str " ")) (fA jI (za (zc 1) zi))) (ρ:=[some (.tup (ns.map .int))]) (ns.map fun n=>(.int n,.str (" "++tn n))) (fun ρ=>∃ z:Option D,ρ=[some (.tup (ns.map .int)),z])
  ((yh (ZL rfl)).trans (by rw [Qt];rfl)) (by rw [Qe];omega) ⟨none,rfl⟩ (by
   rintro p ρ hp ⟨z,rfl⟩
   obtain ⟨n,hn,rfl⟩:=Qw.mp hp
   have:=Wu (h n hn)
   have:(" ":Kw).length=1:=by decide +kernel
   exact ⟨_,rfl,rfl,f2v (x:=.str " ") (y:=.str (tn n)) rfl (fA1 rfl (stri n (h n hn))) (by
    show (if (" ":Kw).length+(tn n).length<=Kg then some (D.str (" "++tn n)) else none)=_
    rw [KQ (WH (by omega))]),_,rfl⟩)
 rw [Qt] at ec
 refine retV ?_
 have e2:=join_v (f:=fC (.str "")) (g:=zk true (Zs 1 (zk false (zc 0)) (zI 1) Z2 (f2 Zy (fC (.str " ")) (fA jI (za (zc 1) zi))))) (ρ:=[some (.tup (ns.map .int))]) (a:="") (xs:=ns.map fun n=>" "++tn n) rfl ((yf ec).trans (by rw [Qt];rfl)) (by
  have:=Wz (ns.map fun n=>(" ":Kw)++tn n) 8 (by
   intro x hx
   obtain ⟨n,hn,rfl⟩:=Qw.mp hx
   have:=Wu (h n hn)
   have:(" ":Kw).length=1:=by decide +kernel
   rw [Str.length_append];omega)
  have e0:("":Kw).length=0:=by decide +kernel
  rw [Qe] at this
  rw [e0,Qe]
  omega)
 rw [wg] at e2
 exact e2
theorem WN {w:Kw} {ns:List Int} (h:Sm (w,ns)) {d:D} (hd:d=.lst (ns.map .int)\/d=.tup (ns.map .int)):mq17 [.str w,d]=some (.str (lnT (w,ns))):=by
 have h1:=h.1
 have h2:=h.2.1
 have h3:=h.2.2
 simp only at h1 h2 h3
 refine wD rfl ?_
 unfold bq17
 have ec:=Zw (k:=1) (fl:=fAny (zc 1)) (u:=zI 2) (c:=Z2) (e:=fA jI (za (zc 2) zi)) (ρ:=[some (.str w),some d]) (ns.map fun n=>(.int n,.str (tn n))) (fun ρ=>∃ z:Option D,ρ=[some (.str w),some d,z])
  (by rw [Qt];rcases hd with rfl | rfl <;> rfl) (by rw [Qe];omega) ⟨none,rfl⟩ (by
   rintro p ρ hp ⟨z,rfl⟩
   obtain ⟨n,hn,rfl⟩:=Qw.mp hp
   exact ⟨_,rfl,rfl,fA1 rfl (stri n (h3 n hn)),_,rfl⟩)
 rw [Qt] at ec
 refine retV (join_v (a:=" ") (xs:=lnW (w,ns)) rfl ?_ ?_)
 ·refine yf ?_
  show Yl _ _ [some (.str w),some d]=_
  rw [fCat_,fL_,Yf (f:=zc 0) rfl]
  show Option.bind (some [D.str w]) _=_
  rw [oB,fL_,ec]
  show Option.bind (some _) _=_
  rw [oB]
  refine (wN (yz (by simp;omega))).trans ?_
  unfold lnW
  rw [Qk,Qt]
  rfl
 ·have:=Wz (ns.map tn) 7 (by
   intro x hx
   obtain ⟨n,hn,rfl⟩:=Qw.mp hx
   exact (Wu (h3 n hn)).2)
  have e0:(" ":Kw).length=1:=by decide +kernel
  rw [Qe] at this
  show ((w::ns.map tn).map (·.length)).sum+(w::ns.map tn).length*(" ":Kw).length<=_
  rw [Qk,P5,Qg,Qe,e0]
  omega
variable {mm:Nat}
def intD':D->Int
 | .int n=>n
 | _=>0
def wb:List D->List Int
 | [.int b]=>[b]
 | [.int b,.tup ds]=>b::ds.map intD'
 | _=>[]
abbrev wLn (x:Kw):Ln:=(x,[])
mutual
def rl:Rq->List Ln
 | .one x ps=>[(x,wb ps)]
 | .call k=>[("call",[(k:Int)])]
 | .loop rs=>wLn "loop"::(rls rs++[wLn "end"])
 | .either a b=>wLn "either"::(rls a++wLn "or"::(rls b++[wLn "end"]))
def rls:List Rq->List Ln
 | []=>[]
 | r::rs=>rl r++rls rs
end
theorem rls_flat:∀ rs:List Rq,rls rs=rs.flatMap rl
 | []=>by rw [rls];rfl
 | r::rs=>by rw [rls,rls_flat rs];rfl
theorem Y8 (ns:List Int):(ns.map D.int).map intD'=ns:=by rw [Qt];exact List.map_id'' (fun _=>rfl) ns
theorem sm0 {x:Kw} (h:x.length<=6):Sm (x,[]):=⟨h,by simp,by simp⟩
theorem sm_one (hm:mm<=6) {x:Kw} {ps:List D} (h:Dk mm x ps):Sm (x,wb ps):=by
 rcases h with ⟨rfl,rfl⟩ | ⟨rfl,rfl⟩ | ⟨b,rfl,rfl,hb⟩ | ⟨b,ns,rfl,rfl,hb,hl,hx⟩
 ·exact sm0 (by decide +kernel)
 ·exact sm0 (by decide +kernel)
 ·refine ⟨by show ("take":Kw).length<=6;decide +kernel,by simp [wb],fun n hn=>?_⟩
  simp only [wb,Qm] at hn
  subst hn;omega
 ·refine ⟨by show ("set":Kw).length<=6;decide +kernel,?_,fun n hn=>?_⟩
  ·simp only [wb,Y8,Qg];omega
  ·simp only [wb,Y8,Qa] at hn
   rcases hn with rfl | hn
   ·omega
   ·exact hx n hn
mutual
theorem sm_row (hm:mm<=6) {nb:Nat} (h4:nb<=5):∀ r:Rq,r.ok mm nb->∀ l∈rl r,Sm l
 | .one x ps,o,l,hl=>by
  rw [Rq.ok] at o
  rw [rl,Qm] at hl
  subst hl
  exact sm_one hm o.2.2.2.2
 | .call k,o,l,hl=>by
  rw [Rq.ok] at o
  rw [rl,Qm] at hl
  subst hl
  exact ⟨by show ("call":Kw).length<=6;decide +kernel,by simp,fun n hn=>by simp only [Qm] at hn;subst hn;omega⟩
 | .loop rs,o,l,hl=>by
  rw [Rq.ok] at o
  simp only [rl,Qa,Qq,Qi,or_false] at hl
  rcases hl with rfl | hl | rfl
  ·exact sm0 (by decide +kernel)
  ·exact jl hm h4 rs o.1 l hl
  ·exact sm0 (by decide +kernel)
 | .either a b,o,l,hl=>by
  rw [Rq.ok] at o
  simp only [rl,Qa,Qq,Qi,or_false] at hl
  rcases hl with rfl | hl | rfl | hl | rfl
  ·exact sm0 (by decide +kernel)
  ·exact jl hm h4 a o.1.1 l hl
  ·exact sm0 (by decide +kernel)
  ·exact jl hm h4 b o.2.1 l hl
  ·exact sm0 (by decide +kernel)
theorem jl (hm:mm<=6) {nb:Nat} (h4:nb<=5):∀ rs:List Rq,oks mm nb rs->∀ l∈rls rs,Sm l
 | [],_,l,hl=>by rw [rls] at hl;cases hl
 | r::rs,o,l,hl=>by
  rw [oks] at o
  rw [rls,Qq] at hl
  rcases hl with hl | hl
  ·exact sm_row hm h4 r o.1 l hl
  ·exact jl hm h4 rs o.2 l hl
end
mutual
theorem rl_len:∀ r:Rq,(rl r).length<=3*nd r.toD
 | .one x ps=>by rw [yj,yZ,rl];simp only [Qv];omega
 | .call k=>by rw [yl,yZ,rl];simp only [Qv];omega
 | .loop rs=>by
  have:=JI rs
  rw [ye,yZ,nds,nds,nds,jv,jw,rl]
  simp only [Qg,Qf,QB]
  omega
 | .either a b=>by
  have:=JI a
  have:=JI b
  rw [ZB,yZ,nds,nds,nds,nds,jv,jw,jw,rl]
  simp only [Qg,Qf,QB]
  omega
theorem JI:∀ rs:List Rq,(rls rs).length<=3*nds (qDs rs)
 | []=>by rw [rls];simp
 | r::rs=>by
  have:=rl_len r
  have:=JI rs
  rw [rls,qDs,nds,Qf]
  omega
end
abbrev tD (l:Ln):D:=.str (lnT l)
theorem ext_eq {f:Ev->Option D} {a z:Option D} {es ds:List D} (e:f [a,some (.lst ds),z]=some (.lst es)) (hl:ds.length+es.length<=1000000):mExt 1 f [a,some (.lst ds),z]=some (.nx [a,some (.lst (ds++es)),z]):=by
 unfold mExt
 rw [e]
 show (if ds.length+es.length<=Kg then _ else _)=_
 rw [KQ (WH hl)]
 rfl
theorem for_ext {R:List D->Option D} {a:Option D} (f:Rq->List D):∀ (rs:List Rq) (acc:List D) (z:Option D),(∀ r∈rs,R [r.toD]=some (.lst (f r)))->acc.length+(rs.flatMap f).length<=1000000->∃ z',YB (zI 2) (mExt 1 (fA R (za (zc 2) zi))) (rs.map Rq.toD) [a,some (.lst acc),z]=some (.nx [a,some (.lst (acc++rs.flatMap f)),z'])
 | [],acc,z,_,_=>⟨z,by rw [QJ,List.flatMap_nil,QT];rfl⟩
 | r::rs,acc,z,h,hl=>by
  rw [QZ,Qf] at hl
  obtain ⟨z',e⟩:=for_ext f rs (acc++f r) (some r.toD) (fun x hx=>h x (Qc _ hx)) (by rw [Qf];omega)
  refine ⟨z',?_⟩
  rw [Qk]
  show (mExt 1 (fA R (za (zc 2) zi)) [a,some (.lst acc),some r.toD]).bind _=_
  rw [ext_eq (fA1 rfl (h r Qj)) (by omega),oB]
  show YB (zI 2) _ (rs.map Rq.toD) [a,some (.lst (acc++f r)),some r.toD]=_
  rw [e,QZ,QL]
theorem gu {f g:Ev->Option D} {ρ:Ev} {a b:List D} (h1:f ρ=some (.lst a)) (h2:g ρ=some (.lst b)) (hl:a.length+b.length<=1000000):Yl (fL f) (fL g) ρ=some (.lst (a++b)):=by
 rw [fCat_,fL_,h1]
 show Option.bind (some a) _=_
 rw [oB,fL_,h2]
 show Option.bind (some b) _=_
 rw [oB]
 exact wN (yz (by rw [Qf];exact hl))
theorem txs_step {n:Nat} {rs:List Rq} (hl:(rls rs).length<=1000) (h:∀ r∈rs,(yS n).2 [r.toD]=some (.lst ((rl r).map tD))):(yS (n+1)).1 [.lst (qDs rs)]=some (.lst ((rls rs).map tD)):=by
 refine Wo.eq ?_
 rw [show (yS (n+1)).1=ZE 1 3 (bq15 (yS n).1 (yS n).2) by rw [yS]]
 unfold bq15
 rw [ZZ]
 refine ⟨rfl,?_⟩
 simp only [Zd,zMap,zLen,List.replicate,zApp,QD,Nat.reduceAdd,Nat.reduceSub]
 generalize (yS n).1=m1
 generalize (yS n).2=m2 at h ⊢
 rw [zx]
 refine new_ nilv (by simp) ?_
 simp only [zSet,zu]
 have ef:rs.flatMap (fun r=>(rl r).map tD)=(rls rs).map tD:=by rw [rls_flat,List.map_flatMap]
 obtain ⟨z',e⟩:=for_ext (R:=m2) (a:=some (.lst (qDs rs))) (fun r=>(rl r).map tD) rs [] none h (by rw [ef,Qe,QB];omega)
 rw [zx,W4,yf (ds:=rs.map Rq.toD) (by rw [<- jq];rfl),oB,e,zG,zu,ef]
 exact Y5 rfl rfl
theorem tx_step {n:Nat} (hm:mm<=6) {nb:Nat} (h4:nb<=5) {r:Rq} (ho:r.ok mm nb) (hl:(rl r).length<=1000) (h:∀ x∈ZM r,(yS n).1 [.lst (qDs x)]=some (.lst ((rls x).map tD))):(yS (n+1)).2 [r.toD]=some (.lst ((rl r).map tD)):=by
 refine Wo.eq ?_
 rw [show (yS (n+1)).2=ZE 1 1 (bq16 (yS n).1 (yS n).2) by rw [yS]]
 unfold bq16
 rw [ZZ]
 refine ⟨rfl,?_⟩
 simp only [Zd,zMap,zLen,List.replicate,zApp,QD,Nat.reduceAdd,Nat.reduceSub]
 generalize (yS n).1=m1 at h ⊢
 generalize (yS n).2=m2
 have skp:∀ {c:Ev->Option Bool} {m1 m2:Ev->Option Out} {ρ:Ev} {T:Out->Prop},c ρ=some false->Wo (m2 ρ) T->Wo (zE (mIf c m1 zV) m2 ρ) T:=fun e k=>by
  rw [zx]
  refine Yt e ?_
  rw [Zk,zG,zu]
  exact k
 have tak:∀ {c:Ev->Option Bool} {f:Ev->Option D} {m2:Ev->Option Out} {ρ:Ev} {d:D},c ρ=some true->f ρ=some d->Wo (zE (mIf c (zR f) zV) m2 ρ) (JA fun d'=>d'=d):=fun e k=>by
  rw [zx]
  refine if_t e ?_
  exact Y4 k rfl
 have lastv:∀ {w:Kw} {ns:List Int},Sm (w,ns)->w≠"either"->w≠"loop"->w≠"set"->Wo (zE (mIf (zw (f2 Ze (fIx (zk false (zc 0)) (fC (.int 0))) (fC (.str "either")))) (zR (Yl (fL (Yl (fL (Yl (fL (Yl (fL (Za (za (fC (.str "either")) zi))) (fL (fA m1 (za (fIx (zk false (zc 0)) (fC (.int 1))) zi))))) (fL (Za (za (fC (.str "or")) zi))))) (fL (fA m1 (za (fIx (zk false (zc 0)) (fC (.int 2))) zi))))) (fL (Za (za (fC (.str "end")) zi))))) zV) (zE (mIf (zw (f2 Ze (fIx (zk false (zc 0)) (fC (.int 0))) (fC (.str "loop")))) (zR (Yl (fL (Yl (fL (Za (za (fC (.str "loop")) zi))) (fL (fA m1 (za (fIx (zk false (zc 0)) (fC (.int 1))) zi))))) (fL (Za (za (fC (.str "end")) zi))))) zV) (zE (mIf (zw (f2 Ze (fIx (zk false (zc 0)) (fC (.int 0))) (fC (.str "set")))) (zR (Za (za (fA mq17 (za (fC (.str "set")) (za (gj (ZO (za (fIx (zk false (zc 0)) (fC (.int 1))) zi)) (fIx (zk false (zc 0)) (fC (.int 2)))) zi))) zi))) zV) (zR (Za (za (fA mq17 (za (fIx (zk false (zc 0)) (fC (.int 0))) (za (wM (zk false (zc 0)) (yv (fC (.int 1))) fNo) zi))) zi))))) [some (.tup (.str w::ns.map D.int))]) (JA fun d=>d=.lst [tD (w,ns)]):=fun {w ns} hs n1 n2 n3=>by
  refine skp (kno rfl n1) (skp (kno rfl n2) (skp (kno rfl n3) ?_))
  exact Y5 (Yf (fA2 (W7 rfl) (gs (k:=1) (ds:=.str w::ns.map D.int) (yh (ZL rfl)) rfl (by omega) (by simp)) (WN hs (.inr rfl)))) rfl
 cases r with
 | call k =>
  rw [yl,rl]
  rw [Rq.ok] at ho
  exact lastv (w:="call") (ns:=[(k:Int)]) ⟨by show ("call":Kw).length<=6;decide +kernel,by simp,fun n hn=>by simp only [Qm] at hn;subst hn;omega⟩ (by decide) (by decide) (by decide)
 | loop a =>
  rw [ye,rl]
  rw [rl] at hl
  simp only [Qg,Qf,QB] at hl
  refine skp (kno rfl (by decide)) (tak (kis rfl) ?_)
  have e1:fA m1 (za (fIx (zk false (zc 0)) (fC (.int 1))) zi) [some (.tup [.str "loop",.lst (qDs a)])]=some (.lst ((rls a).map tD)):=fA1 (Z7 (yh (ZL rfl)) rfl (zL (j:=1) rfl)) (h a (by simp [ZM]))
  refine (gu (gu (Yf rfl) e1 (by simp;omega)) (Yf rfl) (by simp;omega)).trans ?_
  simp only [Qk,Qz,QJ,QF,QK,QL]
  rfl
 | either a b =>
  rw [ZB,rl]
  rw [rl] at hl
  simp only [Qg,Qf,QB] at hl
  refine tak (kis rfl) ?_
  have e1:fA m1 (za (fIx (zk false (zc 0)) (fC (.int 1))) zi) [some (.tup [.str "either",.lst (qDs a),.lst (qDs b)])]=some (.lst ((rls a).map tD)):=fA1 (Z7 (yh (ZL rfl)) rfl (zL (j:=1) rfl)) (h a (by simp [ZM]))
  have e2:fA m1 (za (fIx (zk false (zc 0)) (fC (.int 2))) zi) [some (.tup [.str "either",.lst (qDs a),.lst (qDs b)])]=some (.lst ((rls b).map tD)):=fA1 (Z7 (yh (ZL rfl)) rfl (zL (j:=2) rfl)) (h b (by simp [ZM]))
  refine (gu (gu (gu (gu (Yf rfl) e1 (by simp;omega)) (Yf rfl) (by simp;omega)) e2 (by simp;omega)) (Yf rfl) (by simp;omega)).trans ?_
  simp only [Qk,Qz,QJ,QF,QK,QL]
  rfl
 | one x ps =>
  rw [Rq.ok] at ho
  have hs:=sm_one hm ho.2.2.2.2
  rw [yj,rl]
  rcases ho.2.2.2.2 with ⟨rfl,rfl⟩ | ⟨rfl,rfl⟩ | ⟨b,rfl,rfl,hb⟩ | ⟨b,ns,rfl,rfl,hb,hn,hx⟩
  ·exact lastv (ns:=[]) hs (by decide) (by decide) (by decide)
  ·exact lastv (ns:=[]) hs (by decide) (by decide) (by decide)
  ·exact lastv (ns:=[(b:Int)]) hs (by decide) (by decide) (by decide)
  ·have en:wb [.int (b:Nat),.tup (ns.map .int)]=(b:Int)::ns:=by rw [wb,Y8]
   rw [en] at hs ⊢
   refine skp (kno rfl (by decide)) (skp (kno rfl (by decide)) (tak (kis rfl) ?_))
   exact Yf (fA2 rfl (catT_ (xs:=[.int (b:Nat)]) (ys:=ns.map .int) (tup1_ (Z7 (yh (ZL rfl)) rfl (zL (j:=1) rfl))) (Z7 (yh (ZL rfl)) rfl (zL (j:=2) rfl)) (by simp;omega)) (WN hs (.inr rfl)))
theorem sub_len {r:Rq} {x:List Rq} (h:x∈ZM r):(rls x).length<=(rl r).length:=by
 cases r with
 | one _ _=>cases h
 | call _=>cases h
 | loop a=>simp only [ZM,Qm] at h;subst h;rw [rl];simp only [Qg,Qf];omega
 | either a b =>
  simp only [ZM,Qa,Qi,or_false] at h
  rw [rl]
  simp only [Qg,Qf]
  rcases h with rfl | rfl <;> omega
theorem JS:∀ {rs:List Rq} {r:Rq},r∈rs->(rl r).length<=(rls rs).length
 | x::rs,r,h=>by
  rw [rls,Qf]
  rcases Qa.mp h with rfl | h
  ·omega
  ·have:=JS h;omega
theorem sub_ok' {nb:Nat} {r:Rq} {x:List Rq} (ho:r.ok mm nb) (hx:x∈ZM r):oks mm nb x/\x.length<=100:=by
 cases r with
 | one _ _=>cases hx
 | call _=>cases hx
 | loop a=>simp only [ZM,Qm] at hx;subst hx;rw [Rq.ok] at ho;exact ho
 | either a b =>
  simp only [ZM,Qa,Qi,or_false] at hx
  rw [Rq.ok] at ho
  rcases hx with rfl | rfl
  ·exact ho.1
  ·exact ho.2
theorem texts_all (hm:mm<=6) {nb:Nat} (h4:nb<=5):∀ (h n:Nat),2*h+2<=n->∀ rs:List Rq,rks r0 rs<=h->oks mm nb rs->(rls rs).length<=1000->(yS n).1 [.lst (qDs rs)]=some (.lst ((rls rs).map tD)):=by
 intro h
 induction h with
 | zero =>
  intro n hn rs hk ho hl
  obtain ⟨n,rfl⟩:∃ m,n=m+2:=⟨n - 2,by omega⟩
  refine txs_step hl fun r hr=>tx_step hm h4 (yb ho hr) (by have:=JS hr;omega) fun x hx=>?_
  have h1:=yM (g:=r0) hr
  have h2:=y9 (g:=r0) hx
  omega
 | succ h ih =>
  intro n hn rs hk ho hl
  obtain ⟨n,rfl⟩:∃ m,n=m+2:=⟨n - 2,by omega⟩
  refine txs_step hl fun r hr=>tx_step hm h4 (yb ho hr) (by have:=JS hr;omega) fun x hx=>?_
  have h1:=yM (g:=r0) hr
  have h2:=y9 (g:=r0) hx
  have h3:=JS hr
  have h5:=sub_len hx
  exact ih n (by omega) x (by omega) (sub_ok' (yb ho hr) hx).1 (by omega)
variable {mm:Nat}
def shS (ls:List Ln):Kw:=Ym (ls.map fun l=>"; "++lnT l)
theorem Wc (a b:List Ln):shS (a++b)=shS a++shS b:=by unfold shS;rw [Qz,gv]
theorem Wb (l:Ln):shS [l]="; "++lnT l:=Str.append_empty _
theorem JF (l:Ln) (ls:List Ln):shS (l::ls)="; "++lnT l++shS ls:=rfl
theorem sep2:("; ":Kw).length=2:=by decide +kernel
theorem shS_len:∀ ls:List Ln,(∀ l∈ls,Sm l)->(shS ls).length<=82*ls.length
 | [],_=>Ql 0
 | l::ls,h=>by
  have h1:=shS_len ls fun m hm=>h m (Qc _ hm)
  have h2:=ln_len (h l Qj)
  have h3:=sep2
  rw [JF,Str.length_append,Str.length_append,Qg]
  omega
theorem Jy {f g:Ev->Option D} {ρ:Ev} {x y:Kw} (h1:f ρ=some (.str x)) (h2:g ρ=some (.str y)) (hl:(x++y).length<=1000000):f2 Zy f g ρ=some (.str (x++y)):=f2v h1 h2 (by
 rw [Str.length_append] at hl
 show (if x.length+y.length<=Kg then some (D.str (x++y)) else none)=_
 rw [KQ (WH hl)])
theorem ln_w (x:Kw):lnT (wLn x)=x:=rfl
theorem J5 {i:Nat} {f:Ev->Option D} {ρ:Ev} {d:D} (e:f ρ=some d):Zj i f ρ=some (.nx (ρ.set i (some d))):=by rw [mSet_,e];rfl
abbrev shB (R:List D->Option D):Ev->Option Out:=zE (Zj 1 (f2 Zy (f2 Zy (zc 1) (fC (.str "; "))) (fIx (zk false (zc 2)) (fC (.int 0)))))
 (mIf (zw (f2 Ze (fIx (zk false (zc 2)) (fC (.int 0))) (fC (.str "set"))))
 (Zj 1 (f2 Zy (f2 Zy (f2 Zy (zc 1) (fC (.str " "))) (fA jI (za (fIx (zk false (zc 2)) (fC (.int 1))) zi))) (fA mq25 (za (fIx (zk false (zc 2)) (fC (.int 2))) zi))))
 (mIf (zw (f2 Ze (fIx (zk false (zc 2)) (fC (.int 0))) (fC (.str "either"))))
 (Zj 1 (f2 Zy (f2 Zy (f2 Zy (f2 Zy (zc 1) (fA R (za (fIx (zk false (zc 2)) (fC (.int 1))) zi))) (fC (.str "; or"))) (fA R (za (fIx (zk false (zc 2)) (fC (.int 2))) zi))) (fC (.str "; end"))))
 (mIf (zw (f2 Ze (fIx (zk false (zc 2)) (fC (.int 0))) (fC (.str "loop"))))
 (Zj 1 (f2 Zy (f2 Zy (zc 1) (fA R (za (fIx (zk false (zc 2)) (fC (.int 1))) zi))) (fC (.str "; end"))))
 (Zj 1 (f2 Zy (zc 1) (fA mq25 (za (wM (zk false (zc 2)) (yv (fC (.int 1))) fNo) zi)))))))
section
variable {a:D} {s:Kw}
theorem sh_beg {x:Kw} {ps:List D} {m:Ev->Option Out} (hx:((s++"; ")++x).length<=1000000):zE (Zj 1 (f2 Zy (f2 Zy (zc 1) (fC (.str "; "))) (fIx (zk false (zc 2)) (fC (.int 0))))) m [some a,some (.str s),some (.tup (.str x::ps))]=m [some a,some (.str ((s++"; ")++x)),some (.tup (.str x::ps))]:=by
 unfold zE
 rw [J5 (Jy (x:=s++"; ") (y:=x) (Jy (x:=s) (y:="; ") rfl rfl (by rw [Str.length_append] at hx;omega)) (W7 rfl) hx),oB]
 rfl
theorem sh_no {x y:Kw} {ps:List D} {m1 m2:Ev->Option Out} (hn:x≠y):mIf (zw (f2 Ze (fIx (zk false (zc 2)) (fC (.int 0))) (fC (.str y)))) m1 m2 [some a,some (.str s),some (.tup (.str x::ps))]=m2 [some a,some (.str s),some (.tup (.str x::ps))]:=by rw [mIf_,kno rfl hn,oB,KR Qh]
theorem sh_yes {x:Kw} {ps:List D} {m1 m2:Ev->Option Out}:mIf (zw (f2 Ze (fIx (zk false (zc 2)) (fC (.int 0))) (fC (.str x)))) m1 m2 [some a,some (.str s),some (.tup (.str x::ps))]=m1 [some a,some (.str s),some (.tup (.str x::ps))]:=by rw [mIf_,kis rfl,oB,KQ rfl]
theorem Wa {R:List D->Option D} {r:Rq} {w:Kw} {ns:List Int} (hs:Sm (w,ns)) (n1:w≠"set") (n2:w≠"either") (n3:w≠"loop") (e1:rl r=[(w,ns)]) (e2:r.toD=.tup (.str w::ns.map D.int)) (hl:(s++shS (rl r)).length<=1000000):shB R [some a,some (.str s),some r.toD]=some (.nx [some a,some (.str (s++shS (rl r))),some r.toD]):=by
 rw [e1,Wb,lnT_] at hl ⊢
 rw [e2]
 have h0:=hl
 simp only [Str.length_append] at h0
 unfold shB
 rw [sh_beg (by simp only [Str.length_append];omega),sh_no n1,sh_no n2,sh_no n3]
 refine (J5 (Jy (x:=s++"; "++w) (y:=wd ns) rfl (fA1 (gs (k:=1) (ds:=.str w::ns.map D.int) (yh (ZL rfl)) rfl (by omega) (by simp)) (words_ok ns hs.2.1 hs.2.2)) (by simp only [Str.length_append];omega))).trans ?_
 simp only [zSet,Str.append_assoc]
end
theorem sh_row {R:List D->Option D} (hm:mm<=6) {nb:Nat} (h4:nb<=5) {r:Rq} (ho:r.ok mm nb) (h:∀ x∈ZM r,R [.lst (qDs x)]=some (.str (shS (rls x)))) {a:D} {s:Kw} (hl:(s++shS (rl r)).length<=1000000):shB R [some a,some (.str s),some r.toD]=some (.nx [some a,some (.str (s++shS (rl r))),some r.toD]):=by
 cases r with
 | call k =>
  rw [Rq.ok] at ho
  exact Wa (w:="call") (ns:=[(k:Int)]) ⟨by show ("call":Kw).length<=6;decide +kernel,by simp,fun n hn=>by simp only [Qm] at hn;subst hn;omega⟩ (by decide) (by decide) (by decide) (by rw [rl]) (by rw [yl];rfl) hl
 | loop b =>
  have e1:∀ {s':Kw},fA R (za (fIx (zk false (zc 2)) (fC (.int 1))) zi) [some a,some (.str s'),some (.tup [.str "loop",.lst (qDs b)])]=some (.str (shS (rls b))):=fA1 (Z7 (yh (ZL rfl)) rfl (zL (j:=1) rfl)) (h b (by simp [ZM]))
  have ee:shS (rl (.loop b))="; "++"loop"++(shS (rls b)++"; end"):=by
   rw [rl,JF,Wc,Wb]
   have:("; ":Kw)++"end"="; end":=by decide +kernel
   rw [ln_w,ln_w,this]
  rw [ee] at hl ⊢
  rw [ye]
  have h0:=hl
  simp only [Str.length_append] at h0
  unfold shB
  rw [sh_beg (by simp only [Str.length_append];omega),sh_no (by decide),sh_no (by decide),sh_yes]
  refine (J5 (Jy (y:="; end") (Jy (x:=s++"; "++"loop") (y:=shS (rls b)) rfl e1 (by simp only [Str.length_append];omega)) rfl (by simp only [Str.length_append];omega))).trans ?_
  simp only [zSet,Str.append_assoc]
 | either b c =>
  have e1:∀ {s':Kw},fA R (za (fIx (zk false (zc 2)) (fC (.int 1))) zi) [some a,some (.str s'),some (.tup [.str "either",.lst (qDs b),.lst (qDs c)])]=some (.str (shS (rls b))):=fA1 (Z7 (yh (ZL rfl)) rfl (zL (j:=1) rfl)) (h b (by simp [ZM]))
  have e2:∀ {s':Kw},fA R (za (fIx (zk false (zc 2)) (fC (.int 2))) zi) [some a,some (.str s'),some (.tup [.str "either",.lst (qDs b),.lst (qDs c)])]=some (.str (shS (rls c))):=fA1 (Z7 (yh (ZL rfl)) rfl (zL (j:=2) rfl)) (h c (by simp [ZM]))
  have ee:shS (rl (.either b c))="; "++"either"++(shS (rls b)++("; or"++(shS (rls c)++"; end"))):=by
   rw [rl,JF,Wc,JF,Wc,Wb]
   have t1:("; ":Kw)++"end"="; end":=by decide +kernel
   have t2:("; ":Kw)++"or"="; or":=by decide +kernel
   rw [ln_w,ln_w,ln_w,t1,t2]
  rw [ee] at hl ⊢
  rw [ZB]
  have h0:=hl
  simp only [Str.length_append] at h0
  unfold shB
  rw [sh_beg (by simp only [Str.length_append];omega),sh_no (by decide),sh_yes]
  refine (J5 (Jy (y:="; end") (Jy (y:=shS (rls c)) (Jy (y:="; or") (Jy (x:=s++"; "++"either") (y:=shS (rls b)) rfl e1 (by simp only [Str.length_append];omega)) rfl (by simp only [Str.length_append];omega)) e2 (by simp only [Str.length_append];omega)) rfl (by simp only [Str.length_append];omega))).trans ?_
  simp only [zSet,Str.append_assoc]
 | one x ps =>
  rw [Rq.ok] at ho
  have hs:=sm_one hm ho.2.2.2.2
  rcases ho.2.2.2.2 with ⟨rfl,rfl⟩ | ⟨rfl,rfl⟩ | ⟨b,rfl,rfl,hb⟩ | ⟨b,ns,rfl,rfl,hb,hn,hx⟩
  ·exact Wa (ns:=[]) hs (by decide) (by decide) (by decide) (by rw [rl];rfl) (by rw [yj];rfl) hl
  ·exact Wa (ns:=[]) hs (by decide) (by decide) (by decide) (by rw [rl];rfl) (by rw [yj];rfl) hl
  ·exact Wa (ns:=[(b:Int)]) hs (by decide) (by decide) (by decide) (by rw [rl];rfl) (by rw [yj];rfl) hl
  ·have en:wb [.int (b:Nat),.tup (ns.map .int)]=(b:Int)::ns:=by rw [wb,Y8]
   have ee:shS (rl (.one "set" [.int (b:Nat),.tup (ns.map .int)]))="; "++"set"++(" "++(tn b++wd ns)):=by
    rw [rl,en,Wb,lnT_]
    show "; "++("set"++(" "++tn b++wd ns))=_
    simp only [Str.append_assoc]
   rw [ee] at hl ⊢
   rw [yj]
   have h0:=hl
   simp only [Str.length_append] at h0
   unfold shB
   rw [sh_beg (by simp only [Str.length_append];omega),sh_yes]
   refine (J5 (Jy (y:=wd ns) (Jy (y:=tn b) (Jy (x:=s++"; "++"set") (y:=" ") rfl rfl (by simp only [Str.length_append];omega)) (fA1 (Z7 (yh (ZL rfl)) rfl (zL (j:=1) rfl)) (stri b (by omega))) (by simp only [Str.length_append];omega)) (fA1 (Z7 (yh (ZL rfl)) rfl (zL (j:=2) rfl)) (words_ok ns (by omega) hx)) (by simp only [Str.length_append];omega))).trans ?_
   simp only [zSet,Str.append_assoc]
variable {mm:Nat}
theorem for_sh {m:Ev->Option Out} {a:D} (f:Rq->Kw):∀ (rs:List Rq) (s:Kw) (z:Option D),(∀ r∈rs,∀ s:Kw,(s++f r).length<=1000000->m [some a,some (.str s),some r.toD]=some (.nx [some a,some (.str (s++f r)),some r.toD]))->(s++Ym (rs.map f)).length<=1000000->∃ z',YB (zI 2) m (rs.map Rq.toD) [some a,some (.str s),z]=some (.nx [some a,some (.str (s++Ym (rs.map f))),z'])
 | [],s,z,_,_=>⟨z,by rw [QJ,QJ,Ym,Str.append_empty];rfl⟩
 | r::rs,s,z,h,hl=>by
  rw [Qk,Ym,<- Str.append_assoc] at hl
  obtain ⟨z',e⟩:=for_sh f rs (s++f r) (some r.toD) (fun x hx=>h x (Qc _ hx)) hl
  refine ⟨z',?_⟩
  rw [Qk]
  show (m [some a,some (.str s),some r.toD]).bind _=_
  rw [h r Qj s (by rw [Str.length_append] at hl;omega),oB]
  show YB (zI 2) m (rs.map Rq.toD) [some a,some (.str (s++f r)),some r.toD]=_
  rw [e,Qk,Ym,Str.append_assoc]
theorem shS_rls:∀ rs:List Rq,Ym (rs.map fun r=>shS (rl r))=shS (rls rs)
 | []=>by rw [rls];rfl
 | r::rs=>by rw [Qk,Ym,shS_rls rs,rls,Wc]
theorem WI {n:Nat} (hm:mm<=6) {nb:Nat} (h4:nb<=5) {rs:List Rq} (ho:oks mm nb rs) (hl:(rls rs).length<=1000) (h:∀ r∈rs,∀ x∈ZM r,Rq26 n [.lst (qDs x)]=some (.str (shS (rls x)))):Rq26 (n+1) [.lst (qDs rs)]=some (.str (shS (rls rs))):=by
 refine Wo.eq ?_
 rw [Rq26]
 unfold bq26
 rw [ZZ]
 refine ⟨rfl,?_⟩
 simp only [Zd,zMap,zLen,List.replicate,zApp,QD,Nat.reduceAdd,Nat.reduceSub]
 generalize Rq26 n=R at h ⊢
 rw [zx]
 refine yp (d:=.str "") rfl ?_
 simp only [zSet,zu]
 have hb:=shS_len (rls rs) (jl hm h4 rs ho)
 obtain ⟨z',e⟩:=for_sh (m:=shB R) (a:=.lst (qDs rs)) (fun r=>shS (rl r)) rs "" none (fun r hr s hs=>sh_row hm h4 (yb ho hr) (h r hr) hs) (by
  rw [shS_rls,Str.length_append]
  have:("":Kw).length=0:=by decide +kernel
  omega)
 rw [shS_rls] at e
 rw [zx,W4,yf (ds:=rs.map Rq.toD) (by rw [<- jq];rfl),oB]
 refine ⟨_,e,?_⟩
 rw [zu]
 exact Y5 rfl (by rw [show ("":Kw)=Str.empty from rfl,Str.empty_append])
theorem shown_all (hm:mm<=6) {nb:Nat} (h4:nb<=5):∀ (h n:Nat),h+1<=n->∀ rs:List Rq,rks r0 rs<=h->oks mm nb rs->(rls rs).length<=1000->Rq26 n [.lst (qDs rs)]=some (.str (shS (rls rs))):=by
 intro h
 induction h with
 | zero =>
  intro n hn rs hk ho hl
  obtain ⟨n,rfl⟩:∃ m,n=m+1:=⟨n - 1,by omega⟩
  refine WI hm h4 ho hl fun r hr x hx=>?_
  have h1:=yM (g:=r0) hr
  have h2:=y9 (g:=r0) hx
  omega
 | succ h ih =>
  intro n hn rs hk ho hl
  obtain ⟨n,rfl⟩:∃ m,n=m+1:=⟨n - 1,by omega⟩
  refine WI hm h4 ho hl fun r hr x hx=>?_
  have h1:=yM (g:=r0) hr
  have h2:=y9 (g:=r0) hx
  have h3:=JS hr
  have h5:=sub_len hx
  exact ih n (by omega) x (by omega) (sub_ok' (yb ho hr) hx).1 (by omega)
structure Pb (mm nb:Nat) (bs:List (List Rq)):Prop where
 ok:∀ b∈bs,oks mm nb b
 few:nb<=5
 num:bs.length<=5
 low:∀ b∈bs,rks r0 b<=6
 len:∀ b∈bs,(rls b).length<=150
def bsD (bs:List (List Rq)):List D:=bs.map fun b=>.lst (qDs b)
def prL (KM:Nat) (bs:List (List Rq)):List Ln:=("boxes",[(KM:Int)])::bs.flatMap fun b=>wLn "body"::rls b
def prT (KM:Nat) (bs:List (List Rq)):Kw:=Str.join "; " ((prL KM bs).map lnT)
abbrev prD (KM:Nat) (bs:List (List Rq)):D:=.tup [.int (KM:Nat),.lst (bsD bs)]
theorem catS_flat:∀ (bs:List (List Rq)),Ym ((bs.flatMap fun b=>wLn "body"::rls b).map fun l=>"; "++lnT l)=Ym (bs.map fun b=>"; body"++shS (rls b))
 | []=>rfl
 | b::bs=>by
  have t:("; ":Kw)++"body"="; body":=by decide +kernel
  rw [QZ,Qz,gv,catS_flat bs,Qk,Qk,Ym,Ym,ln_w,t]
  rfl
theorem prT_ (KM:Nat) (bs:List (List Rq)):prT KM bs="boxes "++tn KM++Ym (bs.map fun b=>"; body"++shS (rls b)):=by
 unfold prT prL
 rw [Qk,W8,Qt]
 have t:("boxes":Kw)++" "="boxes ":=by decide +kernel
 have e:lnT ("boxes",[(KM:Int)])="boxes "++tn KM:=by
  rw [lnT_,<- t]
  show "boxes"++(" "++tn KM++Str.empty)=_
  rw [Str.append_empty,Str.append_assoc]
 rw [e,<- catS_flat]
 rfl
section
variable {KM nb:Nat} {bs:List (List Rq)} (hm:mm<=6) (hp:Pb mm nb bs) (hn:KM<=6)
include hp hn hm
theorem sm_pr:∀ l∈prL KM bs,Sm l:=fun l hl=>by
 unfold prL at hl
 rcases Qa.mp hl with rfl | hl
 ·exact ⟨by show ("boxes":Kw).length<=6;decide +kernel,by simp,fun n hn=>by simp only [Qm] at hn;subst hn;omega⟩
 ·obtain ⟨b,hb,hl⟩:=Pu.mp hl
  rcases Qa.mp hl with rfl | hl
  ·exact sm0 (by decide +kernel)
  ·exact jl hm hp.few b (hp.ok b hb) l hl
omit hm hn in
theorem flat_len:∀ bs:List (List Rq),(∀ b∈bs,(rls b).length<=150)->(bs.flatMap fun b=>wLn "body"::rls b).length<=151*bs.length
 | [],_=>Ql 0
 | b::bs,h=>by
  have h1:=flat_len bs fun x hx=>h x (Qc _ hx)
  have h2:=h b Qj
  rw [QZ,Qf,Qg,Qg]
  omega
omit hm hn in
theorem prL_len:(prL KM bs).length<=800:=by
 have h1:=flat_len hp bs hp.len
 have h2:=hp.num
 unfold prL
 rw [Qg]
 omega
theorem prT_len:(prT KM bs).length<=100000:=by
 have h1:=prL_len (KM:=KM) hp
 have h2:=StrLaws.join_length_le "; " ((prL KM bs).map lnT)
 have h3:=Wz ((prL KM bs).map lnT) 80 (by
  intro x hx
  obtain ⟨l,hl,rfl⟩:=Qw.mp hx
  exact ln_len (sm_pr hm hp hn l hl))
 rw [Qe] at h2 h3
 rw [sep2] at h2
 unfold prT
 omega
theorem due_ok:mq27 [prD KM bs]=some (.str (prT KM bs)):=by
 have hT:=prT_len hm hp hn
 rw [prT_] at hT ⊢
 refine wD rfl ?_
 unfold bq27
 have hsh:∀ b∈bs,("; body"++shS (rls b):Kw).length<=20000:=fun b hb=>by
  have h1:=shS_len (rls b) (jl hm hp.few b (hp.ok b hb))
  have h2:=hp.len b hb
  have h3:("; body":Kw).length=6:=by decide +kernel
  rw [Str.length_append]
  omega
 have ec:=Zw (k:=1) (fl:=zk true (fIx (zk false (zc 0)) (fC (.int 1)))) (u:=zI 1) (c:=Z2) (e:=f2 Zy (fC (.str "; body")) (fA mq26 (za (zc 1) zi))) (ρ:=[some (prD KM bs)]) (bs.map fun b=>(.lst (qDs b),.str ("; body"++shS (rls b)))) (fun ρ=>∃ z:Option D,ρ=[some (prD KM bs),z])
  ((yf (Z7 (yh (ZL rfl)) rfl (zL (j:=1) rfl))).trans (by rw [Qt];rfl)) (by rw [Qe];have:=hp.num;omega) ⟨none,rfl⟩ (by
   rintro p ρ hp' ⟨z,rfl⟩
   obtain ⟨b,hb,rfl⟩:=Qw.mp hp'
   have:=hsh b hb
   exact ⟨_,rfl,rfl,Jy rfl (fA1 rfl (shown_all hm hp.few 12 60 (by omega) b (by have:=hp.low b hb;omega) (hp.ok b hb) (by have:=hp.len b hb;omega))) (by omega),_,rfl⟩)
 rw [Qt] at ec
 refine retV (Jy (x:="boxes "++tn KM) (Jy rfl (fA1 (Z7 (yh (ZL rfl)) rfl (zL (j:=0) rfl)) (stri KM (by omega))) (by rw [Str.length_append] at hT;omega)) ?_ (by omega))
 have e2:=join_v (f:=fC (.str "")) (ρ:=[some (prD KM bs)]) (a:="") (xs:=bs.map fun b=>"; body"++shS (rls b)) rfl ((yf ec).trans (by rw [Qt];rfl)) (by
  rw [<- catS_len,show ("":Kw).length=0 by decide +kernel]
  rw [Str.length_append] at hT
  omega)
 rw [wg] at e2
 exact e2
omit hm hn hp in
theorem for_show {a:D} (hm:mm<=6) (h4:nb<=5):∀ (bs:List (List Rq)) (acc:List D) (z:Option D),(∀ b∈bs,oks mm nb b/\rks r0 b<=6/\(rls b).length<=150)->acc.length+151*bs.length<=100000->∃ z',YB (zI 2) (zE (mUpd 1 yA (fC (.str "body"))) (mExt 1 (fA mq15 (za (zc 2) zi)))) (bsD bs) [some a,some (.lst acc),z]=some (.nx [some a,some (.lst (acc++(bs.flatMap fun b=>wLn "body"::rls b).map tD)),z'])
 | [],acc,z,_,_=>⟨z,by simp [bsD];rfl⟩
 | b::bs,acc,z,h,hl=>by
  obtain ⟨o,k,l⟩:=h b Qj
  rw [Qg] at hl
  obtain ⟨z',e⟩:=for_show hm h4 bs (acc++[.str "body"]++(rls b).map tD) (some (.lst (qDs b))) (fun x hx=>h x (Qc _ hx)) (by simp only [Qf,Qe,Qv];omega)
  refine ⟨z',?_⟩
  have e1:mUpd 1 yA (fC (.str "body")) [some a,some (.lst acc),some (.lst (qDs b))]=some (.nx [some a,some (.lst (acc++[.str "body"])),some (.lst (qDs b))]):=by
   rw [mUpd_]
   show ((yA acc (.str "body")).map _)=_
   unfold yA
   rw [KQ (size8 (by omega))]
   rfl
  have e2:=ext_eq (f:=fA mq15 (za (zc 2) zi)) (a:=some a) (z:=some (.lst (qDs b))) (ds:=acc++[.str "body"]) (fA1 rfl (texts_all hm h4 12 60 (by omega) b (by omega) o (by omega))) (by simp only [Qf,Qe,Qv];omega)
  show (zE _ _ [some a,some (.lst acc),some (.lst (qDs b))]).bind _=_
  unfold zE
  rw [e1,oB]
  show (mExt 1 (fA mq15 (za (zc 2) zi)) [some a,some (.lst (acc++[.str "body"])),some (.lst (qDs b))]).bind _=_
  rw [e2,oB]
  show YB (zI 2) (zE (mUpd 1 yA (fC (.str "body"))) (mExt 1 (fA mq15 (za (zc 2) zi)))) (bsD bs) _=_
  rw [e,QZ,Qz,Qk]
  simp only [QL,QF,QK]
  rfl
theorem show_ok:mq12 [prD KM bs]=some (.str (prT KM bs)):=by
 refine Wo.eq ?_
 unfold mq12 bq12
 rw [ZZ]
 refine ⟨rfl,?_⟩
 simp only [Zd,zMap,zLen,List.replicate,zApp,QD,Nat.reduceAdd,Nat.reduceSub]
 rw [zx]
 refine new_ (d:=.lst [tD ("boxes",[(KM:Int)])]) (Yf (fA2 rfl (Yf (Z7 (yh (ZL rfl)) rfl (zL (j:=0) rfl))) (WN (sm_pr hm hp hn _ Qj) (.inl rfl)))) (by simp) ?_
 simp only [zSet,zu]
 obtain ⟨z',e⟩:=for_show (a:=prD KM bs) hm hp.few bs [tD ("boxes",[(KM:Int)])] none (fun b hb=>⟨hp.ok b hb,hp.low b hb,hp.len b hb⟩) (by have:=hp.num;simp only [Qv];omega)
 rw [zx,W4,yf (ds:=bsD bs) (Z7 (yh (ZL rfl)) rfl (zL (j:=1) rfl)),oB]
 refine ⟨_,e,?_⟩
 rw [zu]
 refine Y5 (d:=.str (prT KM bs)) ?_ rfl
 have hL:=prL_len (KM:=KM) hp
 have h3:=Wz ((prL KM bs).map lnT) 80 (by
  intro x hx
  obtain ⟨l,hl,rfl⟩:=Qw.mp hx
  exact ln_len (sm_pr hm hp hn l hl))
 rw [Qe] at h3
 exact join_v (a:="; ") (xs:=(prL KM bs).map lnT) rfl (yf (ZL (by
  show some (some (D.lst _))=_
  rw [Qt]
  rfl))) (by rw [Qe,sep2];omega)
end
open RW (Py)
variable {mm:Nat}
def wsD (l:Ln):D:=.lst ((lnW l).map .str)
theorem py_str {x:Kw} (h:PyData.strOk x=true) (n:Nat):Py n (.str x):=⟨by rw [zZ,PyData.canLay0];exact h,by rw [zZ,PyData.depth];omega⟩
theorem tn_ok (n:Int):PyData.strOk (tn n)=true:=by
 unfold PyData.strOk
 rw [<- Array.all_toList,Q8]
 intro c hc
 refine KS ?_
 by_cases h:c≠45/\(c<48\/57<c)
 ·exact absurd hc (tn_free h n)
 ·omega
theorem py_ok {n:Nat} {d:D} (h:Py n d) (hn:n<=64):YX d=true:=by
 unfold YX SeqAt.shaped
 rw [h.1,KS (QA h.2 hn)];rfl
theorem py_ws {ws:List Kw} (h:∀ w∈ws,PyData.strOk w=true):YX (.lst (ws.map .str))=true:=py_ok (n:=1) (Py.lst fun d hd=>by
 obtain ⟨w,hw,rfl⟩:=Qw.mp hd
 exact py_str (h w hw) 0) (by omega)
theorem eq_ws (ws:List Kw) (x:Kw):eqD (.lst (ws.map .str)) (.lst [.str x])=decide (ws=[x]):=by
 unfold eqD
 match ws with
 | []=>simp [zZ,Zx,PyData.eqv,PyData.eqvAll]
 | [w] =>
  simp only [Qk,QJ,zZ,Zx,PyData.eqv,PyData.eqvAll,Bool.and_true]
  by_cases e:w=x
  ·subst e;simp
  ·simp [e]
 | w::v::ws =>
  simp [zZ,Zx,PyData.eqv,PyData.eqvAll]
theorem is_w {ws:List Kw} {x:Kw} (h:∀ w∈ws,PyData.strOk w=true) (hx:PyData.strOk x=true):zw (f2 YY (zc 1) (Za (za (fC (.str x)) zi))) [none,some (.lst (ws.map .str))]=some (decide (ws=[x])):=by
 refine zP (f2v (x:=.lst (ws.map .str)) (y:=.lst [.str x]) rfl (Yf rfl) ?_)
 unfold YY
 rw [KQ ⟨py_ws h,py_ws (ws:=[x]) fun w hw=>by rw [Qm.mp hw];exact hx⟩,eq_ws]
def rowL:Ln->D
 | (w,n::ns)=>if w="set" then .tup [.str "set",.int n,.tup (ns.map .int)] else .tup (.str w::.int n::ns.map .int)
 | (w,[])=>.tup [.str w]
theorem row_of_ok {w:Kw} {ns:List Int} (h:Sm (w,ns)):mq19 [wsD (w,ns)]=some (rowL (w,ns)):=by
 have h2:=h.2.1
 have h3:=h.2.2
 simp only at h2 h3
 have ec:=Zw (k:=1) (fl:=zk true (wn .lst (zk true (zc 0)) (yv (fC (.int 1))) fNo)) (u:=zI 2) (c:=Z2) (e:=fA mq18 (za (zc 2) zi)) (ρ:=[some (wsD (w,ns)),none]) (ns.map fun n=>(.str (tn n),.int n)) (fun ρ=>∃ z z':Option D,ρ=[some (wsD (w,ns)),z',z])
  ((yf (gm (k:=1) (ds:=(lnW (w,ns)).map .str) (yf (ZL rfl)) rfl)).trans (by
   unfold lnW
   rw [Qk,List.drop_succ_cons,PZ,Qt,Qt]
   rfl)) (by rw [Qe];omega) ⟨none,none,rfl⟩ (by
   rintro p ρ hp ⟨z,z',rfl⟩
   obtain ⟨n,hn,rfl⟩:=Qw.mp hp
   exact ⟨_,rfl,rfl,fA1 rfl (num_in n (h3 n hn)),_,_,rfl⟩)
 rw [Qt] at ec
 have ec':Zs 1 (zk true (wn .lst (zk true (zc 0)) (yv (fC (.int 1))) fNo)) (zI 2) Z2 (fA mq18 (za (zc 2) zi)) [some (wsD (w,ns)),none]=some (.lst (ns.map .int)):=ec
 have k0:∀ {z:Option D},fIx (zk true (zc 0)) (fC (.int 0)) [some (wsD (w,ns)),z]=some (.str w):=Z7 (yf (ds:=(lnW (w,ns)).map .str) (ZL rfl)) rfl (zL (j:=0) rfl)
 refine Wo.eq ?_
 unfold mq19 bq19
 rw [ZZ]
 refine ⟨rfl,?_⟩
 simp only [Zd,zMap,zLen,List.replicate,zApp,QD,Nat.reduceAdd,Nat.reduceSub]
 rw [zx]
 refine yp ec' ?_
 simp only [zSet,zu]
 rw [zx]
 have len:fA yP (zk true (zc 1)) [some (wsD (w,ns)),some (.lst (ns.map .int))]=some (.int (ns.length:Nat)):=by
  show some (D.int ((ns.map D.int).length:Nat))=_
  rw [Qe]
 have last:Wo (zR (gj (ZO (za (fIx (zk true (zc 0)) (fC (.int 0))) zi)) (fA jA (zk true (zc 1)))) [some (wsD (w,ns)),some (.lst (ns.map .int))]) (JA fun d=>d=.tup (.str w::ns.map .int)):=Y5 (catT_ (xs:=[.str w]) (ys:=ns.map .int) (tup1_ k0) (tupL rfl) (by simp;omega)) rfl
 cases ns with
 | nil =>
  refine Yt ?_ ?_
  ·rw [fAnd_,zP (f2v k0 rfl (show Ze (.str w) (.str "set")=some (.bl (decide (w="set"))) from rfl)),oB]
   split
   ·exact zP (f2v (x:=.int 0) rfl rfl (by rw [gt_];rfl))
   ·rfl
  ·rw [Zk,zG,zu]
   exact last
 | cons n ns =>
  by_cases e:w="set"
  ·subst e
   refine if_t ?_ ?_
   ·rw [fAnd_,zP (f2v k0 rfl eq_t),oB,KQ rfl]
    exact zP (f2v len rfl (by rw [gt_,KS (by simp)]))
   ·refine Y4 ?_ (show _=rowL ("set",n::ns) from rfl)
    show _=some (D.tup [.str "set",.int n,.tup (ns.map .int)])
    exact tup3v rfl (Z7 (yf (ZL rfl)) rfl (zL (j:=0) rfl)) (tupL (gm (k:=1) (ds:=(n::ns).map .int) (yf (ZL rfl)) rfl))
  ·refine Yt ?_ ?_
   ·rw [fAnd_,zP (f2v k0 rfl (eq_f e)),oB,KR Qh]
   ·rw [Zk,zG,zu]
    show Wo _ (JA fun d=>d=if w="set" then _ else _)
    rw [KR e]
    exact last
variable {mm:Nat}
theorem ws_ok {l:Ln} (h:PyData.strOk l.1=true):∀ w∈lnW l,PyData.strOk w=true:=fun w hw=>by
 rcases Qa.mp hw with rfl | hw
 ·exact h
 ·obtain ⟨n,_,rfl⟩:=Qw.mp hw
  exact tn_ok n
section
variable {S:Rst} {w:Kw}
theorem Y7:PyData.strOk ("body":Kw)=true/\PyData.strOk ("either":Kw)=true/\PyData.strOk ("loop":Kw)=true/\PyData.strOk ("or":Kw)=true/\PyData.strOk ("end":Kw)=true:=by decide +kernel
theorem rr_ {l:Ln} (h:PyData.strOk l.1=true):ZG S [wsD l]=if lnW l=[("body":Kw)] then Z0 S [] else if lnW l=[("either":Kw)]\/lnW l=[("loop":Kw)] then (fIx (zk true (zc 1)) (fC (.int 0)) [none,some (wsD l)]).bind fun d=>ZT S [d] else if lnW l=[("or":Kw)] then YW S [] else if lnW l=[("end":Kw)] then J8 S [] else (mq19 [wsD l]).bind fun d=>Z3 S [d]:=by
 obtain ⟨o1,o2,o3,o4,o5⟩:=Y7
 have hw:=ws_ok h
 have t:∀ {x:Kw},PyData.strOk x=true->zw (f2 YY (zc 1) (Za (za (fC (.str x)) zi))) [none,some (wsD l)]=some (decide (lnW l=[x])):=fun hx=>is_w hw hx
 unfold ZG rRow
 dsimp only
 rw [t o1,oB]
 by_cases c1:lnW l=[("body":Kw)]
 ·rw [KS c1,KQ rfl,KQ c1]
 rw [KU c1,KR Qh,KR c1,fOr_,t o2,oB]
 by_cases c2:lnW l=[("either":Kw)]
 ·rw [KS c2,KQ rfl,KQ (.inl c2)];rfl
 rw [KU c2,KR Qh,t o3,oB]
 by_cases c3:lnW l=[("loop":Kw)]
 ·rw [KS c3,KQ rfl,KQ (.inr c3)]
 rw [KU c3,KR Qh,KR (by rintro (z | z);exact c2 z;exact c3 z),t o4,oB]
 by_cases c4:lnW l=[("or":Kw)]
 ·rw [KS c4,KQ rfl,KQ c4]
 rw [KU c4,KR Qh,KR c4,t o5,oB]
 by_cases c5:lnW l=[("end":Kw)]
 ·rw [KS c5,KQ rfl,KQ c5]
 rw [KU c5,KR Qh,KR c5]
 congr 1
theorem lw (x:Kw):lnW (wLn x)=[x]:=rfl
theorem rr_body:ZG S [wsD (wLn "body")]=Z0 S []:=by rw [rr_ Y7.1,KQ (lw _)]
theorem rr_either:ZG S [wsD (wLn "either")]=ZT S [.str "either"]:=by
 rw [rr_ Y7.2.1,KR (by decide),KQ (.inl rfl)];rfl
theorem rr_loop:ZG S [wsD (wLn "loop")]=ZT S [.str "loop"]:=by
 rw [rr_ Y7.2.2.1,KR (by decide),KQ (.inr rfl)];rfl
theorem rr_or:ZG S [wsD (wLn "or")]=YW S []:=by
 rw [rr_ Y7.2.2.2.1,KR (by decide),KR (by decide),KQ (lw _)]
theorem rr_end:ZG S [wsD (wLn "end")]=J8 S []:=by
 rw [rr_ Y7.2.2.2.2,KR (by decide),KR (by decide),KR (by decide),KQ (lw _)]
theorem rr_row_ {l:Ln} (hs:Sm l) (h:PyData.strOk l.1=true) (n:l.1≠"body"/\l.1≠"either"/\l.1≠"loop"/\l.1≠"or"/\l.1≠"end"):ZG S [wsD l]=Z3 S [rowL l]:=by
 obtain ⟨w,ns⟩:=l
 have ne:∀ {x:Kw},w≠x->lnW (w,ns)≠[x]:=fun hx z=>hx (by unfold lnW at z;injection z)
 rw [rr_ h,KR (ne n.1),KR (by rintro (z | z);exact ne n.2.1 z;exact ne n.2.2.1 z),KR (ne n.2.2.2.1),KR (ne n.2.2.2.2),row_of_ok hs]
 rfl
end
theorem add_last (op:List (List D)) (acc:List D) (r:D):Je (op++[acc]) r=some (op++[acc++[r]]):=by
 induction op with
 | nil=>rfl
 | cons d op ih =>
  cases op with
  | nil=>rfl
  | cons e op =>
   show (Je ((e::op)++[acc]) r).map (d::·)=_
   rw [ih];rfl
def Sh (op:List (List D)):Prop:=∀ d∈op,d.length<=1000
theorem JZ {op dn:List (List D)} {acc:List D} {bg:List Kw} {r:D} (h:Sh (op++[acc])):Z3 ⟨op++[acc],dn,bg⟩ [r]=some ⟨op++[acc++[r]],dn,bg⟩:=by
 unfold Z3
 have:((op++[acc]).all fun d=>decide (d.length<Kg))=true:=Q8.mpr fun d hd=>KS (size8 (by have:=h d hd;omega))
 show (if (op++[acc]).all (fun d=>decide (d.length<Kg))=true then _ else _)=_
 rw [KQ this,add_last]
 rfl
theorem begin_ {op dn:List (List D)} {bg:List Kw} {w:Kw} (h1:bg.length<6) (h2:op≠[]) (h3:op.length<1000):ZT ⟨op,dn,bg⟩ [.str w]=some ⟨op++[[]],dn,bg++[w]⟩:=by
 unfold ZT
 exact KQ ⟨h1,h2,h3⟩
theorem other_ {op dn:List (List D)} {bg:List Kw} (h2:op≠[]) (h3:op.length<1000):YW ⟨op,dn,bg++[("either":Kw)]⟩ []=some ⟨op++[[]],dn,bg++[("or":Kw)]⟩:=by
 show (if (bg++[("either":Kw)]).getLast?=some ("either":Kw)/\op≠[]/\op.length<1000 then some (⟨op++[[]],dn,(bg++[("either":Kw)]).dropLast++[("or":Kw)]⟩:Rst) else none)=_
 rw [KQ ⟨by simp,h2,h3⟩,Q2]
theorem pop_d (op:List (List D)) (d:List D) (h:op≠[]):popD (op++[d])=some (op,d):=by
 unfold popD
 rw [KQ (by cases op with
  | nil=>exact absurd rfl h
  | cons _ _=>simp),PY]
 simp
theorem end_loop {op dn:List (List D)} {acc d:List D} {bg:List Kw} (h:Sh (op++[acc])):J8 ⟨op++[acc]++[d],dn,bg++[("loop":Kw)]⟩ []=some ⟨op++[acc++[.tup [.str "loop",.lst d]]],dn,bg⟩:=by
 unfold J8
 simp only [PY,List.getLast?_singleton,Option.some_or,oB,Q2]
 rw [KR (by decide),pop_d _ _ (by simp),oB,KQ trivial]
 exact JZ h
theorem end_either {op dn:List (List D)} {acc c d:List D} {bg:List Kw} (h:Sh (op++[acc])):J8 ⟨op++[acc]++[c]++[d],dn,bg++[("or":Kw)]⟩ []=some ⟨op++[acc++[.tup [.str "either",.lst c,.lst d]]],dn,bg⟩:=by
 unfold J8
 simp only [PY,List.getLast?_singleton,Option.some_or,oB,Q2]
 rw [KR (by decide),pop_d _ _ (by simp),oB,KR (by decide),pop_d _ _ (by simp),oB]
 exact JZ h
theorem yG {d:D} {ds:List D} {S S1:Rst} (h:ZG S [d]=some S1):jY ZG (d::ds) S=jY ZG ds S1:=by
 show (ZG S [d]).bind _=_
 rw [h];rfl
theorem Sh.push {op:List (List D)} {d:List D} (h:Sh op) (hd:d.length<=1000):Sh (op++[d]):=fun x hx=>by
 rcases Qq.mp hx with hx | hx
 ·exact h x hx
 ·rw [Qm.mp hx];exact hd
theorem one_ok (hm:mm<=6) {nb:Nat} {x:Kw} {ps:List D} (ho:(Rq.one x ps).ok mm nb):PyData.strOk x=true/\(x≠"body"/\x≠"either"/\x≠"loop"/\x≠"or"/\x≠"end")/\rowL (x,wb ps)=(Rq.one x ps).toD:=by
 rw [Rq.ok] at ho
 rw [yj]
 rcases ho.2.2.2.2 with ⟨rfl,rfl⟩ | ⟨rfl,rfl⟩ | ⟨b,rfl,rfl,hb⟩ | ⟨b,ns,rfl,rfl,hb,hn,hx⟩
 ·exact ⟨by decide +kernel,by decide,rfl⟩
 ·exact ⟨by decide +kernel,by decide,rfl⟩
 ·exact ⟨by decide +kernel,by decide,rfl⟩
 ·refine ⟨by decide +kernel,by decide,?_⟩
  rw [wb,Y8]
  rfl
theorem jT (a:List Rq):(qDs a).length=a.length:=by rw [jq,Qe]
mutual
theorem read_row_ (hm:mm<=6) {nb:Nat} (h4:nb<=5):∀ (r:Rq) (op dn:List (List D)) (acc:List D) (bg:List Kw) (Zg:List D),r.ok mm nb->bg.length+r.rk r0<=6->op.length+2*r.rk r0<=900->Sh op->acc.length<=1000->jY ZG ((rl r).map wsD++Zg) ⟨op++[acc],dn,bg⟩=jY ZG Zg ⟨op++[acc++[r.toD]],dn,bg⟩
 | .one x ps,op,dn,acc,bg,Zg,ho,_,_,hs,ha=>by
  obtain ⟨o1,o2,o3⟩:=one_ok hm ho
  have hS:=sm_row hm h4 (.one x ps) ho (x,wb ps) (by rw [rl];exact Qm.mpr rfl)
  rw [rl,Q1,Pd]
  refine yG ((rr_row_ hS o1 o2).trans ?_)
  rw [o3]
  exact JZ (hs.push ha)
 | .call k,op,dn,acc,bg,Zg,ho,_,_,hs,ha=>by
  have hS:=sm_row hm h4 (.call k) ho ("call",[(k:Int)]) (by rw [rl];exact Qm.mpr rfl)
  rw [rl,Q1,Pd]
  refine yG ((rr_row_ hS (by show PyData.strOk ("call":Kw)=true;decide +kernel) (by show ("call":Kw)≠"body"/\("call":Kw)≠"either"/\("call":Kw)≠"loop"/\("call":Kw)≠"or"/\("call":Kw)≠"end";decide)).trans ?_)
  rw [yl]
  exact JZ (hs.push ha)
 | .loop a,op,dn,acc,bg,Zg,ho,hb,hl,hs,ha=>by
  rw [Rq.ok] at ho
  rw [Rq.rk] at hb hl
  rw [rl,Qk,Qz,QF,QL]
  rw [yG (rr_loop.trans (begin_ (by omega) (by simp) (by simp;omega)))]
  rw [Yw hm h4 a (op++[acc]) dn [] (bg++[("loop":Kw)]) _ ho.1 (by rw [Qf,Qv];omega) (by rw [Qf,Qv];omega) (hs.push ha) (by rw [QB];omega)]
  rw [QK,Q1,Pd,ye]
  exact yG (rr_end.trans (end_loop (hs.push ha)))
 | .either a b,op,dn,acc,bg,Zg,ho,hb,hl,hs,ha=>by
  rw [Rq.ok] at ho
  rw [Rq.rk] at hb hl
  rw [rl,Qk,Qz,Qk,Qz,QF,QL,QF,QL]
  rw [yG (rr_either.trans (begin_ (by omega) (by simp) (by simp;omega)))]
  rw [Yw hm h4 a (op++[acc]) dn [] (bg++[("either":Kw)]) _ ho.1.1 (by rw [Qf,Qv];omega) (by rw [Qf,Qv];omega) (hs.push ha) (by rw [QB];omega)]
  rw [QK]
  have hq:(qDs a).length<=1000:=by rw [jT];omega
  rw [yG (rr_or.trans (other_ (by simp) (by simp;omega)))]
  rw [Yw hm h4 b (op++[acc]++[qDs a]) dn [] (bg++[("or":Kw)]) _ ho.2.1 (by rw [Qf,Qv];omega) (by rw [Qf,Qf,Qv,Qv];omega) ((hs.push ha).push hq) (by rw [QB];omega)]
  rw [QK,Q1,Pd,ZB]
  exact yG (rr_end.trans (end_either (hs.push ha)))
theorem Yw (hm:mm<=6) {nb:Nat} (h4:nb<=5):∀ (rs:List Rq) (op dn:List (List D)) (acc:List D) (bg:List Kw) (Zg:List D),oks mm nb rs->bg.length+rks r0 rs<=6->op.length+2*rks r0 rs<=900->Sh op->acc.length+rs.length<=1000->jY ZG ((rls rs).map wsD++Zg) ⟨op++[acc],dn,bg⟩=jY ZG Zg ⟨op++[acc++qDs rs],dn,bg⟩
 | [],op,dn,acc,bg,Zg,_,_,_,_,_=>by rw [rls,qDs,QT];rfl
 | r::rs,op,dn,acc,bg,Zg,ho,hb,hl,hs,ha=>by
  rw [oks] at ho
  rw [rks] at hb hl
  rw [Qg] at ha
  rw [rls,Qz,QL,read_row_ hm h4 r op dn acc bg _ ho.1 (by omega) (by omega) hs (by omega),Yw hm h4 rs op dn (acc++[r.toD]) bg Zg ho.2 (by omega) (by omega) hs (by rw [Qf,Qv];omega),qDs,QL]
  rfl
end
variable {mm:Nat}
def Wf (x:Kw):Prop:=(59:Nat)∉cl x/\(32:Nat)∉cl x
theorem tn_wf (n:Int):Wf (tn n):=⟨tn_free ⟨by decide,by decide⟩ n,tn_free ⟨by decide,by decide⟩ n⟩
instance (x:Kw):Decidable (Wf x):=inferInstanceAs (Decidable (_/\_))
mutual
theorem wf_row {nb:Nat}:∀ r:Rq,r.ok mm nb->∀ l∈rl r,Wf l.1
 | .one x ps,o,l,hl=>by
  rw [Rq.ok] at o
  rw [rl,Qm] at hl
  subst hl
  rcases o.2.2.2.2 with ⟨rfl,_⟩ | ⟨rfl,_⟩ | ⟨b,rfl,_⟩ | ⟨b,ns,rfl,_⟩
  ·show Wf ("skip":Kw);decide +kernel
  ·show Wf ("halt":Kw);decide +kernel
  ·show Wf ("take":Kw);decide +kernel
  ·show Wf ("set":Kw);decide +kernel
 | .call k,o,l,hl=>by
  rw [rl,Qm] at hl
  subst hl
  show Wf ("call":Kw);decide +kernel
 | .loop rs,o,l,hl=>by
  rw [Rq.ok] at o
  simp only [rl,Qa,Qq,Qi,or_false] at hl
  rcases hl with rfl | hl | rfl
  ·show Wf ("loop":Kw);decide +kernel
  ·exact JB rs o.1 l hl
  ·show Wf ("end":Kw);decide +kernel
 | .either a b,o,l,hl=>by
  rw [Rq.ok] at o
  simp only [rl,Qa,Qq,Qi,or_false] at hl
  rcases hl with rfl | hl | rfl | hl | rfl
  ·show Wf ("either":Kw);decide +kernel
  ·exact JB a o.1.1 l hl
  ·show Wf ("or":Kw);decide +kernel
  ·exact JB b o.2.1 l hl
  ·show Wf ("end":Kw);decide +kernel
theorem JB {nb:Nat}:∀ rs:List Rq,oks mm nb rs->∀ l∈rls rs,Wf l.1
 | [],_,l,hl=>by rw [rls] at hl;cases hl
 | r::rs,o,l,hl=>by
  rw [oks] at o
  rw [rls,Qq] at hl
  rcases hl with hl | hl
  ·exact wf_row r o.1 l hl
  ·exact JB rs o.2 l hl
end
theorem c_sep:cl ("; ":Kw)=[59,32]/\Builtin.Str.strKind ("; ":Kw)=1:=by decide +kernel
theorem c_spc:cl (" ":Kw)=[32]/\Builtin.Str.strKind (" ":Kw)=1:=by decide +kernel
theorem line_split {l:Ln} (h:Wf l.1):Txt.split (lnT l) " "=lnW l:=by
 refine WE c_spc.1 c_spc.2 l.1 (l.2.map tn) rfl fun q hq=>?_
 rcases Qa.mp hq with rfl | hq
 ·exact h.2
 ·obtain ⟨n,_,rfl⟩:=Qw.mp hq
  exact (tn_wf n).2
theorem line_free {l:Ln} (h:Wf l.1):(59:Nat)∉cl (lnT l):=fun hc=>by
 rcases (PyProof.Rows.mem_join " " 59 (lnW l)).mp hc with ⟨t,ht,hc⟩ | ⟨_,hc⟩
 ·rcases Qa.mp ht with rfl | ht
  ·exact h.1 hc
  ·obtain ⟨n,_,rfl⟩:=Qw.mp ht
   exact (tn_wf n).1 hc
 ·have:(59:Nat)∈cl (" ":Kw):=hc
  rw [c_spc.1] at this
  simp at this
theorem wJ (hm:mm<=6) {nb:Nat} (h4:nb<=5):∀ (bs:List (List Rq)) (op dn:List (List D)),(∀ b∈bs,oks mm nb b/\rks r0 b<=6/\b.length<=100)->op.length<=1->dn.length+op.length+bs.length<=900->∃ op' dn',jY ZG ((bs.flatMap fun b=>wLn "body"::rls b).map wsD) ⟨op,dn,[]⟩=some ⟨op',dn',[]⟩/\op'.length<=1/\dn'++op'=dn++op++bs.map qDs
 | [],op,dn,_,h1,_=>⟨op,dn,rfl,h1,by rw [QJ,QT]⟩
 | b::bs,op,dn,h,h1,hl=>by
  obtain ⟨o,k,l⟩:=h b Qj
  rw [Qg] at hl
  obtain ⟨op',dn',e,e1,e2⟩:=wJ hm h4 bs [qDs b] (dn++op) (fun x hx=>h x (Qc _ hx)) (by simp) (by simp only [Qf,Qv];omega)
  refine ⟨op',dn',?_,e1,?_⟩
  ·have eb:Z0 ⟨op,dn,[]⟩ []=some ⟨[[]],dn++op,[]⟩:=KQ ⟨rfl,h1,by show dn.length<1000;omega⟩
   rw [QZ,Qz,Qk,QF,yG (rr_body.trans eb)]
   have:=Yw hm h4 b [] (dn++op) [] [] ((bs.flatMap fun b=>wLn "body"::rls b).map wsD) o (by simpa using k) (by simp only [QB];omega) (fun d hd=>by cases hd) (by simp only [QB];omega)
   rw [QK,QK,QK] at this
   rw [this]
   exact e
  ·rw [e2,Qk,QL,Pd,QL]
theorem ask_ok {f:Ev->Option D} {ρ:Ev} (e:f ρ=some (.bl true)):fA wT (za f zi) ρ=some .non:=fA1 e rfl
theorem bsD_map (bs:List (List Rq)):(bs.map qDs).map D.lst=bsD bs:=by rw [Qt];rfl
theorem read_ok {KM nb:Nat} {bs:List (List Rq)} (hm:mm<=6) (hp:Pb mm nb bs) (hn:KM<=6) (hb:∀ b∈bs,b.length<=100) (hip:mq0 [prD KM bs]=some (.bl true)):mq13 [.str (prT KM bs)]=some (prD KM bs):=by
 have hT:=prT_len hm hp hn
 have hL:=prL_len (KM:=KM) hp
 have hS:=sm_pr hm hp hn
 have hwf:∀ l∈prL KM bs,Wf l.1:=fun l hl=>by
  unfold prL at hl
  rcases Qa.mp hl with rfl | hl
  ·show Wf ("boxes":Kw);decide +kernel
  ·obtain ⟨b,hb,hl⟩:=Pu.mp hl
   rcases Qa.mp hl with rfl | hl
   ·show Wf ("body":Kw);decide +kernel
   ·exact JB b (hp.ok b hb) l hl
 have s1:Txt.split (prT KM bs) "; "=(prL KM bs).map lnT:=WE c_sep.1 c_sep.2 _ _ rfl fun q hq=>by
  have hq':q∈(prL KM bs).map lnT:=hq
  obtain ⟨l,hl,rfl⟩:=Qw.mp hq'
  exact line_free (hwf l hl)
 have d1:∀ {x y:Kw},(y.length == 0)=false->x.length<=100000->YC (.str x) (.str y)=some (.lst ((Txt.split x y).map D.str)):=fun {x y} h1 h2=>by
  show (if (y.length == 0)=false/\x.length+2<=Kg then _ else _)=_
  rw [KQ ⟨h1,WH (by omega)⟩]
 have er:Zs 1 (zk true (f2 YC (zc 0) (fC (.str "; ")))) (zI 5) Z2 (f2 YC (zc 5) (fC (.str " "))) [some (.str (prT KM bs)),none,none,none,none]=some (.lst ((prL KM bs).map wsD)):=by
  have ec:=Zw (k:=1) (fl:=zk true (f2 YC (zc 0) (fC (.str "; ")))) (u:=zI 5) (c:=Z2) (e:=f2 YC (zc 5) (fC (.str " "))) (ρ:=[some (.str (prT KM bs)),none,none,none,none]) ((prL KM bs).map fun l=>(.str (lnT l),wsD l)) (fun ρ=>∃ z:Option D,ρ=[some (.str (prT KM bs)),none,none,none,none,z])
   ((yf (f2v rfl rfl (d1 (by decide +kernel) (by omega)))).trans (by rw [s1,Qt,Qt];rfl)) (by rw [Qe];omega) ⟨none,rfl⟩ (by
    rintro p ρ hp' ⟨z,rfl⟩
    obtain ⟨l,hl,rfl⟩:=Qw.mp hp'
    have:=ln_len (hS l hl)
    exact ⟨_,rfl,rfl,f2v rfl rfl ((d1 (by decide +kernel) (by omega)).trans (by rw [line_split (hwf l hl)];rfl)),_,rfl⟩)
  rw [Qt] at ec
  exact ec
 obtain ⟨op',dn',ef,l1,ed⟩:=wJ hm hp.few bs [] [] (fun b h=>⟨hp.ok b h,hp.low b h,hb b h⟩) (by simp) (by have:=hp.num;simp only [QB];omega)
 have ed':dn'++op'=bs.map qDs:=by simpa using ed
 have e1:fA wT (za (f1 (yu "str") (zc 0)) zi) [some (.str (prT KM bs)),none,none,none,none]=some .non:=ask_ok (f1v (x:=.str (prT KM bs)) rfl rfl)
 have e8:fA wT (za (fA mq0 (za (zc 4) zi)) zi) [some (.str (prT KM bs)),some (.lst ((prL KM bs).map wsD)),none,none,some (prD KM bs)]=some .non:=ask_ok (fA1 rfl hip)
 unfold mq13 mDefD
 rw [KQ (show [D.str (prT KM bs)].length=1 from rfl)]
 show mRead ZG _ _ _ _ _ _ [some (.str (prT KM bs)),none,none,none,none]=_
 unfold mRead
 rw [e1,oB,J5 er,oB]
 simp only [zSet]
 have ei:zk true (wn .lst (zk true (zc 1)) (yv (fC (.int 1))) fNo) [some (.str (prT KM bs)),some (.lst ((prL KM bs).map wsD)),none,none,none]=some ((bs.flatMap fun b=>wLn "body"::rls b).map wsD):=(yf (gm (k:=1) (ds:=(prL KM bs).map wsD) (yf (ZL rfl)) rfl)).trans (by unfold prL;rfl)
 rw [ei,oB,ef,oB,KQ ⟨rfl,l1⟩]
 have r0v:∀ {z4:Option D},fIx (zk true (zc 1)) (fC (.int 0)) [some (.str (prT KM bs)),some (.lst ((prL KM bs).map wsD)),none,none,z4]=some (.lst [.str "boxes",.str (tn KM)]):=Z7 (yf (ds:=(prL KM bs).map wsD) (ZL rfl)) rfl (zL (j:=0) rfl)
 have e6:fA wT (za (yH (f2 Ze (fA yP (zk true (fIx (zk true (zc 1)) (fC (.int 0))))) (fC (.int 2))) (f2 Ze (fIx (zk true (fIx (zk true (zc 1)) (fC (.int 0)))) (fC (.int 0))) (fC (.str "boxes")))) zi) [some (.str (prT KM bs)),some (.lst ((prL KM bs).map wsD)),none,none,none]=some .non:=ask_ok (y8 (f2v (x:=.int 2) (y:=.int 2) (by rw [fA_,yf r0v];rfl) rfl dEqS_self) (f2v (Z7 (yf r0v) rfl (zL (j:=0) rfl)) rfl eq_t))
 have e7:fA mq18 (za (fIx (zk true (fIx (zk true (zc 1)) (fC (.int 0)))) (fC (.int 1))) zi) [some (.str (prT KM bs)),some (.lst ((prL KM bs).map wsD)),none,none,none]=some (.int KM):=fA1 (Z7 (yf r0v) rfl (zL (j:=1) rfl)) (num_in KM (by omega))
 rw [e6,oB,e7,oB,ed',bsD_map,e8,oB]
open PySem PySem.Spec L2 M
open RW (Dc dput_)
variable {mm:Nat}
theorem retE {f:Ev->Option D} {ρ:Ev} {d:D} (e:f ρ=some d):zR f ρ=some (.rt d):=by rw [mRet_,e];rfl
theorem JW (ds:List D) (n:Nat) (h:ds.length=n):mq1 [.tup ds,.int (n:Nat)]=some (.bl true):=by
 refine wD rfl ?_
 unfold bq1
 exact retE (y8 (f1v rfl rfl) (f2v (x:=.int (ds.length:Nat)) rfl rfl (by rw [h];exact dEqS_self)))
theorem WX {x lo hi:Int} (h1:lo<=x) (h2:x<=hi):mq2 [.int x,.int lo,.int hi]=some (.bl true):=by
 refine wD rfl ?_
 unfold bq2
 have ec:∀ {fa fb fc:Ev->Option D} {ρ:Ev},fa ρ=some (.int lo)->fb ρ=some (.int x)->fc ρ=some (.int hi)->y2 dLe dLe fa fb fc ρ=some (.bl true):=fun e1 e2 e3=>by
  unfold y2
  rw [e1,oB,e2,oB,show dLe (.int lo) (.int x)=some (.bl true) by show some (D.bl (decide (lo<=x)))=_;rw [KS h1],oB]
  show Option.bind (some true) _=_
  rw [oB,KQ rfl,e3,oB]
  show some (D.bl (decide (x<=hi)))=_
  rw [KS h2]
 exact retE (y8 (f1v rfl rfl) (y8 rfl (ec rfl rfl rfl)))
theorem allB_true {α:Type} (ds:List α):jc (ds.map fun _=>D.bl true)=some (.bl true):=by
 have e:(ds.map fun _=>D.bl true)=(ds.map fun _=>true).map D.bl:=by rw [Qt];rfl
 unfold jc
 rw [e,gx]
 simp
theorem all_of {k:Nat} {fl:Ev->Option (List D)} {u:D->Ev->Option Ev} {e:Ev->Option D} {ρ:Ev} (ds:List D) (I:Ev->Prop) (hfl:fl ρ=some ds) (hm:ds.length<=1000) (h0:I (ρ++List.replicate k none)) (hs:∀ d ρ,d∈ds->I ρ->∃ ρ1,u d ρ=some ρ1/\e ρ1=some (.bl true)/\I ρ1):fA jc (zk true (Zs k fl u Z2 e)) ρ=some (.bl true):=by
 have ec:=Zw (k:=k) (fl:=fl) (u:=u) (c:=Z2) (e:=e) (ρ:=ρ) (ds.map fun d=>(d,D.bl true)) I (hfl.trans (by simp [Function.comp_def])) (by rw [Qe];exact hm) h0 (by
  rintro p ρ hp hi
  obtain ⟨d,hd,rfl⟩:=Qw.mp hp
  obtain ⟨ρ1,h1,h2,h3⟩:=hs d ρ hd hi
  exact ⟨ρ1,h1,rfl,h2,h3⟩)
 rw [Qt] at ec
 rw [fA_,yf ec,oB]
 exact allB_true ds
theorem line_good {KM:Nat} {ns:List Int} (hm:KM<=6) (hl:ns.length=KM+1) (hx:∀ n∈ns,n.natAbs<=999999):mq5 [.tup (ns.map .int),.int (KM:Nat)]=some (.bl true):=by
 refine Wo.eq ?_
 unfold mq5 bq5
 rw [ZZ]
 refine ⟨rfl,?_⟩
 simp only [Zd,zMap,zLen,List.replicate,zApp,QD,Nat.reduceAdd,Nat.reduceSub]
 rw [zx]
 refine Yt (jG (zP (fA2 (y:=.int ((KM+1:Nat):Int)) rfl (f2v rfl rfl rfl) (JW _ (KM+1) (by rw [Qe];exact hl))))) ?_
 rw [Zk,zG,zu]
 refine Y5 (all_of (ns.map .int) (fun ρ=>∃ z:Option D,ρ=[some (.tup (ns.map .int)),some (.int (KM:Nat)),z]) (yh (ZL rfl)) (by rw [Qe];omega) ⟨none,rfl⟩ ?_) rfl
 rintro d ρ hd ⟨z,rfl⟩
 obtain ⟨n,hn,rfl⟩:=Qw.mp hd
 have:=hx n hn
 exact ⟨_,rfl,fA3 (x:=.int n) (y:=.int (-999999)) rfl (f1v rfl dNeg_) rfl (WX (by omega) (by omega)),_,rfl⟩
theorem rows_step {n KM f nb:Nat} {rs:List Rq} (hl:rs.length<=100) (h:∀ r∈rs,(Rq3 n).2 [r.toD,.int (KM:Nat),.int (f:Nat),.int ((nb:Nat) - 1:Int)]=some (.bl true)):(Rq3 (n+1)).1 [.lst (qDs rs),.int (KM:Nat),.int (f:Nat),.int ((nb:Nat) - 1:Int)]=some (.bl true):=by
 rw [show (Rq3 (n+1)).1=ZE 4 4 (bq3 (Rq3 n).1 (Rq3 n).2) by rw [Rq3]]
 refine wD rfl ?_
 unfold bq3
 exact retE (y8 (f1v rfl rfl) (all_of (qDs rs) (fun ρ=>∃ z:Option D,ρ=[some (.lst (qDs rs)),some (.int (KM:Nat)),some (.int (f:Nat)),some (.int ((nb:Nat) - 1:Int)),z]) (yf (ZL rfl)) (by rw [jT];omega) ⟨none,rfl⟩ (by
  rintro d ρ hd ⟨z,rfl⟩
  rw [jq] at hd
  obtain ⟨r,hr,rfl⟩:=Qw.mp hd
  exact ⟨_,rfl,fA4 rfl rfl rfl rfl (h r hr),_,rfl⟩)))
theorem kd {ρ:Ev} {x y:Kw} (h:ρ[4]?=some (some (.str x))) (n:x≠y):zw (f2 Ze (zc 4) (fC (.str y))) ρ=some false:=zP (f2v (ZL h) rfl (eq_f n))
theorem kt {ρ:Ev} {x:Kw} (h:ρ[4]?=some (some (.str x))):zw (f2 Ze (zc 4) (fC (.str x))) ρ=some true:=zP (f2v (ZL h) rfl eq_t)
theorem row_step {n KM f nb:Nat} (hm:KM<=6) {r:Rq} (ho:r.ok KM nb) (hf:r.lat f) (h:∀ x∈ZM r,(Rq3 n).1 [.lst (qDs x),.int (KM:Nat),.int (f:Nat),.int ((nb:Nat) - 1:Int)]=some (.bl true)):(Rq3 (n+1)).2 [r.toD,.int (KM:Nat),.int (f:Nat),.int ((nb:Nat) - 1:Int)]=some (.bl true):=by
 refine Wo.eq ?_
 rw [show (Rq3 (n+1)).2=ZE 4 5 (bq4 (Rq3 n).1 (Rq3 n).2) by rw [Rq3]]
 unfold bq4
 rw [ZZ]
 refine ⟨rfl,?_⟩
 simp only [Zd,zMap,zLen,List.replicate,zApp,QD,Nat.reduceAdd,Nat.reduceSub]
 generalize (Rq3 n).1=m1 at h ⊢
 generalize (Rq3 n).2=m2
 have beg:∀ {x:Kw} {ps:List D} {T:Out->Prop} {m:Ev->Option Out},Wo (m [some (.tup (.str x::ps)),some (.int (KM:Nat)),some (.int (f:Nat)),some (.int ((nb:Nat) - 1:Int)),some (.str x)]) T->Wo (zE (mIf (fOr (jd (zw (f1 (yu "tuple") (zc 0)))) (zw (f2 Ze (fA yP (zk false (zc 0))) (fC (.int 0))))) (zR (fC (.bl false))) zV) (zE (Zj 4 (fIx (zk false (zc 0)) (fC (.int 0)))) m) [some (.tup (.str x::ps)),some (.int (KM:Nat)),some (.int (f:Nat)),some (.int ((nb:Nat) - 1:Int)),none]) T:=fun {x ps T m} k=>by
  rw [zx]
  refine Yt (JP (jG (zP (f1v rfl rfl))) (zP (f2v (x:=.int ((ps.length+1:Nat):Int)) (y:=.int 0) (by show some (D.int ((D.str x::ps).length:Nat))=_;rw [Qg]) rfl (by rw [jf,KU (by omega)])))) ?_
  rw [Zk,zG,zu,zx]
  refine yp (W7 rfl) ?_
  simp only [zSet,zu]
  exact k
 have skp:∀ {c:Ev->Option Bool} {m1 m2:Ev->Option Out} {ρ:Ev} {T:Out->Prop},c ρ=some false->Wo (m2 ρ) T->Wo (zE (mIf c m1 zV) m2 ρ) T:=fun e k=>by
  rw [zx]
  refine Yt e ?_
  rw [Zk,zG,zu]
  exact k
 have tak:∀ {c:Ev->Option Bool} {f:Ev->Option D} {m2:Ev->Option Out} {ρ:Ev},c ρ=some true->f ρ=some (.bl true)->Wo (zE (mIf c (zR f) zV) m2 ρ) (JA fun d=>d=.bl true):=fun e k=>by
  rw [zx]
  refine if_t e ?_
  exact Y4 k rfl
 have orF:∀ {x:Kw} {ρ:Ev},ρ[4]?=some (some (.str x))->x≠"skip"->x≠"halt"->fOr (zw (f2 Ze (zc 4) (fC (.str "skip")))) (zw (f2 Ze (zc 4) (fC (.str "halt")))) ρ=some false:=fun h a b=>JP (kd h a) (kd h b)
 cases r with
 | call k =>
  rw [Rq.ok] at ho
  rw [Rq.lat] at hf
  rw [yl]
  refine beg (skp (kd rfl (by decide)) (skp (kd rfl (by decide)) (skp (orF rfl (by decide) (by decide)) (skp (kd rfl (by decide)) (skp (kd rfl (by decide)) (tak (kt rfl) ?_))))))
  exact y8 (fA2 rfl rfl (JW _ 2 rfl)) (fA3 (Z7 (yh (ZL rfl)) rfl (zL (j:=1) rfl)) rfl rfl (WX (by omega) (by omega)))
 | loop a =>
  rw [ye]
  refine beg (skp (kd rfl (by decide)) (skp (kd rfl (by decide)) (skp (orF rfl (by decide) (by decide)) (skp (kd rfl (by decide)) (tak (kt rfl) ?_)))))
  exact y8 (fA2 rfl rfl (JW _ 2 rfl)) (fA4 (Z7 (yh (ZL rfl)) rfl (zL (j:=1) rfl)) rfl rfl rfl (h a (by simp [ZM])))
 | either a b =>
  rw [ZB]
  refine beg (skp (kd rfl (by decide)) (skp (kd rfl (by decide)) (skp (orF rfl (by decide) (by decide)) (tak (kt rfl) ?_))))
  refine y8 (fA2 rfl rfl (JW _ 3 rfl)) (all_of [.lst (qDs a),.lst (qDs b)] (fun ρ=>∃ z:Option D,ρ=[some (.tup [.str "either",.lst (qDs a),.lst (qDs b)]),some (.int (KM:Nat)),some (.int (f:Nat)),some (.int ((nb:Nat) - 1:Int)),some (.str "either"),z]) (yh (gs (k:=1) (ds:=[.str "either",.lst (qDs a),.lst (qDs b)]) (yh (ZL rfl)) rfl (by omega) (by simp))) (by simp) ⟨none,rfl⟩ ?_)
  rintro d ρ hd ⟨z,rfl⟩
  simp only [Qa,Qi,or_false] at hd
  rcases hd with rfl | rfl
  ·exact ⟨_,rfl,fA4 rfl rfl rfl rfl (h a (by simp [ZM])),_,rfl⟩
  ·exact ⟨_,rfl,fA4 rfl rfl rfl rfl (h b (by simp [ZM])),_,rfl⟩
 | one x ps =>
  rw [Rq.ok] at ho
  rw [yj]
  have or1:∀ {c1 c2:Ev->Option Bool} {ρ:Ev},c1 ρ=some true->fOr c1 c2 ρ=some true:=fun e=>by rw [fOr_,e];rfl
  have or2:∀ {c1 c2:Ev->Option Bool} {ρ:Ev},c1 ρ=some false->c2 ρ=some true->fOr c1 c2 ρ=some true:=fun e e'=>by rw [fOr_,e];exact e'
  rcases ho.2.2.2.2 with ⟨rfl,rfl⟩ | ⟨rfl,rfl⟩ | ⟨b,rfl,rfl,hb⟩ | ⟨b,ns,rfl,rfl,hb,hl,hx⟩
  ·exact beg (skp (kd rfl (by decide)) (skp (kd rfl (by decide)) (tak (or1 (kt rfl)) (fA2 rfl rfl (JW _ 1 rfl)))))
  ·exact beg (skp (kd rfl (by decide)) (skp (kd rfl (by decide)) (tak (or2 (kd rfl (by decide)) (kt rfl)) (fA2 rfl rfl (JW _ 1 rfl)))))
  ·exact beg (skp (kd rfl (by decide)) (tak (kt rfl) (y8 (fA2 rfl rfl (JW _ 2 rfl)) (fA3 (Z7 (yh (ZL rfl)) rfl (zL (j:=1) rfl)) rfl (f2v rfl rfl sub_) (WX (by omega) (by omega))))))
  ·exact beg (tak (kt rfl) (y8 (fA2 rfl rfl (JW _ 3 rfl)) (y8 (fA3 (Z7 (yh (ZL rfl)) rfl (zL (j:=1) rfl)) rfl (f2v rfl rfl sub_) (WX (by omega) (by omega))) (fA2 (Z7 (yh (ZL rfl)) rfl (zL (j:=2) rfl)) rfl (line_good hm hl hx)))))
theorem rows_all {KM f nb:Nat} (hm:KM<=6):∀ (h n:Nat),2*h+2<=n->∀ rs:List Rq,rks (fun _=>0) rs<=h->oks KM nb rs->Yg f rs->rs.length<=100->(Rq3 n).1 [.lst (qDs rs),.int (KM:Nat),.int (f:Nat),.int ((nb:Nat) - 1:Int)]=some (.bl true):=by
 intro h
 induction h with
 | zero =>
  intro n hn rs hk ho hf hl
  obtain ⟨n,rfl⟩:∃ m,n=m+2:=⟨n - 2,by omega⟩
  refine rows_step hl fun r hr=>row_step hm (yb ho hr) (yt hf hr) fun x hx=>?_
  have h1:=yM (g:=fun _=>0) hr
  have h2:=(y9 (g:=fun _=>0) hx)
  omega
 | succ h ih =>
  intro n hn rs hk ho hf hl
  obtain ⟨n,rfl⟩:∃ m,n=m+2:=⟨n - 2,by omega⟩
  refine rows_step hl fun r hr=>row_step hm (yb ho hr) (yt hf hr) fun x hx=>?_
  have h1:=yM (g:=fun _=>0) hr
  have h2:=(y9 (g:=fun _=>0) hx)
  obtain ⟨o1,o2,o3⟩:=subs_ok (yb ho hr) (yt hf hr) hx
  exact ih n (by omega) x (by omega) o1 o2 o3
open RW (Dc dput_ mx maxD_mx)
variable {mm:Nat}
mutual
theorem dph_congr {g g':Nat->Nat} {f nb:Nat} (h:∀ k,f<=k->k<nb->g k=g' k):∀ r:Rq,r.lat f->r.ok mm nb->r.dph g=r.dph g'
 | .one _ _,_,_=>by simp [Rq.dph]
 | .call k,o,o'=>by rw [Rq.lat] at o;rw [Rq.ok] at o';simp only [Rq.dph,h k o o']
 | .loop rs,o,o'=>by rw [Rq.lat] at o;rw [Rq.ok] at o';simp only [Rq.dph,yE h rs o o'.1]
 | .either a b,o,o'=>by rw [Rq.lat] at o;rw [Rq.ok] at o';simp only [Rq.dph,yE h a o.1 o'.1.1,yE h b o.2 o'.2.1]
theorem yE {g g':Nat->Nat} {f nb:Nat} (h:∀ k,f<=k->k<nb->g k=g' k):∀ rs:List Rq,Yg f rs->oks mm nb rs->ZY g rs=ZY g' rs
 | [],_,_=>by simp [ZY]
 | r::rs,o,o'=>by rw [Yg] at o;rw [oks] at o';simp only [ZY,dph_congr h r o.1 o'.1,yE h rs o.2 o'.2]
end
theorem fixD_ex {B:Nat->List Rq} {n:Nat} (hB:∀ j,j<n->oks mm n (B j)/\Yg (j+1) (B j)):∃ g:Nat->Nat,∀ j,j<n->g j=ZY g (B j):=by
 suffices h:∀ i,i<=n->∃ g:Nat->Nat,∀ j,n - i<=j->j<n->g j=ZY g (B j) by
  obtain ⟨g,h2⟩:=h n (Ql n)
  exact ⟨g,fun j hj=>h2 j (by omega) hj⟩
 intro i
 induction i with
 | zero=>exact fun _=>⟨fun _=>0,fun j h1 h2=>by omega⟩
 | succ i ih =>
  intro hi
  obtain ⟨g,h2⟩:=ih (by omega)
  have key:∀ j,n - (i+1)<=j->j<n->ZY (fun k=>if k=n - (i+1) then ZY g (B (n - (i+1))) else g k) (B j)=ZY g (B j):=fun j hj1 hj2 =>
   yE (fun k hk1 hk2=>KR (by omega)) _ (hB j hj2).2 (hB j hj2).1
  refine ⟨fun k=>if k=n - (i+1) then ZY g (B (n - (i+1))) else g k,fun j hj1 hj2=>?_⟩
  rw [key j hj1 hj2]
  show (if j=n - (i+1) then ZY g (B (n - (i+1))) else g j)=_
  by_cases e:j=n - (i+1)
  ·rw [KQ e,e]
  ·rw [KR e];exact h2 j (by omega) hj2
theorem mx_dph {g:Nat->Nat}:∀ rs:List Rq,mx (rs.map fun r=>((r.dph g:Nat):Int))=((ZY g rs:Nat):Int)
 | []=>by rw [QJ,mx,ZY];rfl
 | r::rs=>by
  have:=mx_dph (g:=g) rs
  simp only [mx,Qk,PB,ZY] at *
  rw [this]
  omega
section
variable {dd:D} {f nb:Nat} {g:Nat->Nat} (hd:Tells dd f nb fun k=>((g k:Nat):Int))
include hd
theorem dp_step {n:Nat} {r:Rq} (ho:r.ok mm nb) (hf:r.lat f) (h:∀ x∈ZM r,(yT n).1 [.lst (qDs x),dd]=some (.int (ZY g x:Nat))):(yT (n+1)).2 [r.toD,dd]=some (.int (r.dph g:Nat)):=by
 refine Wo.eq ?_
 rw [show (yT (n+1)).2=ZE 2 2 (bq11 (yT n).1 (yT n).2) by rw [yT]]
 unfold bq11
 rw [ZZ]
 refine ⟨rfl,?_⟩
 simp only [Zd,zMap,zLen,List.replicate,zApp,QD,Nat.reduceAdd,Nat.reduceSub]
 generalize (yT n).1=m1 at h ⊢
 generalize (yT n).2=m2
 have Zg:∀ ρ:Ev,ρ=[some r.toD,some dd]->f2 yo (fC (.int 1)) (fA (Jo 0) (zk true (Zs 1 (zk true (fA mq7 (za (zc 0) zi))) (zI 2) Z2 (fA m1 (za (zc 2) (za (zc 1) zi)))))) ρ=some (.int (1+mx ((ZM r).map fun x=>((ZY g x:Nat):Int)))):=by
  rintro ρ rfl
  have ec:=Zw (k:=1) (fl:=zk true (fA mq7 (za (zc 0) zi))) (u:=zI 2) (c:=Z2) (e:=fA m1 (za (zc 2) (za (zc 1) zi))) (ρ:=[some r.toD,some dd]) ((ZM r).map fun x=>(.lst (qDs x),.int (ZY g x:Nat))) (fun ρ=>∃ z:Option D,ρ=[some r.toD,some dd,z])
   ((yf (fA1 rfl (wG r ho))).trans (by rw [Qt];rfl)) (by cases r <;> simp [ZM]) ⟨none,rfl⟩ (by
    rintro p ρ hp ⟨z,rfl⟩
    obtain ⟨x,hx,rfl⟩:=Qw.mp hp
    exact ⟨_,rfl,rfl,fA2 rfl rfl (h x hx),_,rfl⟩)
  refine f2v (y:=.int (mx ((ZM r).map fun x=>((ZY g x:Nat):Int)))) rfl ?_ rfl
  rw [fA_,yf ec,oB,Qt]
  exact (congrArg (Jo 0) (show List.map _ (ZM r)=((ZM r).map fun x=>((ZY g x:Nat):Int)).map D.int by rw [Qt];rfl)).trans (maxD_mx fun x hx=>by obtain ⟨y,_,rfl⟩:=Qw.mp hx;exact P8 _)
 have fin:∀ {x:Kw} {ps:List D},r.toD=.tup (.str x::ps)->x≠"call"->1+mx ((ZM r).map fun x=>((ZY g x:Nat):Int))=((r.dph g:Nat):Int)->Wo (zE (mIf (zw (f2 Ze (fIx (zk false (zc 0)) (fC (.int 0))) (fC (.str "call")))) (zR (fA gMax2 (za (fC (.int 1)) (za (f2 dGet (zc 1) (fIx (zk false (zc 0)) (fC (.int 1)))) zi)))) zV) (zR (f2 yo (fC (.int 1)) (fA (Jo 0) (zk true (Zs 1 (zk true (fA mq7 (za (zc 0) zi))) (zI 2) Z2 (fA m1 (za (zc 2) (za (zc 1) zi)))))))) [some r.toD,some dd]) (JA fun d=>d=.int (r.dph g:Nat)):=fun {x ps} e hx hq=>by
  rw [zx]
  refine Yt (by rw [e];exact kno rfl hx) ?_
  rw [Zk,zG,zu]
  exact Y5 (Zg _ rfl) (by rw [hq])
 cases r with
 | call k =>
  rw [Rq.ok] at ho
  rw [Rq.lat] at hf
  rw [yl,zx]
  refine if_t (kis rfl) ?_
  refine Y4 (fA2 (x:=.int 1) (y:=.int (g k:Nat)) rfl (f2v (y:=.int (k:Nat)) rfl (Z7 (yh (ZL rfl)) rfl (zL (j:=1) rfl)) (hd k hf ho)) (d:=.int (max 1 (g k):Nat)) ?_) (by rw [Rq.dph];exact rfl)
  show some (D.int (if ((g k:Nat):Int) > 1 then ((g k:Nat):Int) else 1))=_
  congr 2
  split <;> omega
 | one x ps =>
  rw [Rq.ok] at ho
  exact fin (yj x ps) ho.1.1 (by simp [ZM,mx,Rq.dph])
 | loop a=>exact fin (ye a) (by decide) (by simp only [ZM,Qk,QJ,mx,PB,List.foldr_nil,Rq.dph];omega)
 | either a b=>exact fin (ZB a b) (by decide) (by simp only [ZM,Qk,QJ,mx,PB,List.foldr_nil,Rq.dph];omega)
omit hd in
theorem dps_step {n:Nat} {rs:List Rq} (hl:rs.length<=100) (h:∀ r∈rs,(yT n).2 [r.toD,dd]=some (.int (r.dph g:Nat))):(yT (n+1)).1 [.lst (qDs rs),dd]=some (.int (ZY g rs:Nat)):=by
 rw [show (yT (n+1)).1=ZE 2 2 (bq10 (yT n).1 (yT n).2) by rw [yT]]
 refine wD rfl ?_
 unfold bq10
 generalize (yT n).1=m1
 generalize (yT n).2=m2 at h ⊢
 have ec:=Zw (k:=1) (fl:=zk true (zc 0)) (u:=zI 2) (c:=Z2) (e:=fA m2 (za (zc 2) (za (zc 1) zi))) (ρ:=[some (.lst (qDs rs)),some dd]) (rs.map fun r=>(r.toD,.int (r.dph g:Nat))) (fun ρ=>∃ z:Option D,ρ=[some (.lst (qDs rs)),some dd,z])
  ((yf (ds:=qDs rs) rfl).trans (by rw [Qt,jq];rfl)) (by rw [Qe];omega) ⟨none,rfl⟩ (by
   rintro p ρ hp ⟨z,rfl⟩
   obtain ⟨x,hx,rfl⟩:=Qw.mp hp
   exact ⟨_,rfl,rfl,fA2 rfl rfl (h x hx),_,rfl⟩)
 refine retE (d:=.int (ZY g rs:Nat)) ?_
 show fA (Jo 0) _ [some (.lst (qDs rs)),some dd]=_
 rw [fA_,yf ec,oB,Qt]
 exact (congrArg (Jo 0) (show List.map _ rs=(rs.map fun r=>((r.dph g:Nat):Int)).map D.int by rw [Qt];rfl)).trans ((maxD_mx fun x hx=>by obtain ⟨y,_,rfl⟩:=Qw.mp hx;exact P8 _).trans (by rw [mx_dph]))
theorem depth_all:∀ (h n:Nat),2*h+2<=n->∀ rs:List Rq,rks (fun _=>0) rs<=h->oks mm nb rs->Yg f rs->rs.length<=100->(yT n).1 [.lst (qDs rs),dd]=some (.int (ZY g rs:Nat)):=by
 intro h
 induction h with
 | zero =>
  intro n hn rs hk ho hf hl
  obtain ⟨n,rfl⟩:∃ m,n=m+2:=⟨n - 2,by omega⟩
  refine dps_step hl fun r hr=>dp_step hd (yb ho hr) (yt hf hr) fun x hx=>?_
  have h1:=yM (g:=fun _=>0) hr
  have h2:=(y9 (g:=fun _=>0) hx)
  omega
 | succ h ih =>
  intro n hn rs hk ho hf hl
  obtain ⟨n,rfl⟩:∃ m,n=m+2:=⟨n - 2,by omega⟩
  refine dps_step hl fun r hr=>dp_step hd (yb ho hr) (yt hf hr) fun x hx=>?_
  have h1:=yM (g:=fun _=>0) hr
  have h2:=(y9 (g:=fun _=>0) hx)
  obtain ⟨o1,o2,o3⟩:=subs_ok (yb ho hr) (yt hf hr) hx
  exact ih n (by omega) x (by omega) o1 o2 o3
end
abbrev bAt (bs:List (List Rq)) (j:Nat):List Rq:=bs.getD j []
structure Pg (mm:Nat) (bs:List (List Rq)) (N:Nat->Int) (Dp:Nat->Nat):Prop where
 ok:∀ j,j<bs.length->oks mm bs.length (bAt bs j)
 lat:∀ j,j<bs.length->Yg (j+1) (bAt bs j)
 len:∀ j,j<bs.length->(bAt bs j).length<=100
 low:∀ j,j<bs.length->rks (fun _=>0) (bAt bs j)<=6
 n:∀ j,j<bs.length->N j=nps N (bAt bs j)
 n39:∀ j,j<bs.length->N j<=39
 d:∀ j,j<bs.length->Dp j=ZY Dp (bAt bs j)
 d6:∀ j,j<bs.length->Dp j<=6
 pos:1<=bs.length
 few:bs.length<=4
theorem bsD_at {bs:List (List Rq)} {j:Nat} (h:j<bs.length):(bsD bs)[j]?=some (.lst (qDs (bAt bs j))):=by
 unfold bsD bAt
 rw [QO,QN h,List.getD_eq_getElem?_getD,QN h]
 rfl
section
variable {bs:List (List Rq)} {N:Nat->Int} {Dp:Nat->Nat} (hg:Pg mm bs N Dp)
include hg
theorem keep_ok:mq6 [.lst (bsD bs)]=some (.bl true):=by
 have hn:=hg.pos
 have hn4:=hg.few
 generalize hnb:bs.length=nb at *
 refine Wo.eq ?_
 unfold mq6 bq6
 rw [ZZ]
 refine ⟨rfl,?_⟩
 simp only [Zd,zMap,zLen,List.replicate,zApp,QD,Nat.reduceAdd,Nat.reduceSub]
 rw [zx]
 refine new_ rfl (by simp) ?_
 simp only [zSet,zu]
 rw [zx]
 refine new_ rfl (by simp) ?_
 simp only [zSet,zu]
 have er:gh (f2 wu (fA yP (zk true (zc 0))) (fC (.int 1))) (f1 wX (fC (.int 1))) [some (.lst (bsD bs)),some (.dict [] []),some (.dict [] []),none]=some (YK ((nb:Int) - 1) nb):=by
  have e1:f2 wu (fA yP (zk true (zc 0))) (fC (.int 1)) [some (.lst (bsD bs)),some (.dict [] []),some (.dict [] []),none]=some (.int ((nb:Int) - 1)):=f2v (x:=.int (nb:Nat)) (by show some (D.int ((bsD bs).length:Nat))=_;unfold bsD;rw [Qe,hnb]) rfl rfl
  unfold gh
  rw [e1,oB,show f1 wX (fC (.int 1)) [some (.lst (bsD bs)),some (.dict [] []),some (.dict [] []),none]=some (.int (-1)) from rfl,oB,asI_,oB,asI_,oB,KQ (by omega)]
  congr 2
  omega
 rw [zx,W4,er,oB]
 refine wo_for (fun i ρ=>i<=nb/\∃ (d1 d2:D) (z:Option D),ρ=[some (.lst (bsD bs)),some d1,some d2,z]/\Dc d1 i (upto nb i N)/\Dc d2 i (upto nb i fun k=>((Dp k:Nat):Int))) ⟨Q5 _,_,_,_,rfl,dc_as Dc.nil rfl fun k=>(KR (by omega)).symm,dc_as Dc.nil rfl fun k=>(KR (by omega)).symm⟩ ?_ ?_
 ·rintro i e ρ he ⟨hi,d1,d2,z,rfl,c1,c2⟩
  obtain ⟨hin,rfl⟩:=YJ he
  have ej:(nb:Int) - 1 - (i:Nat)=((nb - 1 - i:Nat):Int):=by omega
  rw [ej,uName_,zG]
  simp only [zSet]
  have hj:nb - 1 - i<bs.length:=by omega
  have t1:Tells d1 (nb - 1 - i+1) nb N:=fun k h1 h2=>c1.get (j6 (by omega) (by omega))
  have t2:Tells d2 (nb - 1 - i+1) nb fun k=>((Dp k:Nat):Int):=fun k h1 h2=>c2.get (j6 (by omega) (by omega))
  have ok:=hg.ok _ hj
  rw [hnb] at ok
  have v1:=new_all t1 12 60 (by omega) (bAt bs (nb - 1 - i)) (by have:=hg.low _ hj;omega) ok (hg.lat _ hj) (hg.len _ hj)
  rw [<- hg.n _ hj] at v1
  have v2:=depth_all t2 12 60 (by omega) (bAt bs (nb - 1 - i)) (by have:=hg.low _ hj;omega) ok (hg.lat _ hj) (hg.len _ hj)
  rw [<- hg.d _ hj] at v2
  have ba:=zL (bsD_at hj)
  rw [zx]
  refine dput_ (jJ (fA2 (Z7 (ds:=bsD bs) rfl rfl ba) rfl v1) rfl) rfl rfl c1 (by omega) fun d1' c1'=>?_
  simp only [zSet,zu]
  have k1:=dc_as c1' (KQ (upto_none (by omega))) (upto_up hin)
  rw [zx]
  refine dput_ (jJ (fA2 (Z7 (ds:=bsD bs) rfl rfl ba) rfl v2) rfl) rfl rfl c2 (by omega) fun d2' c2'=>?_
  simp only [zSet,zu]
  have k2:=dc_as c2' (KQ (upto_none (by omega))) (upto_up (g:=fun k=>((Dp k:Nat):Int)) hin)
  have g1:=k1.get (j:=nb - 1 - i) (j6 (by omega) (by omega))
  have g2:=k2.get (j:=nb - 1 - i) (j6 (by omega) (by omega))
  have b1:=hg.n39 _ hj
  have b2:=hg.d6 _ hj
  refine Yt (JP (zP (f2v (f2v (f2v rfl rfl g1) rfl wY) rfl (by rw [gt_,KU (by omega)]))) (zP (f2v (f2v rfl rfl g2) rfl (by rw [gt_,KU (by omega)])))) ?_
  exact ⟨_,rfl,hin,d1',d2',_,rfl,k1,k2⟩
 ·rintro ρ ⟨-,d1,d2,z,rfl,c1,c2⟩
  rw [zu]
  exact Y5 rfl rfl
theorem prog_good (hm:mm<=6):mq0 [prD mm bs]=some (.bl true):=by
 have hn:=hg.pos
 have hn4:=hg.few
 refine Wo.eq ?_
 unfold mq0 bq0
 rw [ZZ]
 refine ⟨rfl,?_⟩
 simp only [Zd,zMap,zLen,List.replicate,zApp,QD,Nat.reduceAdd,Nat.reduceSub]
 have bl:(bsD bs).length=bs.length:=by unfold bsD;rw [Qe]
 rw [zx]
 refine Yt (jG (zP (fA2 rfl rfl (JW _ 2 rfl)))) ?_
 rw [Zk,zG,zu,zx]
 refine yp (Z7 (yh (ZL rfl)) rfl (zL (j:=0) rfl)) ?_
 simp only [zSet,zu]
 rw [zx]
 refine yp (Z7 (yh (ZL rfl)) rfl (zL (j:=1) rfl)) ?_
 simp only [zSet,zu]
 rw [zx]
 refine Yt (JP (jG (zP (fA3 rfl rfl rfl (WX (by omega) (by omega))))) (jG (zP (f1v rfl rfl)))) ?_
 rw [Zk,zG,zu,zx]
 have el:∀ {z3 z4:Option D},fA yP (zk true (zc 2)) [some (prD mm bs),some (.int (mm:Nat)),some (.lst (bsD bs)),z3,z4]=some (.int (bs.length:Nat)):=by
  intro z3 z4
  show some (D.int ((bsD bs).length:Nat))=_
  rw [bl]
 have ec:y2 dLe dLe (fC (.int 1)) (fA yP (zk true (zc 2))) (fC (.int 4)) [some (prD mm bs),some (.int (mm:Nat)),some (.lst (bsD bs)),none,none]=some (.bl true):=by
  unfold y2
  show Option.bind (some (D.int 1)) _=_
  rw [oB,el,oB]
  have q1:dLe (.int 1) (.int (bs.length:Nat))=some (.bl true):=by show some (D.bl (decide ((1:Int)<=(bs.length:Nat))))=_;rw [KS (by omega)]
  have q2:dLe (.int (bs.length:Nat)) (.int 4)=some (.bl true):=by show some (D.bl (decide (((bs.length:Nat):Int)<=4)))=_;rw [KS (by omega)]
  rw [q1,oB]
  show Option.bind (some true) _=_
  rw [oB,KQ rfl]
  show Option.bind (some (D.int 4)) _=_
  rw [oB,q2]
 refine Yt (jG (zP ec)) ?_
 rw [Zk,zG,zu,zx,W4]
 rw [show fEnum (zk true (zc 2)) [some (prD mm bs),some (.int (mm:Nat)),some (.lst (bsD bs)),none,none]=some (enumD (bsD bs)) from rfl,oB]
 refine wo_for (fun i ρ=>∃ z3 z4:Option D,ρ=[some (prD mm bs),some (.int (mm:Nat)),some (.lst (bsD bs)),z3,z4]) ⟨none,none,rfl⟩ ?_ ?_
 ·rintro i e ρ he ⟨z3,z4,rfl⟩
  have hi:i<bs.length:=by
   have:=(Qs.mp he).1
   rw [Jc,bl] at this
   exact this
  rw [enumD_at (by rw [bl];exact hi)] at he
  have hx:=bsD_at hi
  rw [QN (by rw [bl];exact hi)] at hx
  injection hx with hx
  rw [hx] at he
  injection he with he
  subst he
  have ar:mq3 [.lst (qDs (bAt bs i)),.int (mm:Nat),.int ((i+1:Nat):Int),.int ((bs.length:Nat) - 1:Int)]=some (.bl true):=rows_all hm 12 60 (by omega) _ (by have:=hg.low i hi;omega) (hg.ok i hi) (hg.lat i hi) (hg.len i hi)
  refine ⟨[some (prD mm bs),some (.int (mm:Nat)),some (.lst (bsD bs)),some (.int (i:Nat)),some (.lst (qDs (bAt bs i)))],rfl,?_⟩
  refine Yt (jG (zP (fA4 rfl rfl (z:=.int ((i+1:Nat):Int)) (f2v rfl rfl rfl) (f2v el rfl rfl) ar))) ?_
  exact ⟨_,rfl,_,_,rfl⟩
 ·rintro ρ ⟨z3,z4,rfl⟩
  rw [zu]
  exact Y5 (fA1 rfl (keep_ok hg)) rfl
end
open RW (Py Fi Sc wt wts names j5)
variable {mm:Nat}
theorem W6:∀ (l:List (Nat×Int)) (s j:Nat),(∀ i,i<l.length->(l.getD i (0,0)).1=s+i)->j<s->yg l j=0
 | [],_,_,_,_=>by rw [yg]
 | p::l,s,j,h,hj=>by
  have h0:p.1=s+0:=h 0 (by simp)
  rw [yg,KR (by omega),W6 l (s+1) j (fun i hi=>(show (l.getD i (0,0)).1=s+(i+1) from h (i+1) (by simpa using hi)).trans (by omega)) (by omega)]
  rfl
theorem lateC_at:∀ (l:List (Nat×Int)) (s j:Nat),(∀ i,i<l.length->(l.getD i (0,0)).1=s+i)->s<=j->j<s+l.length->yg l j=(l.getD (j - s) (0,0)).2
 | [],s,j,_,h1,h2=>by simp at h2;omega
 | p::l,s,j,h,h1,h2=>by
  have h0:p.1=s+0:=h 0 (by simp)
  have hl:∀ i,i<l.length->(l.getD i (0,0)).1=s+1+i:=fun i hi=>(show (l.getD i (0,0)).1=s+(i+1) from h (i+1) (by simpa using hi)).trans (by omega)
  simp only [Qg] at h2
  by_cases e:j=s
  ·subst e
   rw [yg,KQ (by omega),W6 l (j+1) j hl (by omega),Nat.sub_self]
   simp
  ·rw [yg,KR (by omega),lateC_at l (s+1) j hl (by omega) (by omega)]
   obtain ⟨k,rfl⟩:∃ k,j=s+1+k:=⟨j - (s+1),by omega⟩
   rw [show s+1+k - (s+1)=k by omega,show s+1+k - s=k+1 by omega]
   simp
theorem getD_drop (l:List (Nat×Int)) (a i:Nat):(l.drop a).getD i (0,0)=l.getD (a+i) (0,0):=by simp [List.getD,P7]
structure Bse (mm n:Nat) (B:Nat->List Rq) (N:Nat->Int) (Dp:Nat->Nat):Prop where
 ok:∀ k,k<n->oks mm n (B k)
 lat:∀ k,k<n->Yg (k+1) (B k)
 dp:∀ k,k<n->ZY r1 (B k)<=6
 len:∀ k,k<n->(B k).length<=100
 nd:∀ k,k<n->nds (qDs (B k))<=40
 nn:∀ k,k<n->N k=nps N (B k)
 n39:∀ k,k<n->N k<=39
 d:∀ k,k<n->Dp k=ZY Dp (B k)
 d6:∀ k,k<n->Dp k<=6
theorem base_ok {L:List (List D)} {KK:List (Nat×Int)} (h1:1<=L.length) (h4:L.length<=4) (hG:∀ k,k<L.length->BodG mm L.length k (L.getD k [])) (hll:KK.length=L.length) (hct:∀ t,t<L.length->Ct L.length L.length 36 L KK t):∃ B N Dp,Bse mm L.length B N Dp/\∀ k,k<L.length->L.getD k []=qDs (B k):=by
 have hex:∀ k:Nat,∃ ts:List Rq,k<L.length->L.getD k []=qDs ts/\oks mm L.length ts/\Yg (k+1) ts/\ZY r1 ts<=hb L.length k/\ts.length<=20:=fun k=>by
  by_cases hk:k<L.length
  ·obtain ⟨ts,a,b,c,d,e⟩:=jz (hG k hk).gq
   exact ⟨ts,fun _=>⟨a,b,c,d,by rw [e];exact (hG k hk).len⟩⟩
  ·exact ⟨[],fun z=>absurd z hk⟩
 obtain ⟨B,hq⟩:=Classical.axiomOfChoice hex
 obtain ⟨n,hn⟩:∃ n,n=L.length:=⟨_,rfl⟩
 rw [<- hn] at hq hct hll h1 h4 hG ⊢
 have hok:=fun k hk=>(hq k hk).2.1
 have hlat:=fun k hk=>(hq k hk).2.2.1
 obtain ⟨U,hU⟩:∃ U:Nat->Int,∀ k,U k=(KK.getD k (0,0)).2:=⟨_,fun _=>rfl⟩
 have key:∀ t,t<n->csL (yg (KK.drop (t+1))) (L.getD t [])=nps U (B t):=fun t ht=>by
  rw [(hq t ht).1,YD (mm:=mm) (nb:=n) _ (hok t ht)]
  refine ZN (mm:=mm) (f:=t+1) (nb:=n) (fun k k1 k2=>?_) _ (hlat t ht) (hok t ht)
  rw [lateC_at (KK.drop (t+1)) (t+1) k (fun i hi=>?_) k1 (by rw [Pe];omega),getD_drop,hU]
  ·congr 2
   omega
  ·rw [Pe] at hi
   rw [getD_drop]
   have:=(hct (t+1+i) (by omega)).1
   omega
 have hc:∀ t,t<n->U t<=36/\(nps U (B t)=U t\/(n=1/\nps U (B t)=U t+3)):=fun t ht=>by
  obtain ⟨_,c2,c3⟩:=hct t ht
  rw [key t ht,<- hU] at c3
  rw [<- hU] at c2
  exact ⟨c2,c3⟩
 obtain ⟨N,hN⟩:∃ N:Nat->Int,∀ k,N k=nps U (B k):=⟨_,fun _=>rfl⟩
 have hNU:∀ k,1<=k->k<n->U k=N k:=fun k k1 k2=>by
  rw [hN]
  rcases (hc k k2).2 with q | ⟨q,_⟩
  ·exact q.symm
  ·omega
 have hNN:∀ k,k<n->N k=nps N (B k):=fun k hk=>by
  rw [hN]
  exact ZN (mm:=mm) (f:=k+1) (nb:=n) (fun j j1 j2=>hNU j (by omega) j2) _ (hlat k hk) (hok k hk)
 obtain ⟨Dp,hD⟩:=fixD_ex (mm:=mm) (B:=B) (n:=n) fun j hj=>⟨hok j hj,hlat j hj⟩
 have low:∀ i,i<=n->∀ j,n - i<=j->j<n->1<=j->Dp j<=n+1 - j:=by
  intro i
  induction i with
  | zero=>intro _ j a b _;omega
  | succ i ih =>
   intro hi j a b c
   have hb2:=(hq j b).2.2.2.1
   have h2:hb n j=2:=by unfold hb;rw [KR (by omega)]
   by_cases e:n - i<=j
   ·exact ih (by omega) j e b c
   ·have:=jC (mm:=mm) (g:=Dp) (c:=n - 1 - j) (f:=j+1) (nb:=n) (fun l l1 l2=>by have:=ih (by omega) l (by omega) l2 (by omega);omega) (B j) (hlat j b) (hok j b)
    rw [hD j b]
    omega
 have d6:∀ k,k<n->Dp k<=6:=fun k hk=>by
  by_cases h0:k=0
  ·subst h0
   rw [hD 0 hk]
   have hb':=(hq 0 hk).2.2.2.1
   by_cases hn1:n=1
   ·have:=jC (mm:=mm) (g:=Dp) (c:=0) (f:=1) (nb:=n) (fun j j1 j2=>by omega) (B 0) (hlat 0 hk) (hok 0 hk)
    have h6:hb n 0=6:=by unfold hb;rw [KQ rfl,KQ hn1]
    omega
   ·have:=jC (mm:=mm) (g:=Dp) (c:=3) (f:=1) (nb:=n) (fun j j1 j2=>by have:=low n (Ql _) j (by omega) j2 j1;omega) (B 0) (hlat 0 hk) (hok 0 hk)
    have h6:hb n 0=3:=by unfold hb;rw [KQ rfl,KR hn1]
    omega
  ·have:=low n (Ql _) k (by omega) hk (by omega)
   omega
 refine ⟨B,N,Dp,⟨hok,hlat,fun k hk=>?_,fun k hk=>by have:=(hq k hk).2.2.2.2;omega,fun k hk=>?_,hNN,fun k hk=>?_,hD,d6⟩,fun k hk=>(hq k hk).1⟩
 ·have:=(hq k hk).2.2.2.1
  have:hb n k<=6:=by unfold hb;split <;> (try split) <;> omega
  omega
 ·have:=(hG k hk).nd
  rw [<- (hq k hk).1]
  split at this <;> omega
 ·rw [hN]
  obtain ⟨c1,c2⟩:=hc k hk
  rcases c2 with c2 | ⟨_,c2⟩ <;> omega
mutual
theorem ok_up {n m:Nat} (h:n<=m):∀ r:Rq,r.ok mm n->r.ok mm m
 | .one _ _,o=>by rw [Rq.ok] at o ⊢;exact o
 | .call k,o=>by rw [Rq.ok] at o ⊢;omega
 | .loop rs,o=>by rw [Rq.ok] at o ⊢;exact ⟨WW h rs o.1,o.2⟩
 | .either a b,o=>by rw [Rq.ok] at o ⊢;exact ⟨⟨WW h a o.1.1,o.1.2⟩,WW h b o.2.1,o.2.2⟩
theorem WW {n m:Nat} (h:n<=m):∀ rs:List Rq,oks mm n rs->oks mm m rs
 | [],_=>by rw [oks];trivial
 | r::rs,o=>by rw [oks] at o ⊢;exact ⟨ok_up h r o.1,WW h rs o.2⟩
end
theorem Bse.ext {n:Nat} {B:Nat->List Rq} {N:Nat->Int} {Dp:Nat->Nat} (h:Bse mm n B N Dp) {ts:List Rq} (o:oks mm (n+1) ts) (l:Yg (n+1) ts) (hd:ZY r1 ts<=6) (hl:ts.length<=100) (hn:nds (qDs ts)<=40) (h39:nps (fun _=>0) ts<=39):Bse mm (n+1) (fun k=>if k<n then B k else ts) (fun k=>if k<n then N k else nps (fun _=>0) ts) (fun k=>if k<n then Dp k else ZY r1 ts):=by
 have cs:∀ {P:Nat->Prop},(∀ k,k<n->P k)->P n->∀ k,k<n+1->P k:=fun a b k hk=>by
  by_cases e:k<n
  ·exact a k e
  ·rw [show k=n by omega];exact b
 have bn:(if n<n then B n else ts)=ts:=KR (by omega)
 refine ⟨cs (fun k hk=>?_) ?_,cs (fun k hk=>?_) ?_,cs (fun k hk=>?_) ?_,cs (fun k hk=>?_) ?_,cs (fun k hk=>?_) ?_,cs (fun k hk=>?_) ?_,cs (fun k hk=>?_) ?_,cs (fun k hk=>?_) ?_,cs (fun k hk=>?_) ?_⟩
 all_goals first
  | (simp only [KQ hk])
  | (simp only [QV,if_false])
 ·exact WW (by omega) _ (h.ok k hk)
 ·exact o
 ·exact h.lat k hk
 ·exact l
 ·exact h.dp k hk
 ·exact hd
 ·exact h.len k hk
 ·exact hl
 ·exact h.nd k hk
 ·exact hn
 ·rw [h.nn k hk]
  exact ZN (mm:=mm) (f:=k+1) (nb:=n) (fun j _ j2=>(KQ j2).symm) _ (h.lat k hk) (h.ok k hk)
 ·exact ZN (mm:=mm) (f:=n+1) (nb:=n+1) (fun j j1 j2=>by omega) _ l o
 ·exact h.n39 k hk
 ·exact h39
 ·rw [h.d k hk]
  exact yE (mm:=mm) (f:=k+1) (nb:=n) (fun j _ j2=>(KQ j2).symm) _ (h.lat k hk) (h.ok k hk)
 ·exact yE (mm:=mm) (f:=n+1) (nb:=n+1) (fun j j1 j2=>by omega) _ l o
 ·exact h.d6 k hk
 ·exact hd
theorem bAt_range {n:Nat} {B:Nat->List Rq} {j:Nat} (h:j<n):bAt ((List.range n).map B) j=B j:=by
 unfold bAt
 rw [List.getD_eq_getElem?_getD,QO,List.getElem?_range h]
 rfl
theorem Bse.pg {n:Nat} {B:Nat->List Rq} {N:Nat->Int} {Dp:Nat->Nat} (h:Bse mm n B N Dp) (h1:1<=n) (h4:n<=4):Pg mm ((List.range n).map B) N Dp:=by
 have hl:((List.range n).map B).length=n:=by simp
 refine ⟨?_,?_,?_,?_,?_,?_,?_,?_,by omega,by omega⟩ <;> rw [hl] <;> intro j hj <;> (try rw [bAt_range hj])
 ·exact h.ok j hj
 ·exact h.lat j hj
 ·exact h.len j hj
 ·exact QA (j9 _) (h.dp j hj)
 ·exact h.nn j hj
 ·exact h.n39 j hj
 ·exact h.d j hj
 ·exact h.d6 j hj
theorem Bse.pb {n:Nat} {B:Nat->List Rq} {N:Nat->Int} {Dp:Nat->Nat} (h:Bse mm n B N Dp) (h4:n<=4):Pb mm n ((List.range n).map B):=by
 have mem:∀ {P:List Rq->Prop},(∀ k,k<n->P (B k))->∀ b∈(List.range n).map B,P b:=fun hp b hb=>by
  obtain ⟨k,hk,rfl⟩:=Qw.mp hb
  exact hp k (PX.mp hk)
 exact ⟨mem h.ok,by omega,by simp;omega,mem fun k hk=>QA (j9 _) (h.dp k hk),mem fun k hk=>QA (JI _) (by have:=h.nd k hk;omega)⟩
variable {mm:Nat}
theorem zip_self:∀ {ds:List D} {p:D},p∈zipD ds ds->∃ r∈ds,p=.tup [r,r]
 | [],p,h=>by simp [zipD] at h
 | d::ds,p,h=>by
  rw [zipD] at h
  rcases Qa.mp h with rfl | h
  ·exact ⟨d,Qj,rfl⟩
  ·obtain ⟨r,hr,e⟩:=zip_self h
   exact ⟨r,Qc _ hr,e⟩
theorem zip_len2 (ds:List D):(zipD ds ds).length=ds.length:=by unfold zipD;rw [PD];omega
theorem ne_bl {b:Bool}:je (.bl b) (.bl b)=some (.bl false):=by cases b <;> rfl
theorem al_leaf {n:Nat} {d:D} (h:(∃ i,d=.int i)\/∃ x,d=.str x/\PyData.strOk x=true):Ji (n+1) [d,d]=some (.bl true):=by
 refine Wo.eq ?_
 rw [Ji]
 unfold bq28
 rw [ZZ]
 refine ⟨rfl,?_⟩
 simp only [Zd,zMap,zLen,List.replicate,zApp,QD,Nat.reduceAdd,Nat.reduceSub]
 have i2:gIsi2 d=some (.bl false):=by rcases h with ⟨i,rfl⟩ | ⟨x,rfl,_⟩ <;> rfl
 have ib:yu "bool" d=some (.bl false):=by rcases h with ⟨i,rfl⟩ | ⟨x,rfl,_⟩ <;> rfl
 obtain ⟨b,is⟩:∃ b,yu "str" d=some (.bl b):=by rcases h with ⟨i,rfl⟩ | ⟨x,rfl,_⟩ <;> exact ⟨_,rfl⟩
 have py:Py 0 d:=by
  rcases h with ⟨i,rfl⟩ | ⟨x,rfl,hx⟩
  ·exact .int _ _
  ·exact py_str hx 0
 rw [zx]
 refine Yt (zP (f1v rfl i2)) ?_
 rw [Zk,zG,zu,zx]
 refine Yt (JP (zP (f1v rfl ib)) (zP (f2v (f1v rfl is) (f1v rfl is) ne_bl))) ?_
 rw [Zk,zG,zu]
 exact Y5 (f2v rfl rfl (py.eq (by omega))) rfl
theorem Yv {n:Nat} {d:D} {ds:List D} (hd:d=.tup ds\/d=.lst ds) (hl:ds.length<=1000) (h:∀ r∈ds,Ji n [r,r]=some (.bl true)):Ji (n+1) [d,d]=some (.bl true):=by
 refine Wo.eq ?_
 rw [Ji]
 unfold bq28
 rw [ZZ]
 refine ⟨rfl,?_⟩
 simp only [Zd,zMap,zLen,List.replicate,zApp,QD,Nat.reduceAdd,Nat.reduceSub]
 generalize Ji n=R at h ⊢
 have i2:gIsi2 d=some (.bl true):=by rcases hd with rfl | rfl <;> rfl
 obtain ⟨b,it⟩:∃ b,yu "tuple" d=some (.bl b):=by rcases hd with rfl | rfl <;> exact ⟨_,rfl⟩
 have an:fAny (zc 0) [some d,some d]=some ds/\fAny (zc 1) [some d,some d]=some ds/\fZipA (zc 0) (zc 1) [some d,some d]=some (zipD ds ds):=by rcases hd with rfl | rfl <;> exact ⟨rfl,rfl,rfl⟩
 rw [zx]
 refine if_t (zP (f1v rfl i2)) ?_
 rw [zx]
 refine Yt (JP (zP (f2v (f1v rfl it) (f1v rfl it) ne_bl)) (jG (zP (f1v rfl i2)))) ?_
 rw [Zk,zG,zu,zx]
 refine Yt (zP (f2v (x:=.int (ds.length:Nat)) (y:=.int (ds.length:Nat)) (by rw [fA_,an.1];rfl) (by rw [fA_,an.2.1];rfl) (by show some (D.bl (!decide _))=_;rw [KS rfl];rfl))) ?_
 rw [Zk,zG,zu]
 refine Y4 ?_ (show D.bl true=.bl true from rfl)
 refine all_of (zipD ds ds) (fun ρ=>∃ z z':Option D,ρ=[some d,some d,z,z']) an.2.2 (by rw [zip_len2];exact hl) ⟨none,none,rfl⟩ ?_
 rintro p ρ hp ⟨z,z',rfl⟩
 obtain ⟨r,hr,rfl⟩:=zip_self hp
 exact ⟨[some d,some d,some r,some r],rfl,fA2 rfl rfl (h r hr),_,_,rfl⟩
theorem gy (i:Int):∀ n,1<=n->Ji n [.int i,.int i]=some (.bl true):=fun n hn=>by
 obtain ⟨n,rfl⟩:∃ m,n=m+1:=⟨n - 1,by omega⟩
 exact al_leaf (.inl ⟨i,rfl⟩)
theorem al_str {x:Kw} (h:PyData.strOk x=true):∀ n,1<=n->Ji n [.str x,.str x]=some (.bl true):=fun n hn=>by
 obtain ⟨n,rfl⟩:∃ m,n=m+1:=⟨n - 1,by omega⟩
 exact al_leaf (.inr ⟨x,rfl,h⟩)
mutual
theorem al_row (hm:mm<=6) {nb:Nat}:∀ (r:Rq),r.ok mm nb->∀ n,2*r.rk r0+4<=n->Ji n [r.toD,r.toD]=some (.bl true)
 | .one x ps,o,n,hn=>by
  rw [Rq.ok] at o
  obtain ⟨n,rfl⟩:∃ m,n=m+1:=⟨n - 1,by omega⟩
  rw [yj]
  rw [Rq.rk] at hn
  have hx:PyData.strOk x=true/\ps.length<=10/\∀ p∈ps,Ji n [p,p]=some (.bl true):=by
   refine ⟨?_,o.2.1,?_⟩
   ·rcases o.2.2.2.2 with ⟨rfl,_⟩ | ⟨rfl,_⟩ | ⟨b,rfl,_⟩ | ⟨b,ns,rfl,_⟩ <;> decide +kernel
   ·rcases o.2.2.2.2 with ⟨_,rfl⟩ | ⟨_,rfl⟩ | ⟨b,_,rfl,_⟩ | ⟨b,ns,_,rfl,hb,hl,_⟩
    ·exact fun p hp=>by cases hp
    ·exact fun p hp=>by cases hp
    ·exact fun p hp=>by rw [Qm.mp hp];exact gy _ n (by omega)
    ·intro p hp
     simp only [Qa,Qi,or_false] at hp
     have hl2:=o.2.1
     rcases hp with rfl | rfl
     ·exact gy _ n (by omega)
     ·obtain ⟨n,rfl⟩:∃ m,n=m+1:=⟨n - 1,by omega⟩
      refine Yv (.inl rfl) ?_ fun q hq=>?_
      ·rw [Qe];omega
      ·obtain ⟨i,_,rfl⟩:=Qw.mp hq
       exact gy i n (by omega)
  refine Yv (.inl rfl) (by simp only [Qg];omega) fun p hp=>?_
  rcases Qa.mp hp with rfl | hp
  ·exact al_str hx.1 n (by omega)
  ·exact hx.2.2 p hp
 | .call k,o,n,hn=>by
  obtain ⟨n,rfl⟩:∃ m,n=m+1:=⟨n - 1,by omega⟩
  rw [yl]
  refine Yv (.inl rfl) (by simp) fun p hp=>?_
  simp only [Qa,Qi,or_false] at hp
  rcases hp with rfl | rfl
  ·exact al_str (by decide +kernel) n (by omega)
  ·exact gy _ n (by omega)
 | .loop a,o,n,hn=>by
  rw [Rq.ok] at o
  rw [Rq.rk] at hn
  obtain ⟨n,rfl⟩:∃ m,n=m+1:=⟨n - 1,by omega⟩
  rw [ye]
  refine Yv (.inl rfl) (by simp) fun p hp=>?_
  simp only [Qa,Qi,or_false] at hp
  rcases hp with rfl | rfl
  ·exact al_str (by decide +kernel) n (by omega)
  ·exact Wp hm a o.1 o.2 n (by omega)
 | .either a b,o,n,hn=>by
  rw [Rq.ok] at o
  rw [Rq.rk] at hn
  obtain ⟨n,rfl⟩:∃ m,n=m+1:=⟨n - 1,by omega⟩
  rw [ZB]
  refine Yv (.inl rfl) (by simp) fun p hp=>?_
  simp only [Qa,Qi,or_false] at hp
  rcases hp with rfl | rfl | rfl
  ·exact al_str (by decide +kernel) n (by omega)
  ·exact Wp hm a o.1.1 o.1.2 n (by omega)
  ·exact Wp hm b o.2.1 o.2.2 n (by omega)
theorem Wp (hm:mm<=6) {nb:Nat}:∀ (rs:List Rq),oks mm nb rs->rs.length<=100->∀ n,2*rks r0 rs+5<=n->Ji n [.lst (qDs rs),.lst (qDs rs)]=some (.bl true)
 | [],o,hl,n,hn=>by
  obtain ⟨n,rfl⟩:∃ m,n=m+1:=⟨n - 1,by omega⟩
  exact Yv (ds:=qDs []) (.inr rfl) (by rw [jT];simp) fun p hp=>by rw [qDs] at hp;cases hp
 | r::rs,o,hl,n,hn=>by
  rw [oks] at o
  rw [rks] at hn
  obtain ⟨n,rfl⟩:∃ m,n=m+1:=⟨n - 1,by omega⟩
  refine Yv (ds:=qDs (r::rs)) (.inr rfl) (by rw [jT];omega) fun p hp=>?_
  rw [qDs] at hp
  rcases Qa.mp hp with rfl | hp
  ·exact al_row hm r o.1 n (by omega)
  ·exact al_mem hm rs o.2 n (by omega) p hp
theorem al_mem (hm:mm<=6) {nb:Nat}:∀ (rs:List Rq),oks mm nb rs->∀ n,2*rks r0 rs+4<=n->∀ p∈qDs rs,Ji n [p,p]=some (.bl true)
 | [],o,n,hn,p,hp=>by rw [qDs] at hp;cases hp
 | r::rs,o,n,hn,p,hp=>by
  rw [oks] at o
  rw [rks] at hn
  rw [qDs] at hp
  rcases Qa.mp hp with rfl | hp
  ·exact al_row hm r o.1 n (by omega)
  ·exact al_mem hm rs o.2 n (by omega) p hp
end
theorem alike_ok (hm:mm<=6) {KM nb:Nat} {bs:List (List Rq)} (hp:Pb mm nb bs) (hb:∀ b∈bs,b.length<=100):mq28 [prD KM bs,prD KM bs]=some (.bl true):=by
 refine Yv (n:=59) (.inl rfl) (by simp) fun p h=>?_
 simp only [Qa,Qi,or_false] at h
 rcases h with rfl | rfl
 ·exact gy _ 59 (by omega)
 ·refine Yv (n:=58) (ds:=bsD bs) (.inr rfl) (by unfold bsD;rw [Qe];have:=hp.num;omega) fun p h=>?_
  obtain ⟨b,h',rfl⟩:=Qw.mp h
  exact Wp hm b (hp.ok b h') (hb b h') 58 (by have:=hp.low b h';omega)
variable {mm:Nat}
def yF:List D:=[.tup [.str "loop",.lst [.tup [.str "either",.lst [.tup [.str "halt"]],.lst []]]],.tup [.str "skip"]]
theorem halt_g {nb f:Nat}:Gq mm nb f 1 (.tup [.str "halt"]):=(j8 (mm:=mm) (ps:=[]) (by decide) (by decide) (by simp) (by simp) (by simp) (by simp only [yI,wts,Yj];omega) (by simp [nds]) (.inr (.inl ⟨rfl,rfl⟩))).gq (by omega)
theorem skip_g {nb f:Nat}:Gq mm nb f 1 (.tup [.str "skip"]):=(j8 (mm:=mm) (ps:=[]) (by decide) (by decide) (by simp) (by simp) (by simp) (by simp only [yI,wts,Yj];omega) (by simp [nds]) (.inl ⟨rfl,rfl⟩)).gq (by omega)
theorem last_g {nb f:Nat}:∀ r∈yF,Gq mm nb f 3 r:=fun r hr=>by
 have e:Gq mm nb f 2 (.tup [.str "either",.lst [.tup [.str "halt"]],.lst []]):=Y9 (n:=1) (by simp) (fun r hr=>by rw [Qm.mp hr];exact halt_g) (by simp) (fun r hr=>by cases hr)
 unfold yF at hr
 simp only [Qa,Qi,or_false] at hr
 rcases hr with rfl | rfl
 ·exact gq_loop (n:=2) (by simp) fun r hr=>by rw [Qm.mp hr];exact e
 ·exact skip_g.mono (by omega)
theorem take3 {t:Nat} (h:t<=2):t=0\/t=1\/t=2:=by omega
theorem nd_last {t:Nat} (h:t<=2):nds (yF.take t)<=40/\wts (yF.take t)<=2500:=by
 rcases take3 h with rfl | rfl | rfl
 ·simp [yF,nds,wts]
 ·simp only [yF,List.take_succ_cons,List.take_zero,nds,yZ,jw,jv,wts,yI,jL,Yj];omega
 ·simp only [yF,List.take_succ_cons,List.take_zero,nds,yZ,jw,jv,wts,yI,jL,Yj];omega
theorem cs_last {t:Nat} (h:t<=2):csL (fun _=>0) (yF.take t)<=39:=by
 rcases take3 h with rfl | rfl | rfl
 ·simp [yF,csL]
 ·simp [yF,csL,jE,Jw,Jv,wc]
 ·simp [yF,csL,jE,Jw,Jv,wc]
theorem fi_of {L:List (List D)} (h4:L.length<=5) (hG:∀ b∈L,(∀ r∈b,Fi 17 r)/\wts b<=2500) {KM:Nat} (hm:KM<=6):Fi 20 (.tup [.int (KM:Nat),.lst (L.map .lst)])/\wt (.tup [.int (KM:Nat),.lst (L.map .lst)])<=200000:=by
 refine ⟨jZ (n:=19) fun r hr=>?_,?_⟩
 ·simp only [Qa,Qi,or_false] at hr
  rcases hr with rfl | rfl
  ·exact .int (QA (m:=10) (by omega) (by decide)) _
  ·refine fi_lst (n:=18) fun r hr=>?_
   obtain ⟨b,hb,rfl⟩:=Qw.mp hr
   exact fi_lst (n:=17) (hG b hb).1
 ·have sum:∀ l:List (List D),(∀ b∈l,wts b<=2500)->wts (l.map D.lst)<=2501*l.length:=by
   intro l
   induction l with
   | nil=>intro _;simp [wts]
   | cons b l ih =>
    intro h
    have:=ih fun x hx=>h x (Qc _ hx)
    have:=h b Qj
    rw [Qk,wts,jL,Qg]
    omega
  have:=sum L fun b hb=>(hG b hb).2
  simp only [yI,wts,wt_int,jL]
  omega
theorem bs_of {L:List (List D)} {B:Nat->List Rq} (h:∀ k,k<L.length->L.getD k []=qDs (B k)):L.map D.lst=bsD ((List.range L.length).map B):=by
 unfold bsD
 refine List.ext_getElem (by simp) fun k hk1 hk2=>?_
 rw [Qe] at hk1
 have:=h k hk1
 rw [List.getElem_map,List.getElem_map,List.getElem_map,List.getElem_range,<- this]
 congr 1
 simp [List.getD,hk1]
structure Fin (mm:Nat) (bs:List (List Rq)):Prop where
 pb:Pb mm bs.length bs
 len:∀ b∈bs,b.length<=100
 ip:mq0 [prD mm bs]=some (.bl true)
 fi:Fi 20 (prD mm bs)
 wt:wt (prD mm bs)<=200000
 one:∃ b r,bs=b::r
theorem fin_of (hm:mm<=6) {n:Nat} {B:Nat->List Rq} {N:Nat->Int} {Dp:Nat->Nat} (h:Bse mm n B N Dp) (h1:1<=n) (h4:n<=4) (hf:Fi 20 (prD mm ((List.range n).map B))/\wt (prD mm ((List.range n).map B))<=200000):Fin mm ((List.range n).map B):=by
 have hl:((List.range n).map B).length=n:=by simp
 refine ⟨by rw [hl];exact h.pb h4,fun b hb=>?_,prog_good (h.pg h1 h4) hm,hf.1,hf.2,?_⟩
 ·obtain ⟨k,hk,rfl⟩:=Qw.mp hb
  exact h.len k (PX.mp hk)
 ·cases e:(List.range n).map B with
  | nil=>rw [e] at hl;simp at hl;omega
  | cons b r=>exact ⟨b,r,rfl⟩
theorem drawn (hm:mm<=6) {L:List (List D)} {KK:List (Nat×Int)} (h1:1<=L.length) (h4:L.length<=4) (hG:∀ k,k<L.length->BodG mm L.length k (L.getD k [])) (hll:KK.length=L.length) (hct:∀ t,t<L.length->Ct L.length L.length 36 L KK t) {t:Nat} (ht:t<=2) :
  (∃ bs,D.tup [.int (mm:Nat),.lst (L.map .lst)]=prD mm bs/\Fin mm bs)/\(L.length<4->∃ bs,D.tup [.int (mm:Nat),.lst (L.map .lst++[.lst (yF.take t)])]=prD mm bs/\Fin mm bs):=by
 obtain ⟨B,N,Dp,hB,hq⟩:=base_ok h1 h4 hG hll hct
 have mem:∀ b∈L,(∀ r∈b,Fi 17 r)/\wts b<=2500:=fun b hbm=>by
  obtain ⟨k,hk,e⟩:=List.getElem_of_mem hbm
  have e':b=L.getD k []:=by simp [List.getD,hk,e]
  have g:=hG k hk
  rw [<- e'] at g
  have hbl:hb L.length k<=6:=by unfold hb;split <;> (try split) <;> omega
  exact ⟨fun r hr=>by obtain ⟨_,_,_,_,_,q⟩:=(g.gq r hr).mono hbl;exact q.mono (by omega),g.wt⟩
 have e0:=bs_of hq
 refine ⟨⟨_,by rw [e0],fin_of hm hB h1 h4 (by have:=fi_of (by omega) mem hm;rw [e0] at this;exact this)⟩,fun h3=>?_⟩
 have hg:∀ r∈yF.take t,Gq mm (L.length+1) (L.length+1) 3 r:=fun r hr=>last_g r (List.mem_of_mem_take hr)
 obtain ⟨ts,a,b,c,d,e⟩:=jz hg
 have hnd:=nd_last ht
 have hcs:=cs_last ht
 have hB':=hB.ext b c (by omega) (by rw [e,Q3];omega) (by rw [<- a];exact hnd.1) (by rw [<- YD (mm:=mm) (nb:=L.length+1) ts b,<- a];exact hcs)
 have e1:(L++[yF.take t]).map D.lst=bsD ((List.range (L++[yF.take t]).length).map fun k=>if k<L.length then B k else ts):=bs_of fun k hk=>by
  rw [Qf,Qv] at hk
  by_cases hl:k<L.length
  ·rw [KQ hl,<- hq k hl]
   simp [List.getD,QM hl]
  ·rw [KR hl,<- a,show k=L.length by omega]
   simp [List.getD]
 rw [Qf,Qv] at e1
 have mem':∀ b∈L++[yF.take t],(∀ r∈b,Fi 17 r)/\wts b<=2500:=fun b hb=>by
  rcases Qq.mp hb with hb | hb
  ·exact mem b hb
  ·rw [Qm.mp hb]
   exact ⟨fun r hr=>by obtain ⟨_,_,_,_,_,q⟩:=hg r hr;exact q.mono (by omega),hnd.2⟩
 have hf:=fi_of (L:=L++[yF.take t]) (by simp;omega) mem' hm
 rw [e1] at hf
 refine ⟨_,?_,fin_of hm hB' (by omega) (by omega) hf⟩
 show _=D.tup [.int (mm:Nat),.lst (bsD ((List.range (L.length+1)).map fun k=>if k<L.length then B k else ts))]
 rw [<- e1,Qz]
 rfl
theorem last_v {ρ:Ev} {f:Ev->Option D} {t:Nat} (e:f ρ=some (.int (t:Nat))):wn .lst (zk true (Za (za (ZO (za (fC (.str "loop")) (za (Za (za (ZO (za (fC (.str "either")) (za (Za (za (ZO (za (fC (.str "halt")) zi)) zi)) (za (Za zi) zi)))) zi)) zi))) (za (ZO (za (fC (.str "skip")) zi)) zi)))) fNo (yv f) ρ=some (.lst (yF.take t)):=cutLTo (ds:=yF) (yf rfl) e
theorem law_holds (ns:List Int) (hl:ns.length<=63):mq29 [.scr ns]=some (.bl true):=by
 refine Wo.eq ?_
 unfold mq29 bq29
 rw [ZZ]
 refine ⟨rfl,?_⟩
 simp only [Zd,zMap,zLen,List.replicate,zApp,QD,Nat.reduceAdd,Nat.reduceSub]
 obtain ⟨v0,e0⟩:=Wn ns 0 (by omega) (by omega)
 have q0:=QP v0 (show (7:Int)≠0 by decide)
 have q1:=QH v0 (show (0:Int)<7 by decide)
 obtain ⟨KM,hmany⟩:∃ n:Nat,v0 % 7=n:=⟨(v0 % 7).toNat,by omega⟩
 have hm:KM<=6:=by omega
 rw [zx]
 refine yp (d:=.int (KM:Nat)) (f2v (fA2 rfl rfl e0) rfl ((yc (by decide)).trans (by rw [hmany]))) ?_
 simp only [zSet,zu]
 obtain ⟨L,KK,eL,l1,l4,hG,hll,hnn,hct⟩:=prog_ok ns (at_:=1) (KM:=KM) (by omega) hm (KN:=36) (by omega)
 rw [zx]
 refine yp (fA4 rfl rfl rfl rfl eL) ?_
 simp only [zSet,zu]
 obtain ⟨v1,e1⟩:=Wn ns 24 (by omega) (by omega)
 have p0:=QP v1 (show (3:Int)≠0 by decide)
 have p1:=QH v1 (show (0:Int)<3 by decide)
 obtain ⟨t,ht⟩:∃ n:Nat,v1 % 3=n:=⟨(v1 % 3).toNat,by omega⟩
 have t2:t<=2:=by omega
 rw [zx]
 refine yp (last_v (f2v (fA2 rfl rfl e1) rfl ((yc (by decide)).trans (by rw [ht])))) ?_
 simp only [zSet,zu]
 obtain ⟨dA,dB⟩:=drawn hm l1 l4 hG hll hct t2
 have Zg:∀ (bs:List (List Rq)) (z3:Option D),Fin KM bs->Wo (zE (Zj 4 (yw (fA Jn (za (zc 2) zi))))
  (zE (Zj 5 (fA mq27 (za (zc 2) zi)))
  (zE (Zj 6 (fA mq12 (za (zc 2) zi)))
  (zE (mIf (fOr (jd (zw (f1 (yu "str") (zc 6)))) (fOr (zw (f2 je (zc 6) (zc 5))) (zw (f2 je (fA Jn (za (zc 2) zi)) (zc 4)))))
  (zR (fC (.bl false)))
  zV)
  (mXL 7 mq13 (za (zc 5) zi)
  (mXIf (jd (zw (fA mq28 (za (zc 7) (za (zc 2) zi)))))
  (zR (fC (.bl false)))
  (mXR2 7 (ZO (za (fC (.str "halt")) zi))
  (zR (yH (f2 Ze (fA mq12 (za (zc 2) zi)) (zc 5)) (yH (fA mq28 (za (fA mq13 (za (zc 5) zi)) (za (zc 2) zi))) (f2 Ze (fA Jn (za (zc 2) zi)) (zc 4))))))))))) [some (.scr ns),some (.int (KM:Nat)),some (prD KM bs),z3,none,none,none,none]) (JA fun d=>d=.bl true):=fun bs z3 hF=>by
  have er:=hF.fi.repr (by omega) hF.wt
  have ed:=due_ok hm hF.pb hm
  have es:=show_ok hm hF.pb hm
  have ero:=read_ok hm hF.pb hm hF.len hF.ip
  have ea:=alike_ok (KM:=KM) hm hF.pb hF.len
  generalize (zZ (prD KM bs)).shown=sh at er
  generalize prT KM bs=T at ed es ero
  rw [zx]
  refine yp (jJ (fA1 rfl er) rfl) ?_
  simp only [zSet,zu]
  rw [zx]
  refine yp (fA1 rfl ed) ?_
  simp only [zSet,zu]
  rw [zx]
  refine yp (fA1 rfl es) ?_
  simp only [zSet,zu]
  rw [zx]
  refine Yt (JP (jG (zP (f1v (x:=.str T) rfl rfl))) (JP (zP (f2v rfl rfl ne_f)) (zP (f2v (fA1 rfl er) rfl ne_f)))) ?_
  rw [Zk,zG,zu]
  have x1:za (zc 5) zi [some (.scr ns),some (.int (KM:Nat)),some (prD KM bs),z3,some (.str sh),some (.str T),some (.str T),none]=some [.str T]:=rfl
  unfold mXL
  rw [x1,oB,ero,oB,KQ (by simp)]
  simp only [zSet]
  have x2:jd (zw (fA mq28 (za (zc 7) (za (zc 2) zi)))) [some (.scr ns),some (.int (KM:Nat)),some (prD KM bs),z3,some (.str sh),some (.str T),some (.str T),some (prD KM bs)]=some false:=jG (zP (fA2 rfl rfl ea))
  unfold mXIf
  rw [x2,oB,KR Qh]
  have x3:ZO (za (fC (.str "halt")) zi) [some (.scr ns),some (.int (KM:Nat)),some (prD KM bs),z3,some (.str sh),some (.str T),some (.str T),some (prD KM bs)]=some (.tup [.str "halt"]):=tup1_ rfl
  have told:toldR (prD KM bs)=true:=by
   obtain ⟨b,r,rfl⟩:=hF.one
   have h1:=hF.len b Qj
   have h2:=hF.pb.num
   rw [Qg] at h2
   show decide ((qDs b).length<Kg/\(r.map fun b=>D.lst (qDs b)).length+1<Kg)=true
   exact KS ⟨by rw [jT];exact size8 (by omega),by rw [Qe];exact size8 (by omega)⟩
  unfold mXR2
  rw [x3,oB]
  show Wo ((some (prD KM bs)).bind _) _
  rw [oB,KQ told]
  simp only [zSet]
  exact Y5 (y8 (f2v (fA1 rfl es) rfl eq_t) (y8 (fA2 (fA1 rfl ero) rfl ea) (f2v (fA1 rfl er) rfl eq_t))) rfl
 have ll:∀ {z3:Option D},fA yP (zk true (fIx (zk false (zc 2)) (fC (.int 1)))) [some (.scr ns),some (.int (KM:Nat)),some (.tup [.int (KM:Nat),.lst (L.map .lst)]),z3,none,none,none,none]=some (.int (L.length:Nat)):=by
  intro z3
  rw [fA_,yf (Z7 (yh (ZL rfl)) rfl (zL (j:=1) rfl))]
  show some (D.int ((L.map D.lst).length:Nat))=_
  rw [Qe]
 rw [zx]
 refine ge (b:=decide (v1 / 3 % 2=1)&&decide ((L.length:Int)<4)) (andv (zP (f2v (f2v (f2v (fA2 rfl rfl e1) rfl (YZ (by decide) (by decide))) rfl (yc (by decide))) rfl jf)) (zP (f2v ll rfl lt_))) (fun hc=>?_) (fun _=>?_)
 ·rw [QC,decide_eq_true_eq,decide_eq_true_eq] at hc
  obtain ⟨bs,eb,hF⟩:=dB (by omega)
  refine yp (d:=prD KM bs) ?_ ?_
  ·rw [<- eb]
   exact Wt rfl (gu (a:=L.map D.lst) (b:=[.lst (yF.take t)]) (Z7 (yh (ZL rfl)) rfl (zL (j:=1) rfl)) (Yf rfl) (by simp;omega))
  ·simp only [zSet,zu]
   exact Zg bs _ hF
 ·obtain ⟨bs,eb,hF⟩:=dA
  rw [Zk,zG,zu,eb]
  exact Zg bs _ hF
open PySem L2 M
open PySem.W (Frag)
theorem walk {l:PySem.W.OpenLaw} {q:Ki} {loose:List Kw} {XP:(Kw->Option Ka)->Kl->Prop} {YP:Kk->Kl->Prop} {d:DefRec} {K:Params->KC} (hn:l.most=some 63) (hdf:d.params.defaults=[]) (himp:PyProof.Rows.importsNone q=true) (htree:l.prog.given.tree=none)
  (hY:∀ (w:Kk) (h:Kl),YP w h->(K w.params).In h) (hd:d.name="law")
  (F:∀ (w:Kk) (mg:Kw->Option Ka) (h:Kl),(K w.params).In h->h.Ns Kf mg->∃ C Z,Txt (K w.params) mg C Z) :
  PySem.W.WalkO q loose XP YP l.row.toRowW d [] (fun f vs=>PySem.call f vs) :=
 walk_kn (k:=176) (x:="_law_script") (m:=mq29) (st:=top 43) hn hdf himp htree hY hd ⟨rfl,by decide,by decide,rfl⟩ (fun _ _ _ _ _ _ _=>rfl) (fun w mg h X G=>(F w mg h X G).elim fun _ T=>T.elim fun _ T=>⟨T.F29,fun base f fd q=>all_ok T q⟩) law_holds
end EV
theorem PySem.W.Fast.tw6222911404611406455:True:=trivial
theorem PySem.W.Fast.tw17160934768759779338:True:=trivial
theorem PySem.W.Fast.tw7816665451163938098:True:=trivial
theorem PySem.W.Fast.tw3602745419419037710:True:=trivial
theorem PySem.W.Fast.tw18354563112258389375:True:=trivial
theorem PySem.W.Fast.tw9774480232421782189:True:=trivial
theorem PySem.W.Fast.tw14264114202962246901:True:=trivial
theorem PySem.W.Fast.tw9393524013478044014:True:=trivial
theorem PySem.W.Fast.tw13085759655367012605:True:=trivial
theorem PySem.W.Fast.tw11082932861273588749:True:=trivial
theorem PySem.W.Fast.tw10468189696118544061:True:=trivial
theorem PySem.W.Fast.tw13879053453015320752:True:=trivial
theorem PySem.W.Fast.tw918608596152702215:True:=trivial
theorem PySem.W.Fast.tw7953066501502829634:True:=trivial
theorem PySem.W.Fast.tw7215320310501075287:True:=trivial
theorem PySem.W.Fast.tw5426509540179284884:True:=trivial
theorem PySem.W.Fast.tw6127137020245643318:True:=trivial
theorem PySem.W.Fast.tw993522987202827823:True:=trivial
theorem PySem.W.Fast.tw16514785689234511809:True:=trivial
theorem PySem.W.Fast.tw17333543057685843867:True:=trivial
theorem PySem.W.Fast.tw18332206584155646485:True:=trivial
theorem PySem.W.Fast.tw2146017113812654784:True:=trivial
theorem PySem.W.Fast.tw1851965458420018763:True:=trivial
theorem PySem.W.Fast.tw10933839290248457020:True:=trivial
open PySem PySem.W PyProof.Rows EV L2 M
set_option maxRecDepth 100000 in
set_option maxHeartbeats 0 in
theorem PySem.Challenge.cw_evennotes_k48_programs_shown_holds : PySem.Challenge.rw_evennotes_k48_programs_shown.Holds := by
 w_on;o_law;k_head;(case hw=>w_witness2)
 k_fill
 refine EV.walk (l:=PySem.Challenge.rw_evennotes_k48_programs_shown) rfl rfl (by rfl) rfl (fun w h Y=>PySem.W.kIn_of Y) rfl ?F
 case F =>
  intro w mg h KX G
  refine' tx_mk (a:=0) ⟨ZP KX G ?a0 ?l0 ?c0 ?k0,ZP KX G ?a1 ?l1 ?c1 ?k1,ZP KX G ?a2 ?l2 ?c2 ?k2,ZP KX G ?a3 ?l3 ?c3 ?k3,ZP KX G ?a4 ?l4 ?c4 ?k4,ZP KX G ?a5 ?l5 ?c5 ?k5,ZP KX G ?a6 ?l6 ?c6 ?k6,ZP KX G ?a7 ?l7 ?c7 ?k7,ZP KX G ?a8 ?l8 ?c8 ?k8,ZP KX G ?a9 ?l9 ?c9 ?k9,ZP KX G ?a10 ?l10 ?c10 ?k10,ZP KX G ?a11 ?l11 ?c11 ?k11,ZP KX G ?a12 ?l12 ?c12 ?k12,ZP KX G ?a13 ?l13 ?c13 ?k13,ZP KX G ?a14 ?l14 ?c14 ?k14,ZP KX G ?a15 ?l15 ?c15 ?k15,ZP KX G ?a16 ?l16 ?c16 ?k16,ZP KX G ?a17 ?l17 ?c17 ?k17,ZP KX G ?a18 ?l18 ?c18 ?k18,ZP KX G ?a19 ?l19 ?c19 ?k19,ZP KX G ?a20 ?l20 ?c20 ?k20,ZP KX G ?a21 ?l21 ?c21 ?k21,ZP KX G ?a22 ?l22 ?c22 ?k22,ZP KX G ?a23 ?l23 ?c23 ?k23,ZP KX G ?a24 ?l24 ?c24 ?k24,ZP KX G ?a25 ?l25 ?c25 ?k25,ZP KX G ?a26 ?l26 ?c26 ?k26,ZP KX G ?a27 ?l27 ?c27 ?k27,ZP KX G ?a28 ?l28 ?c28 ?k28,ZP KX G ?a29 ?l29 ?c29 ?k29,mg_none_of KX G ?z_all,mg_none_of KX G ?z_bool,mg_none_of KX G ?z_enumerate,mg_none_of KX G ?z_int,mg_none_of KX G ?z_isinstance,mg_none_of KX G ?z_len,mg_none_of KX G ?z_list,mg_none_of KX G ?z_max,mg_none_of KX G ?z_range,mg_none_of KX G ?z_repr,mg_none_of KX G ?z_str,mg_none_of KX G ?z_sum,mg_none_of KX G ?z_tuple,mg_none_of KX G ?z_zip,gs_mk (mg_of KX G ?c_FIGURES),gl_mk (mg_of KX G ?c_MOST_BODIES),gl_mk (mg_of KX G ?c_MOST_BOXES),gl_mk (mg_of KX G ?c_MOST_DEEP),gl_mk (mg_of KX G ?c_MOST_FIGURES),gl_mk (mg_of KX G ?c_MOST_IN_A_LINE),gl_mk (mg_of KX G ?c_MOST_PLACES),df_mkI ?a900 ?l900 ?c900 ?k900 ?mk ?i900 ?kc,wo ?a901 ?l901 ?c901 ?k901 ?i901,wo ?a902 ?l902 ?c902 ?k902 ?i902,wo ?a903 ?l903 ?c903 ?k903 ?i903,wo ?a904 ?l904 ?c904 ?k904 ?i904,wo ?a905 ?l905 ?c905 ?k905 ?i905,wo ?a906 ?l906 ?c906 ?k906 ?i906,⟨⟨?pg,?hd,?po,?sa⟩,?nb,?nl,?ng⟩,mg_of KX G ?aC⟩
  (case aC|a0|l0|c0|k0|a1|l1|c1|k1|a2|l2|c2|k2|a3|l3|c3|k3|a4|l4|c4|k4|a5|l5|c5|k5|a6|l6|c6|k6|a7|l7|c7|k7|a8|l8|c8|k8|a9|l9|c9|k9|a10|l10|c10|k10|a11|l11|c11|k11|a12|l12|c12|k12|a13|l13|c13|k13|a14|l14|c14|k14|a15|l15|c15|k15|a16|l16|c16|k16|a17|l17|c17|k17|a18|l18|c18|k18|a19|l19|c19|k19|a20|l20|c20|k20|a21|l21|c21|k21|a22|l22|c22|k22|a23|l23|c23|k23|a24|l24|c24|k24|a25|l25|c25|k25|a26|l26|c26|k26|a27|l27|c27|k27|a28|l28|c28|k28|a29|l29|c29|k29|z_all|z_bool|z_enumerate|z_int|z_isinstance|z_len|z_list|z_max|z_range|z_repr|z_str|z_sum|z_tuple|z_zip|c_FIGURES|c_MOST_BODIES|c_MOST_BOXES|c_MOST_DEEP|c_MOST_FIGURES|c_MOST_IN_A_LINE|c_MOST_PLACES|a900|l900|c900|k900|a901|l901|c901|k901|a902|l902|c902|k902|a903|l903|c903|k903|a904|l904|c904|k904|a905|l905|c905|k905|a906|l906|c906|k906|pg|hd|po|sa|mk|kc|nb|nl|ng|i900|i901|i902|i903|i904|i905|i906=>(try dsimp only [Y0]);first | k_is | kernel_rfl)

