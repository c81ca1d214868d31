import PyProof.Rows.All
import Wide.All
import OpenK.AllK
import Wide.FinOn
import Lean
import PyProof.EqAt
import PyProof.EqKinds
import PyProof.TupleCall
import PyProof.InstStoreFacts
import PySem.Challenge.RW_pursewright_k28_unknowns
set_option Elab.async false
set_option linter.all false
set_option maxRecDepth 100000
open PySem renaming wpAny_bind→j0,wpAny_pure→M7,starEach→SN,sizeLine→S4,wpAny_newObj_type→TK,wpAny_call_entry→TL,wpAny_holding→TY,codeAny_builtin→Ui,wpAny_mono→Uk,wpAny_Call_Name_kw→Ul,wpAny_typeOf→Uo,wpAny_isInstance→Uu,plainId_quiet→Uv,wpAny_attempt→Uw,wpAny_rule→Uz,wpAny_setField→UG,wpAny_specialOf→UL,wpAny_updateSeq→UM,sizeLine_eq→UZ,wpAny_fieldsOf→Vt,isSubtype_type→Vu,scanBound→VI,GenState→VW,wpAny_of_eq→VX,PassesOwn→Wm
open List renaming length_map→j3,mem_singleton→qr,getElem?_eq_getElem→Es,getElem?_map→L7,getElem?_eq_some_iff→QH,mem_of_getElem?→RB,length_append→RM,mem_cons_self→SG,mem_cons_of_mem→SK,mem_append→SY,mem_cons→S1,mem_map→S5,nodup_nil→S6,size_toArray→S7,take_add_one→S8,map_append→S9,take_length→Tb,mem_append_right→Tc,append_nil→Td,length_cons→Te,length_take→Ti,mem_append_left→Tj,append_assoc→Tp,not_mem_nil→Ts,lookup_cons→Tv,map_cons→Tx,getElem_of_mem→Tz,nodup_cons→TB,getElem?_append_left→TC,length_singleton→TH,replicate→TJ,length_eq_zero_iff→TM,find?_cons→TN,map_map→TQ,range→TR,append_eq_nil_iff→TU,getElem?_set_ne→TV,nodup_append→T1,getElem?_set_self→T4,all_eq_true→T9,filter_cons_of_pos→Ua,getElem?_append_right→Ub,mem_of_mem_take→Ud,length_set→Ue,getElem?_eq_none→Uh,filter_append→Uj,length_nil→Ur,length_zip→Us,getElem?_zip_eq_some→Ut,mem_range→Ux,filter_cons_of_neg→Uy,length→UB,length_drop→UD,cons_ne_nil→UE,findIdx?_eq_some_iff_getElem→UJ,lookup→UN,take_sublist→UO,any_cons→UR,getElem_mem→US,append_cancel_left→UT,pairwise_map→UY,mem_flatMap→U0,drop_eq_getElem_cons→U1,length_pos_iff→U2,mem_filter→U3,of_mem_zip→U4,forIn_cons→U5,mem_filterMap→U6,getElem?_replicate→U7,reverse_cons→U8,any_eq_true→Vd,sublist_nil→Ve,ext_getElem→Vf,map_take→Vg,sum_cons→Vh,take_append_of_le_length→Vj,filterMap_cons→Vk,replicate_succ→Vl,map_nil→Vm,nodup_iff_pairwise_ne→Vo,forIn_nil→Vp,getD_eq_getElem?_getD→Vq,drop_zero→Vr,drop_left→Vs,mem_or_eq_of_mem_set→Vv,sublist_append_right→Vw,findIdx?_map→VA,getElem?_take_of_lt→VB,all_cons→VC,map_drop→VD,set_eq_of_length_le→VE,cons_append→VF,map_fst_zip→VG,drop_length→VH,any_map→VJ,take_of_length_le→VL,length_filter_le→VN,getElem?_toArray→VO,eq_nil_or_concat→VP,dropLast_concat→VS,length_eraseIdx→VT,replicate_succ'→VU,length_reverse→VY,find?_eq_none→V3,pairwise_cons→V5,any_eq_false→V7,ext_getElem?→Wc,all_map→Wd,zip→Wf,getElem?_inj→Wg,getElem_inj→Wi,nodup_range→Wk,zipIdx_cons→Wl
open PySem.Heap renaming get?_push_of_some→j5,lt_size→Sy,get?_push_size→S2,get?_update_self→Tt,size_push→Tw,get?_update_other→T5,SameBut→T7,ExtBut→Vy,get?_push_cases→VR
open Option renaming map_eq_some_iff→QX,isSome_map→UX,getD_none→Wj
open Nat renaming le_refl→S3,ne_of_lt→Tf,le_trans→Tn,lt_of_lt_of_le→Tq,le_of_lt→Tr,zero_le→TX,ne_of_gt→T8,lt_irrefl→Um,min_eq_left→Uq,zero_add→UA,lt_succ_self→UC,lt_succ_of_lt→UQ,lt_of_le_of_lt→UU,min_le_right→Vc,le_succ→Vi,add_assoc→V0,mod_mod_of_dvd→V2,lt_trans→Wa,le_of_lt_succ→Wh,sub_le→Wn
open Bool renaming false_ne_true→Ta,and_eq_true→To,eq_iff_iff→UK,false_eq_true→UW,and_false→VQ,false_or→VZ,eq_false_iff→Wb
open PySem.Obj renaming data_mapFields→T2,mapSeq→T3,isFreed_of_fields→UI,cls_mapFields→U9,putSet→V6
open PySem.Around renaming under_plainId→T6,under→V8
open Int renaming le_refl→Uc,toNat_of_nonneg→Up,toNat_natCast→UP,le_trans→Vb,zero_add→Vn,natCast_mul→VM,natCast_nonneg→V1,toNat_le→V9
open Array renaming length_toList→Ug,getElem?_toList→UH,getElem?_eq_none→Va,getElem?_eq_getElem→Vx,toList_push→Vz,forIn_toList→V4
namespace L2
open PySem PySem.Spec PyProof.Rows
abbrev Key:=Sum Int Str
def rD:Key->Value->Bool
 | .inl k,v=>Value.isInt k v
 | .inr x,v=>Value.isStrOf x v
def RJ(w:World):Key->Int
 | .inl k=>hashInt k
 | .inr x=>hashStr w x
theorem bT:∀{k:Key}{v:Value},rD k v=true ->(∃ i t,k=Sum.inl i/\v=Value.int i t)\/(∃ x t,k=Sum.inr x/\v=Value.str x t)
 | .inl i,v,h=>by
  obtain⟨t,e⟩:=Value.isInt_shape (k:=i) (v:=v) h;exact .inl ⟨i,t,rfl,e⟩
 | .inr x,v,h=>by
  obtain⟨t,e⟩:=Value.isStrOf_shape (x:=x) (v:=v) h;exact .inr ⟨x,t,rfl,e⟩
theorem BD(i:Int)(t:Tok):rD (.inl i) (.int i t)=true:=by simp[rD,Value.isInt]
theorem BB(x:Str)(t:Tok):rD (.inr x) (.str x t)=true:=by simp[rD,Value.isStrOf]
theorem LY(a b:Int):decide ((Sum.inl a:Key)=Sum.inl b) =(a==b):=by
 by_cases e:a=b
 ·subst e;simp
 ·have h:¬(Sum.inl a:Key)=Sum.inl b:=fun q=>e (Sum.inl.inj q)
  rw[decide_eq_false h];exact(beq_eq_false_iff_ne.mpr e).symm
theorem LV(a b:Str):decide ((Sum.inr a:Key)=Sum.inr b)=decide (a=b):=by
 by_cases e:a=b
 ·subst e;simp
 ·have h:¬(Sum.inr a:Key)=Sum.inr b:=fun q=>e (Sum.inr.inj q)
  rw[decide_eq_false h,decide_eq_false e]
theorem LX(a:Int)(b:Str):decide ((Sum.inl a:Key)=Sum.inr b)=false:=decide_eq_false (fun q=>nomatch q)
theorem LW(a:Str)(b:Int):decide ((Sum.inr a:Key)=Sum.inl b)=false:=decide_eq_false (fun q=>nomatch q)
def bh(prog:Program)(w:World):PySem.KeyKind prog w Key where
 is:=rD
 hash:=RJ w
 inj:=fun v a b ha hb=>by
  rcases bT ha with⟨i,t,rfl,rfl⟩ |⟨x,t,rfl,rfl⟩
  ·rcases bT hb with⟨j,u,rfl,e⟩ |⟨y,u,rfl,e⟩
   ·injection e with e1 _;rw[e1]
   ·exact nomatch e
  ·rcases bT hb with⟨j,u,rfl,e⟩ |⟨y,u,rfl,e⟩
   ·exact nomatch e
   ·injection e with e1 _;rw[e1]
 byValue:=fun k v h=>by
  rcases bT h with⟨i,t,rfl,rfl⟩ |⟨x,t,rfl,rfl⟩ <;> rfl
 pyHash:=fun hv h=>by
  rcases bT hv with⟨i,t,rfl,rfl⟩ |⟨x,t,rfl,rfl⟩
  ·exact wpAny_pyHash_int h
  ·exact wpAny_pyHash_str h
 eqBool:=fun hu hv h=>by
  rcases bT hu with⟨i,t,rfl,rfl⟩ |⟨x,t,rfl,rfl⟩
  ·rcases bT hv with⟨j,u,rfl,rfl⟩ |⟨y,u,rfl,rfl⟩
   ·rw[LY]at h;exact wpAny_eqBool_int h
   ·rw[LX]at h;exact SeqAt.EqAt.int_str i t y u _ _ _ _ h
  ·rcases bT hv with⟨j,u,rfl,rfl⟩ |⟨y,u,rfl,rfl⟩
   ·rw[LW]at h;exact SeqAt.EqAt.str_int x t j u _ _ _ _ h
   ·rw[LV]at h;exact wpAny_eqBool_str h
 «strs»:=fun k x t v h=>by
  rcases bT h with⟨i,u,rfl,e⟩ |⟨y,u,rfl,e⟩
  ·exact nomatch e
  ·injection e with e1 _
   subst e1;cases v <;> rfl
theorem vZ(prog:Program)(w:World)(i:Int)(t:Tok):(bh prog w).is (.inl i) (.int i t)=true:=BD i t
theorem vY(prog:Program)(w:World)(x:Str)(t:Tok):(bh prog w).is (.inr x) (.str x t)=true:=BB x t
inductive V where
 | non|bl (b:Bool)|int (i:Int)|str (x:Str)|byt (b:Array UInt8)|flt (b:UInt64)|ref (a:Addr)|ty (n:String)
 deriving DecidableEq
def RelV:V->Value->Prop
 | .non,u=>u=Value.none
 | .bl b,u=>u=Value.bool b
 | .int i,u=>∃ t,u=Value.int i t
 | .str x,u=>∃ t,u=Value.str x t
 | .byt b,u=>∃ t,u=Value.bytes b t
 | .flt b,u=>∃ t,u=Value.float b t
 | .ref a,u=>u=Value.ref a
 | .ty n,u=>u=Value.type n
abbrev Vals:List V->List Value->Prop:=Paired RelV
theorem Vals.length{xs:List V}{us:List Value}(r:Vals xs us):xs.length=us.length:=Paired.length r
theorem Vals.get:∀{xs:List V}{us:List Value}{i:Nat}{x:V},Vals xs us->xs[i]? = some x->∃ u,us[i]? = some u/\RelV x u
 | _,_,_,_,.nil,e=>by simp at e
 | _,_,0,_,.cons r _,e=>by simp at e;subst e;exact⟨_,rfl,r⟩
 | _,_,i+1,x,.cons _ t,e=>by
  obtain⟨u,h1,h2⟩:=Vals.get (i:=i) (x:=x) t (by simpa using e)
  exact⟨u,by simpa using h1,h2⟩
theorem Vals.set{x:V}{u:Value}(r:RelV x u):∀{xs:List V}{us:List Value}(i:Nat),Vals xs us->Vals (xs.set i x) (us.set i u)
 | _,_,_,.nil=>.nil
 | _,_,0,.cons _ t=>.cons r t
 | _,_,i+1,.cons q t=>.cons q (Vals.set r i t)
theorem Vals.append:∀{xs ys:List V}{us ws:List Value},Vals xs us->Vals ys ws->Vals (xs++ys) (us++ws)
 | _,_,_,_,.nil,s=>s
 | _,_,_,_,.cons r t,s=>.cons r (Vals.append t s)
theorem Vals.take:∀{xs:List V}{us:List Value}(n:Nat),Vals xs us->Vals (xs.take n) (us.take n)
 | _,_,0,_=>.nil
 | _,_,_+1,.nil=>.nil
 | _,_,n+1,.cons r t=>.cons r (Vals.take n t)
theorem Vals.drop:∀{xs:List V}{us:List Value}(n:Nat),Vals xs us->Vals (xs.drop n) (us.drop n)
 | _,_,0,r=>r
 | _,_,_+1,.nil=>.nil
 | _,_,n+1,.cons _ t=>Vals.drop n t
def kq:Option V->Option Value->Prop
 | some v,some u=>RelV v u
 | none,none=>True
 | _,_=>False
def KV{κ:Type}:List (κ×V)->List (κ×Value)->Prop:=Paired fun(p:κ×V)(q:κ×Value)=>p.1=q.1/\RelV p.2 q.2
def kV:Key->V
 | .inl i=>.int i
 | .inr x=>.str x
inductive HO where
 | lst(xs:List V)
 | tup(xs:List V)
 | dK(kvs:List (Key×V))|dT (kvs:List (List Key×V))
 | set(S:Int->Bool)(n:Nat)
 | ins(C dx:Addr)(fs:List (Str×V))
 | own(x:Addr)
 | xd(fs:List (Str×V))
 | room(x:Int)
 | met(f x:Addr)
 | rng(lo hi:Int)
 | frz(o:Obj)(u:HO)
 | tbl(ps:Array Value)
 | ext(φ:Heap->Prop)
abbrev Hp:=Addr->Option HO
def upd(H:Hp)(a:Addr)(o:HO):Hp:=fun b=>if b=a then some o else H b
variable{H:Hp}{a:Addr}
theorem ax{o:HO}:upd H a o a=some o:=by unfold upd;rw[if_pos rfl]
theorem ao{b:Addr}{o:HO}(h:b≠a):upd H a o b=H b:=by unfold upd;rw[if_neg h]
theorem nu{o u:HO}:upd (upd H a o) a u=upd H a u:=by
 funext b;unfold upd;split <;> rfl
theorem iJ{b:Addr}{o u:HO}(h:H a=some o)(h':H b=some u)(d:o≠u):a≠b:=by
 intro e;subst e;rw[h]at h';exact d (Option.some.inj h')
theorem aS{b:Addr}{o:HO}(h:H a=some o)(h':H b=none):a≠b:=by
 intro e;subst e;rw[h]at h';cases h'
def kr(h:Heap)(a:Addr)(items:Array Value):Prop:=IsTup h a items/\∃ o,h.get? a=some o/\o.dict=none
theorem kr.new(h:Heap)(items:Array Value):kr (h.push { cls:=.type "tuple",data:=.seq items }) h.objs.size items:=⟨IsTup.new _ _,_,S2 _ rfl,rfl⟩
section
variable(P:Program)(w:World)
def a5(H:Hp)(h:Heap)(a:Addr):HO->Prop
 | .lst xs=>xs.length<=S4/\∃(its:List Value)(n:Nat),Vals xs its/\h.get? a=some { cls:=.type "list",data:=.seq its.toArray n }
 | .tup xs=>xs.length<=S4/\∃ its:List Value,Vals xs its/\kr h a its.toArray
 | .dK kvs=>kvs.length<=S4/\(a==sysModules)=false/\∃ vs,KV kvs vs/\h.DictOf (bh P w) a vs
 | .dT kvs=>kvs.length<=S4/\(a==sysModules)=false/\∃ xs:List (List Key×Addr×Value),
   Paired (fun(p:List Key×V)(q:List Key×Addr×Value)=>p.1=q.1/\H q.2.1=some (.tup (p.1.map kV))/\RelV p.2 q.2.2) kvs xs /\
   ∃ o es ep,h.get? a=some o/\o.ExactDict/\o.data = .dict es ep/\es.toList=xs.map (entryOfKey (tupleKind (bh P w)))/\(xs.map (·.1)).Nodup
 | .set S n=>h.SetOf (intKind P w) a S n
 | .ins C dx fs=>H dx=some (.own a)/\fs.length<=1000/\dx≠a/\h.get? a=some (W.instObj C dx) /\
   ∃ mA,h.Ns1 dx mA/\(∀ f,kq (fs.lookup f) (mA f))/\PySem.Within mA (fs.map (·.1))
 | .own _=>∃ o,h.get? a=some o
 | .xd fs=>∃ mA,h.Ns1 a mA/\∀ f,kq (fs.lookup f) (mA f)
 | .room x=>∃(its:List Value)(n:Nat),Vals [.int x] its/\h.get? a=some { cls:=.type "list",data:=.seq its.toArray n }
 | .rng lo hi=>∃ t u v,h.get? a=some { cls:=.type "range",data:=.fields #[.int lo t,.int hi u,.int 1 v] }
 | .frz o u=>h.get? a=some o/\a5 H h a u
 | .tbl ps=>h.get? a=some { cls:=.none,data:=.fields ps }
 | .met f x=>h.get? a=some (W.methodObj (.ref f) (.ref x))
 | .ext φ=>φ h/\(∃ o,h.get? a=some o)/\∀ h1 h2:Heap,φ h1 ->(∀ o,h1.get? a=some o->h2.get? a=some o)->φ h2
def HOk(H:Hp)(h:Heap):Prop:=∀ a o,H a=some o->a5 P w H h a o
end
section
variable{P:Program}{w:World}{H':Hp}{h h':Heap}{o:HO}
theorem a5.lt(x:a5 P w H h a o):a<h.objs.size:=by
 cases o with
 | lst xs=>obtain⟨_,_,_,_,e⟩:=x;exact Sy e
 | tup xs=>obtain⟨_,_,_,p⟩:=x;exact p.1.lt
 | dK kvs=>obtain⟨_,_,_,_,o,_,_,e,_⟩:=x;exact Sy e
 | dT kvs=>obtain⟨_,_,_,_,o,_,_,e,_⟩:=x;exact Sy e
 | set S n=>obtain⟨o,_,_,_,e,_⟩:=x;exact Sy e
 | ins C dx fs=>obtain⟨_,_,_,e,_⟩:=x;exact Sy e
 | own y=>obtain⟨_,e⟩:=x;exact Sy e
 | xd fs=>obtain⟨_,⟨_,_,_,e,_⟩,_⟩:=x;exact Sy e
 | room x'=>obtain⟨_,_,_,e⟩:=x;exact Sy e
 | rng lo hi=>obtain⟨_,_,_,e⟩:=x;exact Sy e
 | frz ob u=>obtain⟨e,_⟩:=x;exact Sy e
 | tbl ps=>exact Sy (show h.get? a=some _ from x)
 | met f y=>exact Sy (show h.get? a=some _ from x)
 | ext φ=>obtain⟨_,⟨_,e⟩,_⟩:=x;exact Sy e
theorem Paired.LP{α β:Type}{F G:α->β->Prop}:∀{l₁:List α}{l₂:List β},Paired F l₁ l₂ ->(∀ a b,F a b->G a b)->Paired G l₁ l₂
 | _,_,.nil,_=>.nil
 | _,_,.cons r t,f=>.cons (f _ _ r) (Paired.LP t f)
theorem a5.cY(x:a5 P w H h a o)(k:∀ b u,(b=a\/H b=some (.own a))->h.get? b=some u->h'.get? b=some u)
  (ho:∀ b,H b=some (.own a)->H' b=some (.own a)) (ht:∀ b xs,H b=some (.tup xs)->H' b=some (.tup xs)):a5 P w H' h' a o:=by
 induction o with
 | lst xs=>obtain⟨z,its,n,r,e⟩:=x;exact⟨z,its,n,r,k _ _ (.inl rfl) e⟩
 | tup xs=>obtain⟨z,its,r,⟨ob,e,c⟩,o2,e2,d2⟩:=x;exact⟨z,its,r,⟨ob,k _ _ (.inl rfl) e,c⟩,o2,k _ _ (.inl rfl) e2,d2⟩
 | dK kvs=>obtain⟨z,y,vs,r,ob,es,ep,e,c⟩:=x;exact⟨z,y,vs,r,ob,es,ep,k _ _ (.inl rfl) e,c⟩
 | dT kvs =>
  obtain⟨z,y,xs,r,ob,es,ep,e,c⟩:=x;exact⟨z,y,xs,Paired.LP r fun p q z=>⟨z.1,ht _ _ z.2.1,z.2.2⟩,ob,es,ep,k _ _ (.inl rfl) e,c⟩
 | set S n=>obtain⟨ob,es,ep,t,e,c⟩:=x;exact⟨ob,es,ep,t,k _ _ (.inl rfl) e,c⟩
 | ins C dx fs =>
  obtain⟨d,z,ne,e,mA,⟨od,es,ep,e2,c⟩,r⟩:=x;exact⟨ho _ d,z,ne,k _ _ (.inl rfl) e,mA,⟨od,es,ep,k _ _ (.inr d) e2,c⟩,r⟩
 | own y=>obtain⟨ob,e⟩:=x;exact⟨ob,k _ _ (.inl rfl) e⟩
 | xd fs=>obtain⟨mA,⟨od,es,ep,e,c⟩,r⟩:=x;exact⟨mA,⟨od,es,ep,k _ _ (.inl rfl) e,c⟩,r⟩
 | room x'=>obtain⟨t,u,v,e⟩:=x;exact⟨t,u,v,k _ _ (.inl rfl) e⟩
 | rng lo hi=>obtain⟨t,u,v,e⟩:=x;exact⟨t,u,v,k _ _ (.inl rfl) e⟩
 | frz ob u ih=>obtain⟨e,q⟩:=x;exact⟨k _ _ (.inl rfl) e,ih q⟩
 | tbl ps =>
  have e:h.get? a=some { cls:=.none,data:=.fields ps }:=x;show h'.get? a=some { cls:=.none,data:=.fields ps };exact k a _ (.inl rfl) e
 | met f y =>
  have e:h.get? a=some (W.methodObj (.ref f) (.ref y)):=x;show h'.get? a=some (W.methodObj (.ref f) (.ref y));exact k a _ (.inl rfl) e
 | ext φ=>obtain⟨p,⟨o,e⟩,st⟩:=x;exact⟨st _ _ p fun o q=>k _ _ (.inl rfl) q,⟨o,k _ _ (.inl rfl) e⟩,st⟩
theorem HOk.lt(x:HOk P w H h)(e:H a=some o):a<h.objs.size:=(x a o e).lt
theorem HOk.fresh(x:HOk P w H h)(e:h.objs.size<=a):H a=none:=by
 cases q:H a with
 | none=>rfl
 | some u=>exact absurd (Tq (x.lt q) e) (Um _)
theorem HOk.kept(x:HOk P w H h)(k:∀ b u,h.get? b=some u->h'.get? b=some u):HOk P w H h':=fun a o e =>
 (x a o e).cY (fun b u _ q=>k b u q) (fun _ q=>q) fun _ _ q=>q
theorem HOk.laid(x:HOk P w H h)(k:∀ b u,h.get? b=some u->h'.get? b=some u)(hp:h.objs.size<=a)(new:a5 P w (upd H a o) h' a o):HOk P w (upd H a o) h':=fun b u e=>by
 have hn:=x.fresh hp;by_cases hb:b=a
 ·subst hb;rw[ax]at e;cases e;exact new
 ·rw[ao hb]at e;exact(x b u e).cY (fun c v _ q=>k c v q) (fun c q=>by rw[ao (aS q hn)];exact q) fun c xs q=>by rw[ao (aS q hn)];exact q
end
def Rd(H:Hp)(a:Addr)(u:HO):Prop:=H a=some u\/∃ o,H a=some (.frz o u)
variable{P:Program}
theorem Rd.ok{w:World}{h:Heap}{u:HO}(r:Rd H a u)(x:HOk P w H h):a5 P w H h a u:=by
 rcases r with r |⟨o,r⟩
 ·exact x a u r
 ·obtain⟨_,q⟩:=x a _ r;exact q
def Mut:Option HO->Prop
 | some (.lst _)=>True
 | some (.dK _)=>True
 | some (.dT _)=>True
 | some (.set _ _)=>True
 | some (.ins _ _ _)=>True
 | some (.ext _)=>True
 | some (.room _)=>True
 | _=>False
section
variable{w:World}{h h':Heap}{x e:Addr}{o':HO}
theorem HOk.write(ok:HOk P w H h)(mu:Mut (H x))(he:e=x\/H e=some (.own x))(k:∀ b u,b≠e->h.get? b=some u->h'.get? b=some u)(heo:∃ u,h'.get? e=some u)
  (new:a5 P w (upd H x o') h' x o'):HOk P w (upd H x o') h':=fun b u q=>by
 have Ot:∀ c y,H c=some (.own y)->c≠x:=fun c y r z=>by subst z;rw[r]at mu;exact mu
 have Rz:∀ c xs,H c=some (.tup xs)->c≠x:=fun c xs r z=>by subst z;rw[r]at mu;exact mu
 by_cases hb:b=x
 ·subst hb;rw[ax]at q;cases q;exact new
 ·rw[ao hb]at q;by_cases hbe:b=e
  ·have q':H b=some (.own x):=by
    rcases he with z|z
    ·exact absurd (hbe.trans z) hb
    ·rw[hbe];exact z
   rw[q]at q';cases q';obtain⟨v,hv⟩:=heo;exact⟨v,by rw[hbe];exact hv⟩
  ·refine(ok b u q).cY (fun c v hc r=>k c v ?_ r) (fun c r=>by rw[ao (Ot c b r)];exact r) fun c xs r=>by rw[ao (Rz c xs r)];exact r
   rcases hc with rfl|hc
   ·exact hbe
   ·rintro rfl
    rcases he with z|z
    ·exact Ot c b hc z
    ·rw[hc]at z;cases z;exact hb rfl
end
structure Un(fs ex:List Addr)(H H':Hp)(h h':Heap):Prop where
 keep:∀ b o,h.get? b=some o->H b=none->b ∉ fs->b ∉ ex->h'.get? b=some o
 slot:∀ b o,h.get? b=some o->H b=none->b∈fs->b ∉ ex->∃ sl,h'.get? b=some { o with slots:=sl }
 free:∀ b o,h.get? b=some o->H b=none->b ∉ ex->H' b=none
 there:∀ b o,h.get? b=some o->b ∉ ex->∃ o',h'.get? b=some o'
 nV:∀ b xs,H b=some (.tup xs)->H' b=some (.tup xs)
 j9:∀ b o u,H b=some (.frz o u)->H' b=some (.frz o u)
 nW:∀ b ps,H b=some (.tbl ps)->∃ more,H' b=some (.tbl (ps++more))
section
variable{fs fs' ex ex':List Addr}{H1 H2:Hp}{h h1 h2 h':Heap}{x e:Addr}{o:HO}
theorem Un.any(u:Un fs ex H H1 h h1){b:Addr}{ob:Obj}(q:h.get? b=some ob)(n:H b=none)(hx:b ∉ ex):∃ sl,h1.get? b=some { ob with slots:=sl }:=by
 by_cases hb:b∈fs
 ·exact u.slot b ob q n hb hx
 ·exact⟨ob.slots,u.keep b ob q n hb hx⟩
theorem Un.kept(k:∀ b u,h.get? b=some u->h'.get? b=some u):Un fs ex H H h h' :=
 ⟨fun b ob q _ _ _=>k b ob q,fun b ob q _ _ _=>⟨ob.slots,k b ob q⟩,fun _ _ _ n _=>n,fun b ob q _=>⟨ob,k b ob q⟩,fun _ _ q=>q,fun _ _ _ q=>q,fun _ ps q=>⟨#[],by rw[q];simp⟩⟩
theorem Un.refl:Un fs ex H H h h:=Un.kept fun _ _ q=>q
theorem Un.laid(k:∀ b u,h.get? b=some u->h'.get? b=some u)(hp:h.objs.size<=a)(hn:H a=none):Un fs ex H (upd H a o) h h' where
 keep:=fun b u q _ _ _=>k b u q
 slot:=fun b u q _ _ _=>⟨u.slots,k b u q⟩
 free:=fun b u q n _=>by rw[ao (Tf (Tq (Sy q) hp))];exact n
 there:=fun b u q _=>⟨u,k b u q⟩
 nV:=fun b xs q=>by rw[ao (aS q hn)];exact q
 j9:=fun b u xs q=>by rw[ao (aS q hn)];exact q
 nW:=fun b ps q=>⟨#[],by rw[ao (aS q hn),q];simp⟩
theorem Un.write(mu:Mut (H x))(he:e=x\/H e=some (.own x))(k:∀ b u,b≠e->h.get? b=some u->h'.get? b=some u)(heo:∃ u,h'.get? e=some u):Un fs ex H (upd H x o) h h':=by
 have hx:∀ b,H b=none->b≠x:=fun b n z=>by subst z;rw[n]at mu;exact mu
 have hb:∀ b,H b=none->b≠e:=fun b n z=>by
  subst z;rcases he with r|r
  ·exact hx b n r
  ·rw[n]at r;cases r
 have hm:∀ b u,H b=some u->¬ Mut (some u)->b≠x:=fun b u q nm z=>by subst z;rw[q]at mu;exact nm mu
 refine⟨fun b u q n _ _=>k b u (hb b n) q,fun b u q n _ _=>⟨u.slots,k b u (hb b n) q⟩,fun b u q n _=>by rw[ao (hx b n)];exact n,fun b u q _=>?_,
  fun b xs q=>by rw[ao (hm b _ q fun z=>z)];exact q,fun b u xs q=>by rw[ao (hm b _ q fun z=>z)];exact q,fun b ps q=>⟨#[],by rw[ao (hm b _ q fun z=>z),q];simp⟩⟩
 by_cases hbe:b=e
 ·subst hbe;exact heo
 ·exact⟨u,k b u hbe q⟩
end
def trk(h:Heap)(H:Hp):List Addr:=(TR h.objs.size).filter fun a=>(H a).isSome
def uh(h:Heap)(H:Hp):Heap:=W.hideAll h (trk h H)
theorem BO(h:Heap)(H:Hp):(uh h H).objs.size=h.objs.size:=W.hideAll_size _ _
theorem EW{h:Heap}{b:Addr}{o:Obj}(e:h.get? b=some o)(n:H b=none):(uh h H).get? b=some o :=
 W.hideAll_get _ e fun hm=>by
  have q:(H b).isSome=true:=(U3.mp hm).2;rw[n]at q;simp at q
theorem Ia{h:Heap}{b:Addr}{o:Obj}(e:(uh h H).get? b=some o):h.get? b=some o/\H b=none:=by
 have e':h.get? b=some o:=W.of_hideAll (trk h H) e;refine⟨e',?_⟩;cases q:H b with
 | none=>rfl
 | some x =>
  have hm:b∈trk h H:=U3.mpr ⟨Ux.mpr (Sy e'),by simp[q]⟩
  have z:(uh h H).get? b=none:=W.hideAll_none (trk h H) hm;rw[z]at e;cases e
structure Mod(K:W.Frag)(mg:Str->Option Value)(base:Heap):Prop where
 kin:K.In base
 glob:base.Ns mainGlobals mg
 blt:∃ mb,base.Ns builtinsNs mb/\∀ x:Str,x ≠ "__name__" -> mb x=bootBuiltins x
 nolimit:base.NoLimit
structure Cx where
 prog:Program
 w:World
 K:W.Frag
 mg:Str->Option Value
 base:Heap
 A:Around
 N:List Str
 s₀:Shared
 H₀:Hp
 env:Env
 outer:List Env
 stack:List Env
 ex:List Addr
 fn:Str->Bool
 calm:Bool
 pn:List (Addr×Obj)
 xe:Value->Shared->Prop
def frs(l:List Env):List Addr:=l.filterMap (·.frame)
abbrev Cx.fs(X:Cx):List Addr:=frs X.outer
def Vis(sc:Scope)(x:Str):Prop:=sc.names.lookup x=some .local\/sc.names.lookup x=some .cell\/sc.names.lookup x=some .free
def Loc(sc:Scope)(x:Str):Prop:=sc.names.lookup x=some .local\/sc.names.lookup x=some .cell
def Look(env:Env)(h:Heap)(m:Str->Option Value)(x:Str)(u:Value):Prop :=
 (env.kindOf x=some .local/\m x=some u)\/((env.kindOf x=some .cell\/env.kindOf x=some .free)/\∃ c,env.cells.lookup x=some c/\h.IsCell c (some u))
structure Cx.Ok(X:Cx):Prop where
 mod:Mod X.K X.mg X.base
 kind:X.env.scope.kind = .function
 glob:X.env.globals=mainGlobals
 blt:X.env.builtins=builtinsNs
 above:X.s₀.heap.objs.size<=X.env.locals
 inj:∀ x y c,X.env.cells.lookup x=some c->X.env.cells.lookup y=some c->x=y
 has:∀ x,(X.env.kindOf x=some .cell\/X.env.kindOf x=some .free)->∃ c,X.env.cells.lookup x=some c
 cab:∀ x c,X.fn x=true->X.env.cells.lookup x=some c->X.s₀.heap.objs.size<=c
 hd:X.calm=true->X.A.handled=none
 frames:X.A.frames=some X.stack
 stk:X.stack=X.outer\/(X.stack=X.env::X.outer/\X.env.frame=some X.env.locals)
 exf:∀ b∈X.ex,b≠X.env.locals/\∀ x c,X.env.cells.lookup x=some c->c≠b
 bs:∀ b o,X.base.get? b=some o->X.s₀.heap.get? b=some o/\X.H₀ b=none
 bsz:X.base.objs.size<=X.s₀.heap.objs.size
 Eo:∀ b o,X.base.get? b=some o->b ∉ X.ex
 IP:∀ b∈X.ex,b ∉ X.fs
 ni:X.s₀.heap.FunFrames X.base X.outer
 frf:∀ b∈X.fs,X.H₀ b=none
structure Inv(X:Cx)(gV:List (Addr×Obj))(σ:List (Option V))(H:Hp)(s:Shared):Prop where
 ok:X.Ok
 os:s.os=X.s₀.os
 bare:AllBare s.gens
 base:Un X.fs X.ex X.H₀ H X.s₀.heap s.heap
 loc:∃ m,s.heap.Ns X.env.locals m/\∀(i:Nat)(x:Str)(v:V),X.N[i]? = some x->σ[i]? = some (some v)->Vis X.env.scope x->∃ u,RelV v u/\Look X.env s.heap m x u
 cell:∀ x c,X.env.cells.lookup x=some c->∃ v,s.heap.IsCell c v
 free:H X.env.locals=none
 eQ:∀ x c,X.env.cells.lookup x=some c->H c=none
 pin:∀ p∈X.pn++gV,s.heap.get? p.1=some p.2/\H p.1=none/\p.1≠X.env.locals/\p.1 ∉ X.fs/\∀ v,p.2.data ≠ .cell v
 hok:HOk X.prog X.w H s.heap
 len:σ.length=X.N.length
variable{ch:List Addr}{t':Nat}{it:Addr}{N:List Str}{j:Nat}{x:Str}{u:Value}{s':Shared}
section
variable{X:Cx}{gV:List (Addr×Obj)}{σ:List (Option V)}{H':Hp}{s:Shared}{h':Heap}
theorem Cx.Ok.RA(ok:X.Ok){b:Addr}{o:Obj}(e:X.base.get? b=some o):b ∉ X.fs:=fun hb=>by
 have:=(ok.ni.mem hb).1
 rw[e]at this;cases this
theorem Inv.bs(I:Inv X gV σ H s):∀ b o,X.base.get? b=some o->s.heap.get? b=some o/\H b=none:=fun b o e =>
 ⟨I.base.keep b o (I.ok.bs b o e).1 (I.ok.bs b o e).2 (I.ok.RA e) (I.ok.Eo b o e),I.base.free b o (I.ok.bs b o e).1 (I.ok.bs b o e).2 (I.ok.Eo b o e)⟩
theorem Inv.bk(I:Inv X gV σ H s):∀ b o,X.base.get? b=some o->s.heap.get? b=some o:=fun b o e=>(I.bs b o e).1
theorem Inv.mod(I:Inv X gV σ H s):Mod X.K X.mg X.base:=I.ok.mod
theorem Inv.kIn(I:Inv X gV σ H s):X.K.In s.heap:=I.ok.mod.kin.keeps I.bk
theorem Inv.lt(I:Inv X gV σ H s):X.env.locals<s.heap.objs.size:=let⟨_,hn,_⟩:=I.loc;hn.lt
theorem Inv.sz(I:Inv X gV σ H s):X.s₀.heap.objs.size<=s.heap.objs.size:=Tn I.ok.above (Tr I.lt)
theorem Inv.Ou(I:Inv X gV σ H s)(h:s.heap.objs.size<=a):a ∉ X.fs:=fun hb=>by
 obtain⟨_,o,ho,_⟩:=I.ok.ni.mem hb;exact absurd (Tq (Sy ho) (Tn I.sz h)) (Um _)
theorem Inv.cne(I:Inv X gV σ H s):∀ x c,X.env.cells.lookup x=some c->c≠X.env.locals:=fun x c e z=>by
 obtain⟨v,o,ho,hd⟩:=I.cell x c e;obtain⟨m,⟨o',es,ep,ho',hd',_⟩,_⟩:=I.loc;rw[z,ho']at ho;cases ho;rw[hd']at hd;cases hd
theorem Inv.ni(I:Inv X gV σ H s):s.heap.FunFrames X.base X.outer:=by
 have all:∀(l:List Env),(∀ b∈frs l,b∈X.fs)->X.s₀.heap.FunFrames X.base l->s.heap.FunFrames X.base l:=by
  intro l
  induction l with
  | nil=>intro _ _;trivial
  | cons env r ih =>
   intro hs hl;obtain⟨hk,⟨L,o,hf,hn,ho,hd⟩,hr⟩:=hl;have hL:L∈X.fs:=hs L (by unfold frs;rw[Vk,hf];exact SG)
   obtain⟨sl,e⟩:=I.base.slot L o ho (I.ok.frf L hL) hL fun z=>I.ok.IP L z hL
   exact⟨hk,⟨L,_,hf,hn,e,hd⟩,ih (fun b hb=>hs b (by unfold frs;rw[Vk,hf];exact SK _ hb)) hr⟩
 exact all X.outer (fun _ hb=>hb) I.ok.ni
theorem Inv.stack(I:Inv X gV σ H s):s.heap.FunFrames X.base X.stack:=by
 rcases I.ok.stk with e |⟨e,hf⟩
 ·rw[e];exact I.ni
 ·rw[e];obtain⟨m,hn,_⟩:=I.loc;refine .cons (by rw[I.ok.kind];decide) hf hn ?_ I.ni
  exact Heap.get?_none_of_le (Tn I.ok.bsz I.ok.above)
theorem Inv.se(I:Inv X gV σ H s):∀ b∈frs X.stack,b∈X.env.locals::X.fs:=fun b hb=>by
 rcases I.ok.stk with e |⟨e,hf⟩
 ·rw[e]at hb;exact SK _ hb
 ·rw[e]at hb;unfold frs at hb;rw[Vk,hf]at hb;exact hb
theorem Inv.y8(I:Inv X gV σ H s):∀ b∈frs X.stack,H b=none:=fun b hb=>by
 rcases S1.mp (I.se b hb)with e|hb
 ·rw[e];exact I.free
 ·obtain⟨_,o,ho,_⟩:=I.ok.ni.mem hb;exact I.base.free b o ho (I.ok.frf b hb) fun z=>I.ok.IP b z hb
theorem Inv.step{g':Array VW}{t':Nat}{d':Drawn}(I:Inv X gV σ H s)
  (hch:∀ b∈ch,(b∈X.ex\/X.s₀.heap.objs.size<=b)/\b≠X.env.locals/\(∀ x c,X.env.cells.lookup x=some c->c≠b)/\∀ p∈X.pn++gV,p.1≠b)
  (keep:∀ b o,b≠X.env.locals->b ∉ X.fs->b ∉ ch->s.heap.get? b=some o->H b=none->h'.get? b=some o)
  (slot:∀ b o,b≠X.env.locals->b∈X.fs->b ∉ ch->s.heap.get? b=some o->H b=none->∃ sl,h'.get? b=some { o with slots:=sl }) (free:∀ b o,b ∉ ch->s.heap.get? b=some o->H b=none->H' b=none)
  (there:∀ b o,b ∉ ch->s.heap.get? b=some o->∃ o',h'.get? b=some o')
  (nV:∀ b xs,H b=some (.tup xs)->H' b=some (.tup xs)) (j9:∀ b o u,H b=some (.frz o u)->H' b=some (.frz o u)) (nW:∀ b ps,H b=some (.tbl ps)->∃ more,H' b=some (.tbl (ps++more)))
  (ns:∀ m,s.heap.Ns X.env.locals m->h'.Ns X.env.locals m) (hok:HOk X.prog X.w H' h') (hg:AllBare g') :
  Inv X gV σ H' { s with heap:=h',gens:=g',drawn:=d',toks:=t' }:=by
 have neL:∀ b o,X.s₀.heap.get? b=some o->b≠X.env.locals:=fun b o e=>Tf (Tq (Sy e) I.ok.above)
 have neC:∀ b o,X.s₀.heap.get? b=some o->b ∉ X.ex->b ∉ ch:=fun b o e hx hb=>by
  rcases(hch b hb).1 with z|z
  ·exact hx z
  ·exact absurd (Tq (Sy e) z) (Um _)
 have cellK:∀ x c,X.env.cells.lookup x=some c->∀ v,s.heap.IsCell c v->h'.IsCell c v:=fun x c e v ⟨o,ho,hd⟩=>by
  have nch:c ∉ ch:=fun z=>(hch c z).2.2.1 x c e rfl
  by_cases hc:c∈X.fs
  ·obtain⟨sl,q⟩:=slot c o (I.cne x c e) hc nch ho (I.eQ x c e);exact⟨_,q,hd⟩
  ·exact⟨o,keep c o (I.cne x c e) hc nch ho (I.eQ x c e),hd⟩
 refine⟨I.ok,I.os,hg,⟨fun b o e n hb hx=>?_,fun b o e n hb hx=>?_,fun b o e n hx=>?_,fun b o e hx=>?_,fun b xs e=>nV b xs (I.base.nV b xs e),fun b o xs e=>j9 b o xs (I.base.j9 b o xs e),fun b ps e=>?_⟩,?_,fun x c e=>?_,?_,fun x c e=>?_,fun p hp=>?_,hok,I.len⟩
 ·exact keep b o (neL b o e) hb (neC b o e hx) (I.base.keep b o e n hb hx) (I.base.free b o e n hx)
 ·obtain⟨sl,e1⟩:=I.base.slot b o e n hb hx;obtain⟨sl',e2⟩:=slot b _ (neL b o e) hb (neC b o e hx) e1 (I.base.free b o e n hx);exact⟨sl',e2⟩
 ·obtain⟨o',e1⟩:=I.base.there b o e hx;exact free b o' (neC b o e hx) e1 (I.base.free b o e n hx)
 ·obtain⟨o',e1⟩:=I.base.there b o e hx;exact there b o' (neC b o e hx) e1
 ·obtain⟨m1,e1⟩:=I.base.nW b ps e;obtain⟨m2,e2⟩:=nW b _ e1;exact⟨m1++m2,by rw[e2,Array.append_assoc]⟩
 ·obtain⟨m,hn,hl⟩:=I.loc;refine⟨m,ns m hn,fun i x v e1 e2 e3=>?_⟩
  obtain⟨u,r,l⟩:=hl i x v e1 e2 e3;refine⟨u,r,?_⟩;rcases l with l |⟨k,c,e,z⟩
  ·exact .inl l
  ·exact .inr ⟨k,c,e,cellK x c e _ z⟩
 ·obtain⟨v,z⟩:=I.cell x c e;exact⟨v,cellK x c e v z⟩
 ·obtain⟨m,⟨o,_,_,ho,_⟩,_⟩:=I.loc;exact free _ o (fun z=>(hch _ z).2.1 rfl) ho I.free
 ·obtain⟨v,o,ho,hd⟩:=I.cell x c e;exact free c o (fun z=>(hch c z).2.2.1 x c e rfl) ho (I.eQ x c e)
 ·obtain⟨e,n,ne,nf,d⟩:=I.pin p hp;have nch:p.1 ∉ ch:=fun z=>(hch p.1 z).2.2.2 p hp rfl
  exact⟨keep p.1 p.2 ne nf nch e n,free p.1 p.2 nch e n,ne,nf,d⟩
theorem Inv.un(I:Inv X gV σ H s)(u:Un X.fs [] H H' s.heap h')(hok:HOk X.prog X.w H' h'):Inv X gV σ H' { s with heap:=h',toks:=t' }:=by
 obtain⟨m,⟨o,es,ep,ho,r⟩,_⟩:=id I.loc;obtain⟨sl,hL⟩:=u.any ho I.free (by simp)
 exact I.step (g':=s.gens) (d':=s.drawn) (ch:=[]) (fun _ z=>nomatch z) (fun b o _ hb _ e n=>u.keep b o e n hb (by simp)) (fun b o _ hb _ e n=>u.slot b o e n hb (by simp)) (fun b o _ e n=>u.free b o e n (by simp)) (fun b o _ e=>u.there b o e (by simp)) u.nV u.j9 u.nW (fun m' hm=>by
  obtain⟨o',es',ep',ho',r'⟩:=hm;rw[ho]at ho';cases ho';exact⟨_,es',ep',hL,r'⟩) hok I.bare
theorem Inv.call{g':Array VW}{t':Nat}{d':Drawn}{ch:List Addr}(I:Inv X gV σ H s)(u:Un (frs X.stack) ch H H' s.heap h')(hok:HOk X.prog X.w H' h')(hg:AllBare g')
  (hch:∀ b∈ch,(b∈X.ex\/X.s₀.heap.objs.size<=b)/\b≠X.env.locals/\(∀ x c,X.env.cells.lookup x=some c->c≠b)/\∀ p∈X.pn++gV,p.1≠b) :
  Inv X gV σ H' { s with heap:=h',gens:=g',drawn:=d',toks:=t' }:=by
 obtain⟨m,⟨o,es,ep,ho,r⟩,_⟩:=id I.loc;obtain⟨sl,hL⟩:=u.any ho I.free fun z=>(hch _ z).2.1 rfl
 exact I.step (ch:=ch) hch (fun b o hL hb hc e n=>u.keep b o e n (fun z=>(S1.mp (I.se b z)).elim hL hb) hc) (fun b o _ _ hc e n=>u.any e n hc) (fun b o hc e n=>u.free b o e n hc) (fun b o hc e=>u.there b o e hc) u.nV u.j9 u.nW (fun m' hm=>by
  obtain⟨o',es',ep',ho',r'⟩:=hm;rw[ho]at ho';cases ho';exact⟨_,es',ep',hL,r'⟩) hok hg
theorem Inv.turned(I:Inv X gV σ H s)(k:∀ b o,b≠it->s.heap.get? b=some o->h'.get? b=some o)(hn:H it=none)(hL:it≠X.env.locals)
  (h1:it∈X.ex\/X.s₀.heap.objs.size<=it) (h2:∀ x c,X.env.cells.lookup x=some c->c≠it) (h3:∀ p∈X.pn++gV,p.1≠it):Inv X gV σ H { s with heap:=h',toks:=t' }:=by
 have nit:∀ b u,H b=some u->b≠it:=fun b u e z=>by rw[z,hn]at e;cases e
 refine I.step (g':=s.gens) (d':=s.drawn) (ch:=[it]) (fun b hb=>?_) (fun b o _ _ hc e _=>k b o (fun z=>hc (by simp[z])) e) (fun b o _ _ hc e _=>⟨o.slots,k b o (fun z=>hc (by simp[z])) e⟩) (fun _ _ _ _ n=>n)
  (fun b o hc e=>⟨o,k b o (fun z=>hc (by simp[z])) e⟩) (fun _ _ e=>e) (fun _ _ _ e=>e) (fun b ps e=>⟨#[],by rw[e];simp⟩) (fun m hm=>?_) (fun b u e=>?_) I.bare
 ·have e:b=it:=by simpa using hb
  subst e;exact⟨h1,hL,h2,h3⟩
 ·obtain⟨o,es,ep,ho,r⟩:=hm;exact⟨o,es,ep,k _ o (Ne.symm hL) ho,r⟩
 ·refine(I.hok b u e).cY (fun c v hc q=>k c v ?_ q) (fun _ q=>q) fun _ _ q=>q
  rcases hc with z|z
  ·rw[z];exact nit b u e
  ·exact nit c _ z
theorem Inv.tok(I:Inv X gV σ H s)(t:Nat):Inv X gV σ H { s with toks:=t }:=I.un (h':=s.heap) (t':=t) Un.refl I.hok
theorem Inv.kept{t':Nat}(I:Inv X gV σ H s)(k:∀ b u,s.heap.get? b=some u->h'.get? b=some u):Inv X gV σ H { s with heap:=h',toks:=t' }:=I.un (Un.kept k) (I.hok.kept k)
theorem Inv.laid{a:Addr}{o:HO}{t':Nat}(I:Inv X gV σ H s)(k:∀ b u,s.heap.get? b=some u->h'.get? b=some u)(hp:s.heap.objs.size<=a)(new:a5 X.prog X.w (upd H a o) h' a o) :
  Inv X gV σ (upd H a o) { s with heap:=h',toks:=t' }:=I.un (Un.laid k hp (I.hok.fresh hp)) (I.hok.laid k hp new)
theorem Inv.write{x e:Addr}{o:HO}{t':Nat}(I:Inv X gV σ H s)(mu:Mut (H x))(he:e=x\/H e=some (.own x))(k:∀ b u,b≠e->s.heap.get? b=some u->h'.get? b=some u)(heo:∃ u,h'.get? e=some u)
  (new:a5 X.prog X.w (upd H x o) h' x o):Inv X gV σ (upd H x o) { s with heap:=h',toks:=t' }:=I.un (Un.write mu he k heo) (I.hok.write mu he k heo new)
theorem Inv.kM{pins':List (Addr×Obj)}(I:Inv X gV σ H s)(h:∀ p∈pins',s.heap.get? p.1=some p.2/\H p.1=none/\p.1≠X.env.locals/\p.1 ∉ X.fs/\∀ v,p.2.data ≠ .cell v):Inv X pins' σ H s :=
 ⟨I.ok,I.os,I.bare,I.base,I.loc,I.cell,I.free,I.eQ,fun p hp=>(SY.mp hp).elim (fun z=>I.pin p (Tj _ z)) (h p),I.hok,I.len⟩
theorem vW(hN:N.Nodup){i:Nat}(a:N[i]? = some x)(b:N[j]? = some x):i=j:=by
 obtain⟨h1,e1⟩:=QH.mp a;obtain⟨h2,e2⟩:=QH.mp b;exact(Wi hN).mp (e1.trans e2.symm)
theorem AQ{M:Model}{A:Around}{E:Value->Shared->Prop}{i:Nat}{v:V}{Q:Unit->Shared->Prop}(I:Inv X gV σ H s)(hN:X.N.Nodup)(hi:X.N[i]? = some x)(hx:Loc X.env.scope x)(r:RelV v u)
  (h:∀ s',Inv X gV (σ.set i (some v)) H s' ->(∃ a,T7 a s.heap s'.heap/\(a=X.env.locals\/X.env.cells.lookup x=some a))->Q () s') (hf:X.fn x=true\/X.env.scope.names.lookup x=some .local:=by first|exact .inl rfl|exact .inr rfl|assumption):wpAny M A (storeName X.env x u) Q E s:=by
 obtain⟨m,hn,hl⟩:=id I.loc;have Sb:(X.env.scope.kind == .class ||(X.env.scope.kind == .module&&X.env.locals != X.env.globals))=false:=by rw[I.ok.kind];rfl
 have hiσ:i < σ.length:=by rw[I.len];exact(QH.mp hi).1
 have cne:=I.cne;have tracked:∀{a:Addr}{h':Heap},(∃ o,s.heap.get? a=some o/\H a=none)->T7 a s.heap h'->HOk X.prog X.w H h':=fun{a h'} ha hs b ob e=>by
  obtain⟨_,_,g6⟩:=ha;refine(I.hok b ob e).cY (fun c w' hc q=>(hs.2 c ?_).trans q) (fun _ q=>q) fun _ _ q=>q
  rintro rfl
  rcases hc with rfl|hc
  ·rw[g6]at e;cases e
  ·rw[g6]at hc;cases hc
 rcases hx with hk|hk
 ·refine wpAny_storeName_local hk hn (fun h' hn' hs=>?_) Sb
  obtain⟨oL,_,_,hoL,_⟩:=id hn;refine h _ ⟨I.ok,I.os,I.bare,⟨fun b o e n hb hx=>?_,fun b o e n hb hx=>?_,I.base.free,fun b o e hx=>?_,I.base.nV,I.base.j9,I.base.nW⟩,⟨_,hn',fun j y v' e1 e2 e3=>?_⟩,fun y c e=>?_,I.free,I.eQ,fun p hp=>?_,tracked ⟨oL,hoL,I.free⟩ hs,by simpa using I.len⟩ ⟨_,hs,.inl rfl⟩
  ·exact(hs.2 b (Tf (Tq (Sy e) I.ok.above))).trans (I.base.keep b o e n hb hx)
  ·obtain⟨sl,e1⟩:=I.base.slot b o e n hb hx;exact⟨sl,(hs.2 b (Tf (Tq (Sy e) I.ok.above))).trans e1⟩
  ·obtain⟨o',e1⟩:=I.base.there b o e hx;exact⟨o',(hs.2 b (Tf (Tq (Sy e) I.ok.above))).trans e1⟩
  ·by_cases hj:j=i
   ·subst hj;rw[hi]at e1;cases e1;rw[T4 hiσ]at e2;cases e2;exact⟨u,r,.inl ⟨hk,by simp⟩⟩
   ·rw[TV (Ne.symm hj)]at e2;obtain⟨u',r',q⟩:=hl j y v' e1 e2 e3;refine⟨u',r',?_⟩;rcases q with⟨k,e⟩ |⟨k,c,e,z⟩
    ·refine .inl ⟨k,?_⟩
     have:y≠x:=fun e=>hj (vW hN e1 (e▸hi))
     simp[this,e]
    ·exact .inr ⟨k,c,e,z.sameBut hs (cne y c e)⟩
  ·obtain⟨w',z⟩:=I.cell y c e;exact⟨w',z.sameBut hs (cne y c e)⟩
  ·obtain⟨e,n,ne,nf,d⟩:=I.pin p hp;exact⟨(hs.2 p.1 ne).trans e,n,ne,nf,d⟩
 ·have hfn:X.fn x=true:=by
   rcases hf with z|z
   ·exact z
   ·rw[z]at hk;cases hk
  obtain⟨c,hc⟩:=I.ok.has x (.inl hk);obtain⟨w',z⟩:=I.cell x c hc;refine wpAny_storeName_cell I.ok.kind hk hc z (fun h' hc' hs=>?_)
  obtain⟨oc,hoc,RW⟩:=id z;refine h { s with heap:=h' } ⟨I.ok,I.os,I.bare,⟨fun b o e n hb hx=>?_,fun b o e n hb hx=>?_,I.base.free,fun b o e hx=>?_,I.base.nV,I.base.j9,I.base.nW⟩,⟨m,hn.sameBut hs (Ne.symm (cne x c hc)),fun j y v' e1 e2 e3=>?_⟩,fun y c' e=>?_,I.free,I.eQ,fun p hp=>?_,tracked ⟨oc,hoc,I.eQ x c hc⟩ hs,by simpa using I.len⟩ ⟨c,hs,.inr hc⟩
  ·exact(hs.2 b (Tf (Tq (Sy e) (I.ok.cab x c hfn hc)))).trans (I.base.keep b o e n hb hx)
  ·obtain⟨sl,e1⟩:=I.base.slot b o e n hb hx;exact⟨sl,(hs.2 b (Tf (Tq (Sy e) (I.ok.cab x c hfn hc)))).trans e1⟩
  ·obtain⟨o',e1⟩:=I.base.there b o e hx;exact⟨o',(hs.2 b (Tf (Tq (Sy e) (I.ok.cab x c hfn hc)))).trans e1⟩
  ·by_cases hj:j=i
   ·subst hj;rw[hi]at e1;cases e1;rw[T4 hiσ]at e2;cases e2;exact⟨u,r,.inr ⟨.inl hk,c,hc,hc'⟩⟩
   ·rw[TV (Ne.symm hj)]at e2;obtain⟨u',r',q⟩:=hl j y v' e1 e2 e3;refine⟨u',r',?_⟩;rcases q with q |⟨k,c',e,z'⟩
    ·exact .inl q
    ·refine .inr ⟨k,c',e,z'.sameBut hs ?_⟩
     rintro rfl
     exact hj (vW hN e1 (I.ok.inj _ _ _ e hc▸hi))
  ·by_cases hcc:c'=c
   ·subst hcc;exact⟨_,hc'⟩
   ·obtain⟨w2,z2⟩:=I.cell y c' e;exact⟨w2,z2.sameBut hs hcc⟩
  ·obtain⟨e,n,ne,nf,d⟩:=I.pin p hp;refine⟨(hs.2 p.1 ?_).trans e,n,ne,nf,d⟩;intro q;rw[q,hoc]at e;have q':oc=p.2:=Option.some.inj e;exact d w' (by rw[<- q'];exact RW)
theorem iu{M:Model}{A:Around}{E:Value->Shared->Prop}{i:Nat}{v:V}{Q:Unit->Shared->Prop}(I:Inv X gV σ H s)(hN:X.N.Nodup)(hi:X.N[i]? = some x)(hx:Loc X.env.scope x)(r:RelV v u)
  (h:∀ s',Inv X gV (σ.set i (some v)) H s'->Q () s') (hf:X.fn x=true\/X.env.scope.names.lookup x=some .local:=by first|exact .inl rfl|exact .inr rfl|assumption):wpAny M A (storeName X.env x u) Q E s :=
 AQ I hN hi hx r (fun s' I' _=>h s' I') hf
theorem Inv.Pu(I:Inv X gV σ H s)(ho:s'.os=s.os)(u:Un (frs X.stack) ch H H' s.heap s'.heap)(hok:HOk X.prog X.w H' s'.heap)(hg:AllBare s'.gens)
  (hch:∀ b∈ch,(b∈X.ex\/X.s₀.heap.objs.size<=b)/\b≠X.env.locals/\(∀ x c,X.env.cells.lookup x=some c->c≠b)/\∀ p∈X.pn++gV,p.1≠b):Inv X gV σ H' s':=by
 obtain⟨h',g',d',t',o'⟩:=s';have e:o'=s.os:=ho;subst e;exact I.call (g':=g') (t':=t') (d':=d') u hok hg hch
end
abbrev XK:=Value->Option Addr->Hp->Prop
abbrev St:=List (Option V)
abbrev VK:=V->Hp->Prop
abbrev TE:=St->Hp->VK->Prop
abbrev TT:=St->Hp ->(Bool->Hp->Prop)->Prop
abbrev TA:=St->Hp ->(List V->Hp->Prop)->Prop
structure Ends where
 nx:St->Hp->Prop
 rt:VK
 bk:St->Hp->Prop:=fun _ _=>False
 ct:St->Hp->Prop:=fun _ _=>False
abbrev TS:=Ends->St->Hp->Prop
def EP(X:Cx)(gV:List (Addr×Obj))(σ:St)(Q:VK)(u:Value)(s':Shared):Prop:=∃ v H',Inv X gV σ H' s'/\RelV v u/\Q v H'
def TP(X:Cx)(gV:List (Addr×Obj))(σ:St)(Q:Bool->Hp->Prop)(b:Bool)(s':Shared):Prop:=∃ H',Inv X gV σ H' s'/\Q b H'
def AP(X:Cx)(gV:List (Addr×Obj))(σ:St)(Q:List V->Hp->Prop)(us:List Value)(s':Shared):Prop:=∃ vs H',Inv X gV σ H' s'/\Vals vs us/\Q vs H'
def SP(X:Cx)(gV:List (Addr×Obj))(D:Ends)(f:Flow)(s':Shared):Prop :=
 match f with
 | .next=>∃ σ' H',Inv X gV σ' H' s'/\D.nx σ' H'
 | .brk=>∃ σ' H',Inv X gV σ' H' s'/\D.bk σ' H'
 | .cont=>∃ σ' H',Inv X gV σ' H' s'/\D.ct σ' H'
 | .ret u=>∃ v σ' H',Inv X gV σ' H' s'/\RelV v u/\D.rt v H'
def PE(X:Cx)(e:Expr)(t:TE):Prop :=
 ∀(gV:List (Addr×Obj))(s:Shared)(σ:St)(H:Hp)(Q:VK),Inv X gV σ H s->t σ H Q->wpAny (model X.prog X.w) X.A (eval e X.env) (EP X gV σ Q) X.xe s
def PT(X:Cx)(e:Expr)(t:TT):Prop :=
 ∀(gV:List (Addr×Obj))(s:Shared)(σ:St)(H:Hp)(Q:Bool->Hp->Prop),Inv X gV σ H s->t σ H Q->wpAny (model X.prog X.w) X.A (isTrue e X.env (eval e X.env)) (TP X gV σ Q) X.xe s
def PW(X:Cx)(e:Expr)(t:TT):Prop :=
 ∀(whole:Sem Value)(gV:List (Addr×Obj))(s:Shared)(σ:St)(H:Hp)(Q:Bool->Hp->Prop),Inv X gV σ H s->t σ H Q->wpAny (model X.prog X.w) X.A (isTrue e X.env whole) (TP X gV σ Q) X.xe s
variable{X:Cx}{e:Expr}
theorem PW.pt{t:TT}(h:PW X e t):PT X e t:=h _
def PA(X:Cx)(es:List Expr)(t:TA):Prop :=
 ∀(pos:Pos)(gV:List (Addr×Obj))(s:Shared)(σ:St)(H:Hp)(Q:List V->Hp->Prop),Inv X gV σ H s->t σ H Q->wpAny (model X.prog X.w) X.A (spliced (backTo pos (SN es X.env))) (AP X gV σ Q) X.xe s
def PS(X:Cx)(st:Stmt)(t:TS):Prop :=
 ∀(gV:List (Addr×Obj))(s:Shared)(σ:St)(H:Hp)(D:Ends),Inv X gV σ H s->t D σ H->wpAny (model X.prog X.w) X.A (exec st X.env) (SP X gV D) X.xe s
def PSs(X:Cx)(st:List Stmt)(t:TS):Prop :=
 ∀(gV:List (Addr×Obj))(s:Shared)(σ:St)(H:Hp)(D:Ends),Inv X gV σ H s->t D σ H->wpAny (model X.prog X.w) X.A (execs st X.env) (SP X gV D) X.xe s
variable{M:Model}{A:Around}{E:Value->Shared->Prop}
theorem thn{α:Type}{t:Sem α}{Q Q':α->Shared->Prop}{s:Shared}(h:wpAny M A t Q E s)(hQ:∀ a s,Q a s->Q' a s):wpAny M A t Q' E s:=Uk h hQ fun _ _ x=>x
variable{gV:List (Addr×Obj)}{Q:Value->Shared->Prop}
section
def bb(i:Nat):TE:=fun σ H Q=>∃ v,σ[i]? = some (some v)/\Q v H
def tC(v:V):TE:=fun _ H Q=>Q v H
theorem xH{i:Nat}{pos:Pos}(hN:X.N[i]? = some x)(hv:Vis X.env.scope x)(hd:(x ==("__debug__":Str))=false:=by decide)(hcd:(x ==("__classdict__":Str))=false:=by decide):PE X (.Name x pos) (bb i):=by
 intro gV s σ H Q I h;obtain⟨v,e,h⟩:=h;obtain⟨m,hn,hl⟩:=I.loc;obtain⟨u,r,l⟩:=hl i x v hN e hv;have fin:EP X gV σ Q u s:=⟨v,H,I,r,h⟩;rcases l with⟨hk,hm⟩ |⟨hk,c,hc,gp⟩
 ·exact wpAny_Name (wpAny_loadName_local I.ok.kind hk hn hm fin) hd
 ·rcases hk with hk|hk
  ·exact wpAny_Name (wpAny_loadName_cell I.ok.kind hk hc gp fin) hd
  ·exact wpAny_Name (wpAny_loadName_free I.ok.kind hk hc gp fin hcd) hd
theorem br{i j pos}:PE X (.Constant (.int i) j pos) (tC (.int i)):=fun _ _ _ H _ I h=>wpAny_Constant_int ⟨.int i,H,I.tok _,⟨_,rfl⟩,h⟩
theorem N2{b j pos}:PE X (.Constant (.bool b) j pos) (tC (.bl b)):=fun _ _ _ H _ I h=>Constant_bool ⟨.bl b,H,I,rfl,h⟩
theorem Lv{j pos}:PE X (.Constant .none j pos) (tC .non):=fun _ _ _ H _ I h=>Constant_none ⟨.non,H,I,rfl,h⟩
theorem cO{x j pos}:PE X (.Constant (.str x) j pos) (tC (.str x)):=fun _ _ _ H _ I h=>Calls.Constant_str ⟨.str x,H,I.tok _,⟨_,rfl⟩,h⟩
def Gl(X:Cx)(x:Str):Prop:=X.env.kindOf x=some .globalImplicit
theorem zN{E:Value->Shared->Prop}{s:Shared}{σ:St}{pos:Pos}(I:Inv X gV σ H s)(hg:Gl X x)(hm:X.mg x=some u)(h:Q u s)
  (hd:(x ==("__debug__":Str))=false:=by decide):wpAny (model X.prog X.w) X.A (eval (.Name x pos) X.env) Q E s :=
 Calls.Name_function_global I.ok.kind hg (Calls.loadGlobal_global (by rw[I.ok.glob];exact I.mod.glob.keeps I.bk) hm h) hd
theorem dY{E:Value->Shared->Prop}{s:Shared}{σ:St}{pos:Pos}(I:Inv X gV σ H s)(hg:Gl X x)(hm:X.mg x=none)(hv:bootBuiltins x=some u)(h:Q u s)
  (hn:x ≠ "__name__":=by decide) (hd:(x ==("__debug__":Str))=false:=by decide):wpAny (model X.prog X.w) X.A (eval (.Name x pos) X.env) Q E s:=by
 obtain⟨mb,h1,h2⟩:=I.mod.blt;exact Calls.Name_function_global I.ok.kind hg (Calls.loadGlobal_builtin (by rw[I.ok.glob];exact I.mod.glob.keeps I.bk) hm (by rw[I.ok.blt];exact h1.keeps I.bk) ((h2 x hn).trans hv) h) hd
theorem HM{v:V}{pos:Pos}(hg:Gl X x)(hm:X.mg x=none)(hv:bootBuiltins x=some u)(r:RelV v u)(hn:x ≠ "__name__":=by decide)(hd:(x ==("__debug__":Str))=false:=by decide):PE X (.Name x pos) (tC v) :=
 fun _ _ _ H _ I h=>dY I hg hm hv ⟨v,H,I,r,h⟩ hn hd
variable{a b:Expr}{ta tb:TE}{pos:Pos}
variable{tA tB':TT}{rest:List Expr}
def Kv(t u:TT):TT:=fun σ H Q=>t σ H fun c H1=>if c=true then u σ H1 Q else Q false H1
def tOr(t u:TT):TT:=fun σ H Q=>t σ H fun c H1=>if c=true then Q true H1 else u σ H1 Q
def Ku(t:TT):TT:=fun σ H Q=>t σ H fun c H1=>Q (!c) H1
theorem zt(ha:PT X a tA):PW X (.BoolOp .And [a] pos) tA:=by
 intro wh gV s σ H Q I h;refine isTrue_and (thn (ha gV s σ H Q I h) fun c s1 e=>?_)
 cases c with
 | true=>exact isTrue_and_nil e
 | false=>exact e
theorem Ld(ha:PT X a tA):PW X (.BoolOp .Or [a] pos) tA:=by
 intro wh gV s σ H Q I h;refine isTrue_or (thn (ha gV s σ H Q I h) fun c s1 e=>?_)
 cases c with
 | false=>exact isTrue_or_nil e
 | true=>exact e
theorem DO(ha:PT X a tA)(hb:PW X (.BoolOp .And (b::rest) pos) tB'):PW X (.BoolOp .And (a::b::rest) pos) (Kv tA tB'):=by
 intro wh gV s σ H Q I h;refine isTrue_and (thn (ha gV s σ H _ I h) fun c s1 hPP=>?_)
 obtain⟨H1,I1,q1⟩:=hPP;cases c with
 | true=>exact hb wh gV s1 σ H1 Q I1 q1
 | false=>exact⟨H1,I1,q1⟩
theorem NK(ha:PT X a tA)(hb:PW X (.BoolOp .Or (b::rest) pos) tB'):PW X (.BoolOp .Or (a::b::rest) pos) (tOr tA tB'):=by
 intro wh gV s σ H Q I h;refine isTrue_or (thn (ha gV s σ H _ I h) fun c s1 hPP=>?_)
 obtain⟨H1,I1,q1⟩:=hPP;cases c with
 | true=>exact⟨H1,I1,q1⟩
 | false=>exact hb wh gV s1 σ H1 Q I1 q1
theorem Lg(ha:PT X a tA):PT X (.UnaryOp .Not a pos) (Ku tA):=by
 intro gV s σ H Q I h;exact isTrue_not (ha gV s σ H (fun c H1=>Q (!c) H1) I h)
def Cz(ta tb:TE):TE:=fun σ H Q=>ta σ H fun x H1=>∃ c,x = .bl c/\if c=true then tb σ H1 Q else Q (.bl false) H1
theorem Lu{op}{t:TE}(h:PE X a t):PE X (.BoolOp op [a] pos) t:=fun gV s σ H Q I hw=>BoolOp_one (h gV s σ H Q I hw)
theorem Lx(ha:PE X a ta)(hb:PE X (.BoolOp .And (b::rest) pos) tb):PE X (.BoolOp .And (a::b::rest) pos) (Cz ta tb):=by
 intro gV s σ H Q I h;refine BoolOp_and (thn (ha gV s σ H _ I h) fun v s1 hPP=>?_)
 obtain⟨x,H1,I1,r1,q1⟩:=hPP;obtain⟨c,rfl,q1⟩:=q1;cases r1;refine wpAny_truthy_bool ?_;cases c with
 | true=>exact hb gV s1 σ H1 Q I1 q1
 | false=>exact⟨.bl false,H1,I1,rfl,q1⟩
end
def SqL(K:W.Frag)(H:Hp)(a:Addr)(xs:List V):Prop :=
 Rd H a (.lst xs) \/
  ∃(o:Obj)(its:Array Value)(n:Nat),K.lookup a=some o/\o.cls = .type "list" /\ o.dict=none/\o.data = .seq its n/\its.size<=S4/\Vals xs its.toList
def SqT(K:W.Frag)(H:Hp)(a:Addr)(xs:List V):Prop :=
 Rd H a (.tup xs) \/
  ∃(o:Obj)(its:Array Value)(n:Nat),K.lookup a=some o/\o.cls = .type "tuple" /\ o.data = .seq its n/\its.size<=S4/\Vals xs its.toList
def Ss:Value->Option V
 | .none=>some .non
 | .bool b=>some (.bl b)
 | .int i _=>some (.int i)
 | .str x _=>some (.str x)
 | .bytes b _=>some (.byt b)
 | .float b _=>some (.flt b)
 | .ref a=>some (.ref a)
 | .type n=>some (.ty n)
 | _=>none
theorem RelV.abs{x:V}(r:RelV x u):Ss u=some x:=by
 cases x with
 | non=>cases r;rfl
 | bl _=>cases r;rfl
 | int _=>obtain⟨t,rfl⟩:=r;rfl
 | str _=>obtain⟨t,rfl⟩:=r;rfl
 | byt _=>obtain⟨t,rfl⟩:=r;rfl
 | flt _=>obtain⟨t,rfl⟩:=r;rfl
 | ref _=>cases r;rfl
 | ty _=>cases r;rfl
theorem RelV.inj{x y:V}{u:Value}(r:RelV x u)(q:RelV y u):x=y:=Option.some.inj (r.abs.symm.trans q.abs)
theorem Vals.inj:∀{xs ys:List V}{us:List Value},Vals xs us->Vals ys us->xs=ys:=by
 intro xs ys us h
 induction h generalizing ys with
 | nil=>intro h';cases h';rfl
 | cons r t ih=>intro h';cases h' with|cons r' t'=>rw[r.inj r',ih t']
section
variable{σ:St}{s:Shared}{xs ys:List V}
theorem SqL.of{K:W.Frag}(h:H a=some (.lst xs)):SqL K H a xs:=.inl (.inl h)
theorem SqT.of{K:W.Frag}(h:H a=some (.tup xs)):SqT K H a xs:=.inl (.inl h)
theorem Inv.list(I:Inv X gV σ H s)(h:SqL X.K H a xs):∃ its:List Value,Vals xs its/\PlainL s.heap a its.toArray/\xs.length<=S4:=by
 rcases h with h |⟨o,its,n,hk,hc,hd,hs,hz,r⟩
 ·obtain⟨z,its,n,r,e⟩:=h.ok I.hok;exact⟨its,r,⟨_,n,e,rfl,rfl,rfl⟩,z⟩
 ·refine⟨its.toList,r,⟨o,n,I.kIn a o hk,hc,hd,by simpa using hs⟩,?_⟩
  have e:=r.length;simp only[Ug]at e;omega
theorem Inv.tuple(I:Inv X gV σ H s)(h:SqT X.K H a xs):∃ its:List Value,Vals xs its/\IsTup s.heap a its.toArray/\xs.length<=S4:=by
 rcases h with h |⟨o,its,n,hk,hc,hs,hz,r⟩
 ·obtain⟨z,its,r,p⟩:=h.ok I.hok;exact⟨its,r,p.1,z⟩
 ·refine⟨its.toList,r,⟨o,I.kIn a o hk,hc,n,by simpa using hs⟩,?_⟩
  have e:=r.length;simp only[Ug]at e;omega
theorem Inv.v8(I:Inv X gV σ H s)(h:SqL X.K H a xs)(h':SqL X.K H a ys):xs=ys:=by
 obtain⟨its,r,⟨o,n,e,_,_,d⟩,_⟩:=I.list h;obtain⟨its',r',⟨o',n',e',_,_,d'⟩,_⟩:=I.list h';rw[e]at e';cases e';rw[d]at d';injection d' with d1 _
 have:its=its':=by simpa using congrArg Array.toList d1
 subst this;exact r.inj r'
theorem Inv.q5(I:Inv X gV σ H s)(h:SqT X.K H a xs)(h':SqT X.K H a ys):xs=ys:=by
 obtain⟨its,r,⟨o,e,_,n,d⟩,_⟩:=I.tuple h;obtain⟨its',r',⟨o',e',_,n',d'⟩,_⟩:=I.tuple h';rw[e]at e';cases e';rw[d]at d';injection d' with d1 _
 have:its=its':=by simpa using congrArg Array.toList d1
 subst this;exact r.inj r'
end
abbrev Cx.qE(X:Cx)(E:Value->Shared->Prop):Cx:={ X with xe:=E }
abbrev Cx.nox(X:Cx):Cx:=X.qE fun _ _=>False
theorem Cx.Ok.qE{X:Cx}(ok:X.Ok)(E:Value->Shared->Prop):(X.qE E).Ok :=
 ⟨ok.mod,ok.kind,ok.glob,ok.blt,ok.above,ok.inj,ok.has,ok.cab,ok.hd,ok.frames,ok.stk,ok.exf,ok.bs,ok.bsz,ok.Eo,ok.IP,ok.ni,ok.frf⟩
theorem Cx.Ok.ik(ok:(X.qE E).Ok):X.Ok :=
 ⟨ok.mod,ok.kind,ok.glob,ok.blt,ok.above,ok.inj,ok.has,ok.cab,ok.hd,ok.frames,ok.stk,ok.exf,ok.bs,ok.bsz,ok.Eo,ok.IP,ok.ni,ok.frf⟩
section
variable{σ:St}{s:Shared}
theorem Inv.qE(I:Inv X gV σ H s)(E:Value->Shared->Prop):Inv (X.qE E) gV σ H s:=⟨I.ok.qE E,I.os,I.bare,I.base,I.loc,I.cell,I.free,I.eQ,I.pin,I.hok,I.len⟩
theorem Inv.ik(I:Inv (X.qE E) gV σ H s):Inv X gV σ H s:=⟨I.ok.ik,I.os,I.bare,I.base,I.loc,I.cell,I.free,I.eQ,I.pin,I.hok,I.len⟩
theorem SP.ik{D:Ends}{f:Flow}{s':Shared}(h:SP (X.qE E) gV D f s'):SP X gV D f s':=by
 cases f with
 | next=>obtain⟨σ',H',I,q⟩:=h;exact⟨σ',H',I.ik,q⟩
 | brk=>obtain⟨σ',H',I,q⟩:=h;exact⟨σ',H',I.ik,q⟩
 | cont=>obtain⟨σ',H',I,q⟩:=h;exact⟨σ',H',I.ik,q⟩
 | ret u=>obtain⟨v,σ',H',I,r,q⟩:=h;exact⟨v,σ',H',I.ik,r,q⟩
theorem PSs.nox{st:List Stmt}{t:TS}(h:PSs X.nox st t):PSs X st t:=fun gV s σ H D I hw =>
 Uk (h gV s σ H D (I.qE _) hw) (fun _ _ q=>q.ik) fun _ _ z=>False.elim z
end
section
variable{st:Stmt}{rest:List Stmt}{t u:TS}{te:TE}{pos:Pos}
def JC:TS:=fun D σ H=>D.nx σ H
def MZ(t u:TS):TS:=fun D σ H=>t { D with nx:=u D } σ H
theorem zw:PSs X [] JC:=fun _ _ σ H _ I h=>wpAny_execs_nil ⟨σ,H,I,h⟩
theorem bQ(h1:PS X st t)(h2:PSs X rest u):PSs X (st::rest) (MZ t u):=by
 intro gV s σ H D I h;refine wpAny_execs_cons (thn (h1 gV s σ H { D with nx:=u D } I h) fun f s1 q=>?_)
 cases f with
 | next =>
  obtain⟨σ',H',I',q⟩:=q;exact h2 gV s1 σ' H' D I' q
 | ret v=>exact q
 | brk=>exact q
 | cont=>exact q
theorem gJ(h1:PS X st t):PSs X [st] t:=by
 intro gV s σ H D I h;refine wpAny_execs_cons (thn (h1 gV s σ H D I h) fun f s1 q=>?_)
 cases f with
 | next=>exact wpAny_execs_nil q
 | ret v=>exact q
 | brk=>exact q
 | cont=>exact q
theorem Inv.quiet{σ:St}{s:Shared}(I:Inv X gV σ H s):interactive X.env=false:=by simp[interactive,I.ok.kind]
def ip(te:TE):TS:=fun D σ H=>te σ H fun _ H1=>D.nx σ H1
theorem kK(he:PE X e te)(hs:swapsWith e none pos.line X.env=pure false:=by rfl):PS X (.Expr e pos) (ip te):=by
 intro gV s σ H D I h;exact wpAny_Expr_any (thn (he gV s σ H _ I h) fun v s1 ⟨x,H1,I1,r1,q1⟩=>⟨σ,H1,I1,q1⟩) I.quiet hs
def Gx(te:TE):TS:=fun D σ H=>te σ H D.rt
theorem lV(he:PE X e te):PS X (.Return (some e) pos) (Gx te):=by
 intro gV s σ H D I h;exact wpAny_Return_some (thn (he gV s σ H _ I h) fun v s1 ⟨x,H1,I1,r1,q1⟩=>⟨x,σ,H1,I1,r1,q1⟩)
def M3(c:TT)(t u:TS):TS:=fun D σ H=>c σ H fun b H1=>if b=true then t D σ H1 else u D σ H1
theorem JR{c:Expr}{a b:List Stmt}{tc:TT}(hc:PT X c tc)(ha:PSs X a t)(hb:PSs X b u):PS X (.If c a b pos) (M3 tc t u):=by
 intro gV s σ H D I h;refine wpAny_If (thn (hc gV s σ H _ I h) fun d s1 hPP=>?_)
 obtain⟨H1,I1,q1⟩:=hPP;cases d with
 | true=>exact ha gV s1 σ H1 D I1 q1
 | false=>exact hb gV s1 σ H1 D I1 q1
end
abbrev TG:=V->St->Hp ->(St->Hp->Prop)->Prop
abbrev TGs:=List V->St->Hp ->(St->Hp->Prop)->Prop
def PG(X:Cx)(target:Expr)(t:TG):Prop :=
 ∀(gV:List (Addr×Obj))(s:Shared)(σ:St)(H:Hp)(v:V)(u:Value)(Q:St->Hp->Prop),Inv X gV σ H s->RelV v u->t v σ H Q ->
  wpAny (model X.prog X.w) X.A (assign target X.env u) (fun _ s'=>∃ σ' H',Inv X gV σ' H' s'/\Q σ' H') X.xe s
def PGs(X:Cx)(ts:List Expr)(t:TGs):Prop :=
 ∀(gV:List (Addr×Obj))(s:Shared)(σ:St)(H:Hp)(vs:List V)(us:List Value)(Q:St->Hp->Prop),Inv X gV σ H s->Vals vs us->t vs σ H Q ->
  wpAny (model X.prog X.w) X.A (assignInOrder ((assignEach ts X.env).map (·.2)) us) (fun _ s'=>∃ σ' H',Inv X gV σ' H' s'/\Q σ' H') X.xe s
abbrev Ju:=V->V->V->Hp ->(Hp->Prop)->Prop
def Mz(X:Cx)(t:Ju):Prop :=
 ∀(gV:List (Addr×Obj))(s:Shared)(σ:St)(H:Hp)(o i v:V)(ov iv u:Value)(Q:Hp->Prop),Inv X gV σ H s->RelV o ov->RelV i iv->RelV v u->t o i v H Q ->
  wpAny (model X.prog X.w) X.A (setItem ov iv u) (fun _ s'=>∃ H',Inv X gV σ H' s'/\Q H') X.xe s
variable{es:List Expr}{n:Nat}{o:Expr}{to:TE}{tg:Expr}{te:TE}{pos':Pos}{b:Expr}{py:Pos}
section
variable{pos:Pos}
def fA(i:Nat):TG:=fun v σ H Q=>Q (σ.set i (some v)) H
theorem kR{i:Nat}(hN:X.N.Nodup)(hi:X.N[i]? = some x)(hx:Loc X.env.scope x)(hf:X.fn x=true\/X.env.scope.names.lookup x=some .local:=by first|exact .inl rfl|exact .inr rfl|assumption):PG X (.Name x pos) (fA i):=by
 intro gV s σ H v u Q I r h;exact wpAny_assign_Name (iu I hN hi hx r (fun s' I'=>⟨_,H,I',h⟩) hf)
def Mh:TGs:=fun vs σ H Q=>vs = []/\Q σ H
def zX(t:TG)(u:TGs):TGs:=fun vs σ H Q=>∃ v r,vs=v::r/\t v σ H fun σ' H'=>u r σ' H' Q
theorem kP:PGs X [] Mh:=by
 intro gV s σ H vs us Q I r h;obtain⟨e,h⟩:=h;subst e;cases r;exact assignInOrder_nil ⟨σ,H,I,h⟩
theorem bR{t:TG}{u:TGs}(h1:PG X e t)(h2:PGs X es u)
  (hs:(assignEach (e::es) X.env).map (·.2)=assign e X.env ::(assignEach es X.env).map (·.2):=by rfl):PGs X (e::es) (zX t u):=by
 intro gV s σ H vs us Q I r h;obtain⟨v,vr,e1,h⟩:=h;subst e1;cases r with
 | cons r rr =>
  rw[hs];refine assignInOrder_cons (thn (h1 gV s σ H _ _ _ I r h) fun _ s1 hPP=>?_)
  obtain⟨σ1,H1,I1,q1⟩:=hPP;exact h2 gV s1 σ1 H1 _ _ Q I1 rr q1
def IL(K:W.Frag)(n:Nat)(t:TGs):TG:=fun v σ H Q=>∃ a xs,v = .ref a/\SqT K H a xs/\xs.length=n/\t xs σ H Q
theorem Ls{k:Nat}{t:TGs}(hc:X.calm=true)(h:PGs X es t)
  (hn:(assignEach es X.env).length=n:=by rfl) (hst:(assignEach es X.env).findIdx? (·.1)=none:=by rfl):PG X (.Tuple es k pos) (IL X.K n t):=by
 intro gV s σ H v u Q I r hw;obtain⟨a,xs,e1,hq,hl,hw⟩:=hw;subst e1;cases r;obtain⟨its,rv,ht,hz⟩:=I.tuple hq;refine assign_Tuple_tuple (I.ok.hd hc) ht (by simp[hn,<- hl,rv.length]) hst fun h' hx=>?_
 have I1:Inv X gV σ H { s with heap:=h' }:=I.kept (t':=s.toks) fun b o e=>hx b o (Tf (Sy e)) e
 exact h gV _ σ H xs _ Q I1 (by simpa using rv) hw
def ym(to ti:TE)(t:Ju):TG:=fun v σ H Q=>to σ H fun o H1=>ti σ H1 fun i H2=>t o i v H2 fun H3=>Q σ H3
theorem xG{i:Expr}{ti:TE}{t:Ju}(ho:PE X o to)(hi:PE X i ti)(hs:Mz X t)
  (ha:∀ v,assign (.Subscript o i pos) X.env v =(do
   let ov <- holding [v] (eval o X.env)
   let iv <- holding [v,ov] (eval i X.env)
   standAt pos
   holding [v,ov,iv] (setItem ov iv v)
   release [v,ov,iv] []):=by intro _;rfl):PG X (.Subscript o i pos) (ym to ti t):=by
 intro gV s σ H v u Q I r h;rw[ha];refine j0 (TY (thn (ho gV s σ H _ I h) fun ov s1 hPP=>?_))
 obtain⟨x,H1,I1,r1,q1⟩:=hPP;refine j0 (TY (thn (hi gV s1 σ H1 _ I1 q1) fun iv s2 hPP=>?_))
 obtain⟨y,H2,I2,r2,q2⟩:=hPP;refine j0 (wpAny_standAt (j0 (TY (thn (hs gV s2 σ H2 x y v ov iv u _ I2 r1 r2 r q2) fun _ s3 hPP=>?_))))
 obtain⟨H3,I3,q3⟩:=hPP;exact wpAny_release ⟨σ,H3,I3,q3⟩
def gD(te:TE)(g:TG):TS:=fun D σ H=>te σ H fun x H1=>g x σ H1 D.nx
theorem oF{g:TG}(he:PE X e te)(hg:PG X tg g)(hs:swapsWithSole [tg] e pos.line X.env=pure false:=by rfl)(hw:swappedStores [tg] e X.env=pure none:=by rfl)
  (h1:(assignEach [tg] X.env).map (·.2) = [assign tg X.env]:=by rfl):PS X (.Assign [tg] e pos) (gD te g):=by
 intro gV s σ H D I h;refine wpAny_Assign_stores (thn (he gV s σ H _ I h) fun v s1 hPP=>?_) hs hw
 obtain⟨x,H1,I1,r1,q1⟩:=hPP;rw[h1];exact thn (hg gV s1 σ H1 x v _ I1 r1 q1) fun _ s2 q=>q
theorem iF{i:Nat}(hN:X.N.Nodup)(hi:X.N[i]? = some x)(hx:Loc X.env.scope x)(he:PE X e te)(hs:swapsWith e (some (.Name x pos')) pos.line X.env=pure false:=by rfl)(hf:X.fn x=true\/X.env.scope.names.lookup x=some .local:=by first|exact .inl rfl|exact .inr rfl|assumption) :
  PS X (.Assign [.Name x pos'] e pos) (gD te (fA i)):=by
 intro gV s σ H D I h;refine wpAny_Assign_Name (thn (he gV s σ H _ I h) fun v s1 hPP=>?_) hs
 obtain⟨y,H1,I1,r1,q1⟩:=hPP;exact iu I1 hN hi hx r1 (fun s2 I2=>⟨_,H1,I2,q1⟩) hf
def Kt(i j:Nat)(ta:TA):TS:=fun D σ H=>ta σ H fun vs H1=>∃ v w,vs = [v,w]/\D.nx ((σ.set i (some v)).set j (some w)) H1
theorem Lh{i:Nat}{y:Str}{a:Expr}{ta:TA}{px pt:Pos}{kt k2 pt2}(hc:X.calm=true)(hN:X.N.Nodup)(hi:X.N[i]? = some x)(hj:X.N[j]? = some y)(hij:i≠j)
  (hx:X.env.scope.names.lookup x=some .local) (hy:X.env.scope.names.lookup y=some .local) (ha:PA X [a,b] ta)
  (hw:swappedStores [.Tuple [.Name x px,.Name y py] kt pt] (.Tuple [a,b] k2 pt2) X.env=pure (some [x,y]))
  (hs:swapsWithSole [.Tuple [.Name x px,.Name y py] kt pt] (.Tuple [a,b] k2 pt2) pos.line X.env=pure false:=by rfl) :
  PS X (.Assign [.Tuple [.Name x px,.Name y py] kt pt] (.Tuple [a,b] k2 pt2) pos) (Kt i j ta):=by
 intro gV s σ H D I h;rw[exec_Assign_arm];refine j0 (wpAny_standAt ?_);rw[hs];refine j0 (M7 ?_);rw[if_neg (by decide)]
 refine j0 (Tuple_ (thn (ha _ gV s σ H _ I h) fun us s1 hPP=>?_))
 obtain⟨vs,H1,I1,r1,q1⟩:=hPP;obtain⟨v,w,e1,q1⟩:=q1;subst e1;obtain⟨u1,u2,rfl,rv,rw'⟩:∃ u1 u2,us = [u1,u2]/\RelV v u1/\RelV w u2:=by
  cases r1 with
  | cons p q =>
   cases q with
   | cons p' q' =>
    cases q';exact⟨_,_,rfl,p,p'⟩
 refine TK ?_ (by show 2<=S4;decide)
 have I2:Inv X gV σ H1 { s1 with heap:=s1.heap.push { cls:=.type "tuple",data:=.seq [u1,u2].toArray } }:=I1.kept (t':=s1.toks) fun b o e=>j5 _ e
 rw[hw];refine j0 (M7 ?_);show wpAny (model X.prog X.w) X.A (do rule "assign.swapped-stores";let items <- unpackItems (.ref s1.heap.objs.size) 2 none;assignInOrder [fun v=>bindName X.env y v,fun v=>bindName X.env x v] items.reverse;pure Flow.next) _ _ _
 refine j0 (Uz (j0 (unpackItems_tuple (items:=#[u1,u2]) (I.ok.hd hc) (IsTup.new s1.heap _) fun h' hx'=>?_)))
 have I3:=I2.kept (h':=h') (t':=s1.toks) fun b o e=>hx' b o (Tf (Sy e)) e
 show wpAny _ _ (assignInOrder [fun v=>bindName X.env y v,fun v=>bindName X.env x v] [u2,u1] >>= fun _=>pure Flow.next) _ _ _
 refine j0 (assignInOrder_cons (wpAny_bindName (iu I3 hN hj (.inl hy) rw' (fun s2 I4=>?_) (.inr hy))))
 refine assignInOrder_cons (wpAny_bindName (iu I4 hN hi (.inl hx) rv (fun s3 I5=>assignInOrder_nil (M7 ?_)) (.inr hx)))
 rw[List.set_comm _ _ (Ne.symm hij)]at I5;exact⟨_,H1,I5,q1⟩
end
variable{body:List Stmt}
section
variable{pos:Pos}
def wW(c:TT)(tb:TS):TS:=fun D σ H=>∃ W:Nat->St->Hp->Prop,(∃ m,W m σ H)/\∀ m σ H,W m σ H ->
 c σ H fun b H1=>if b=true then ∃ N:St->Hp->Prop,(∀ σ' H',N σ' H'->∃ m',m'<m/\W m' σ' H')/\tb { D with nx:=N,ct:=N,bk:=D.nx } σ H1 else D.nx σ H1
theorem vI{c:Expr}{tc:TT}{tb:TS}(hp:Wm (model X.prog X.w) X.A X.env X.xe)(hc:PT X c tc)(hb:PSs X body tb):PS X (.While c body [] pos) (wW tc tb):=by
 intro gV s σ H D I h;obtain⟨W,⟨m0,w0⟩,turn⟩:=h;refine wpAny_While (codeAny_whileLoop (fun n s'=>∃ σ' H',Inv X gV σ' H' s'/\W n σ' H') ?_ m0 ⟨σ,H,I,w0⟩)
 rintro n s1 ⟨σ1,H1,I1,w1⟩
 refine wpAny_passesOwn hp (thn (hc gV s1 σ1 H1 _ I1 (turn n σ1 H1 w1)) fun b s2 hPP=>?_)
 obtain⟨H2,I2,q2⟩:=hPP;cases b with
 | true =>
  obtain⟨N,hN,q2⟩:=q2;rw[if_pos rfl];refine wpAny_passesOwn hp (thn (hb gV s2 σ1 H2 _ I2 q2) fun f s3 q3=>?_)
  cases f with
  | next =>
   obtain⟨σ3,H3,I3,n3⟩:=q3;obtain⟨m',hm,w3⟩:=hN σ3 H3 n3;exact⟨m',hm,σ3,H3,I3,w3⟩
  | cont =>
   obtain⟨σ3,H3,I3,n3⟩:=q3;obtain⟨m',hm,w3⟩:=hN σ3 H3 n3;exact⟨m',hm,σ3,H3,I3,w3⟩
  | brk=>exact q3
  | ret v=>exact q3
 | false =>
  rw[if_neg Ta];exact wpAny_execs_nil ⟨σ1,H2,I2,q2⟩
end
structure It where
 go:Nat->Hp->Prop
 yld:Nat->Hp->V->Hp->Prop
 stop:Nat->Hp->Prop
def qj(X:Cx)(gV:List (Addr×Obj))(H:Hp)(b:Addr):Prop :=
 H b=none/\b≠X.env.locals/\b ∉ X.fs/\(b∈X.ex\/X.s₀.heap.objs.size<=b)/\(∀ x c,X.env.cells.lookup x=some c->c≠b)/\∀ p∈X.pn++gV,p.1≠b
variable{H':Hp}
theorem Inv.E4{σ:St}{s:Shared}{b:Addr}(I:Inv X gV σ H s)(hb:s.heap.objs.size<=b)(hn:H' b=none):qj X gV H' b:=by
 refine⟨hn,T8 (Tq I.lt hb),I.Ou hb,.inr (Tn I.sz hb),fun x c e z=>?_,fun p hp z=>?_⟩
 ·obtain⟨v,q⟩:=I.cell x c e;exact absurd (Tq q.lt (by rw[z];exact hb)) (Um _)
 ·exact absurd (Tq (Sy (I.pin p hp).1) (by rw[z];exact hb)) (Um _)
structure Turn(P:Program)(w:World)(K:W.Frag)(tg:Expr)(J:It)(fp:List Addr)(it:Addr)(tn:Nat->Heap->Prop):Prop where
 mem:it∈fp
 obj:∀ i h,tn i h->∀ b∈fp,∃ o,h.get? b=some o/\∀ v,o.data ≠ .cell v
 keep:∀ i h h',tn i h ->(∀ b∈fp,∀ o,h.get? b=some o->h'.get? b=some o)->tn i h'
 item:∀(X:Cx),X.prog=P->X.w=w->X.K=K->X.calm=true->∀(i:Nat)(gV:List (Addr×Obj))(s:Shared)(σ:St)(H:Hp)(E:Value->Shared->Prop),Inv X gV σ H s ->(∀ b∈fp,qj X gV H b)->tn i s.heap->J.go i H ->
  wpAny (model P w) X.A (pyNext (.ref it)) (fun r s1=>∃ u,r=some u /\
   wpAny (model P w) X.A (letOwnedTupleGo tg (.ref it) u) (fun _ s2=>∃ x H',Inv X gV σ H' s2/\RelV x u/\J.yld i H x H'/\tn (i+1) s2.heap/\∀ b∈fp,H' b=none) E s1) E s
 done:∀(X:Cx),X.prog=P->X.w=w->X.K=K->X.calm=true->∀(i:Nat)(gV:List (Addr×Obj))(s:Shared)(σ:St)(H:Hp)(E:Value->Shared->Prop),Inv X gV σ H s ->(∀ b∈fp,qj X gV H b)->tn i s.heap->J.stop i H ->
  wpAny (model P w) X.A (pyNext (.ref it)) (fun r s1=>r=none/\Inv X gV σ H s1) E s
 self:∀(A:Around)(i:Nat)(s:Shared)(Q:Value->Shared->Prop)(E:Value->Shared->Prop),tn i s.heap->Q (.ref it) s->wpAny (model P w) A (pyIter (.ref it)) Q E s
abbrev TI:=St->Hp ->(It->Hp->Prop)->Prop
def PIE(X:Cx)(gV:List (Addr×Obj))(σ:St)(tg:Expr)(R:It->Hp->Prop)(itv:Value)(s2:Shared):Prop :=
 ∃(it:Addr)(fp:List Addr)(tn:Nat->Heap->Prop)(J:It)(H':Hp),itv = .ref it/\Inv X gV σ H' s2/\Turn X.prog X.w X.K tg J fp it tn/\tn 0 s2.heap/\(∀ b∈fp,qj X gV H' b)/\R J H'
def PI(X:Cx)(tg iter:Expr)(wi:TI):Prop :=
 ∀(gV:List (Addr×Obj))(s:Shared)(σ:St)(H:Hp)(R:It->Hp->Prop),Inv X gV σ H s->wi σ H R ->
  wpAny (model X.prog X.w) X.A (eval iter X.env) (fun v s1=>wpAny (model X.prog X.w) X.A (pyIter v) (PIE X gV σ tg R) X.xe s1) X.xe s
theorem E2{s:Shared}{o:Obj}{n:String}{vs:Array Value}{Q:Unit->Shared->Prop}(ho:s.heap.get? it=some o)(hc:o.cls = .type n)(hd:o.data = .fields vs)
  (hn:["enumerate","zip","dict_itemiterator","dict_reverseitemiterator","odict_iterator","itertools.zip_longest","itertools.pairwise"].contains n=false) (hQ:Q () s):wpAny M A (letOwnedTupleGo tg (.ref it) u) Q E s:=by
 unfold letOwnedTupleGo;cases tg <;> first
  | exact M7 hQ
  | (cases u <;> first
    | exact M7 hQ
    | (refine j0 (wpAny_load ho ?_)
       rw[hc,hd];show wpAny M A (if(["enumerate","zip","dict_itemiterator","dict_reverseitemiterator","odict_iterator","itertools.zip_longest","itertools.pairwise"].contains n&&vs[0]? == some (rawInt _))=true then _ else _) Q E s
       rw[if_neg (by intro h;rw[hn,Bool.false_and]at h;cases h)]
       exact M7 hQ))
def Itl(K:W.Frag)(a:Addr):It :=
 ⟨fun i H=>∃ xs x,SqL K H a xs/\xs[i]? = some x,fun i H x H'=>H'=H/\∀ xs,SqL K H a xs->xs[i]? = some x,fun i H=>∃ xs,SqL K H a xs/\xs.length<=i⟩
def Itt(K:W.Frag)(a:Addr):It :=
 ⟨fun i H=>∃ xs x,SqT K H a xs/\xs[i]? = some x,fun i H x H'=>H'=H/\∀ xs,SqT K H a xs->xs[i]? = some x,fun i H=>∃ xs,SqT K H a xs/\xs.length<=i⟩
def Itr(lo:Int)(n:Nat):It:=⟨fun i _=>i<n,fun i H x H'=>H'=H/\x = .int (lo+i),fun i _=>n<=i⟩
theorem AN{w:World}{K:W.Frag}(a it:Addr):Turn P w K tg (Itl K a) [it] it (fun i h=>h.IsListIter it a i) where
 mem:=by simp
 obj:=fun i h st b hb=>by
  have e:b=it:=by simpa using hb
  subst e;obtain⟨o,e,c,d⟩:=st;exact⟨o,e,fun v z=>by rw[d]at z;cases z⟩
 keep:=fun i h h' st k=>st.at fun o e=>k it (by simp) o e
 item:=by
  intro X hP hw hK hc i gV s σ H E I hf st hg;subst hP hw hK;obtain⟨xs,x,hq,hx⟩:=hg;obtain⟨its,rv,p,hz⟩:=I.list hq;obtain⟨u,hu,ru⟩:=rv.get hx;obtain⟨f0,f1,f2,f3,f4,f5⟩:=hf it (by simp)
  refine wpAny_pyNext_list_item st p.isList (x:=u) (by simpa using hu) fun h' st' sb=>?_
  have I1:Inv X gV σ H { s with heap:=h' }:=I.turned (t':=s.toks) (fun b o hb e=>(sb.2 b hb).trans e) f0 f1 f3 f4 f5
  obtain⟨o,e,c,d⟩:=id st';exact⟨u,rfl,E2 (s:={ s with heap:=h' }) e c d (by decide) ⟨x,H,I1,ru,⟨rfl,fun ys hy=>by rw[I.v8 hy hq];exact hx⟩,st',fun b hb=>(hf b hb).1⟩⟩
 done:=by
  intro X hP hw hK hc i gV s σ H E I hf st hg;subst hP hw hK;obtain⟨xs,hq,hx⟩:=hg;obtain⟨its,rv,p,hz⟩:=I.list hq;obtain⟨f0,f1,f2,f3,f4,f5⟩:=hf it (by simp)
  have hl:=rv.length;exact wpAny_pyNext_list_end (I.ok.hd hc) st p.isList (by simp;omega) fun h' eb=>⟨rfl,I.turned (t':=s.toks) (fun b o hb e=>eb b o hb e) f0 f1 f3 f4 f5⟩
 self:=fun _ _ _ _ _ st h=>wpAny_pyIter_listiter st h
theorem wU{w:World}{K:W.Frag}(a it:Addr):Turn P w K tg (Itt K a) [it] it (fun i h=>h.IsTupleIter it a i) where
 mem:=by simp
 obj:=fun i h st b hb=>by
  have e:b=it:=by simpa using hb
  subst e;obtain⟨o,e,c,d⟩:=st;exact⟨o,e,fun v z=>by rw[d]at z;cases z⟩
 keep:=fun i h h' st k=>st.at fun o e=>k it (by simp) o e
 item:=by
  intro X hP hw hK hc i gV s σ H E I hf st hg;subst hP hw hK;obtain⟨xs,x,hq,hx⟩:=hg;obtain⟨its,rv,p,hz⟩:=I.tuple hq;obtain⟨u,hu,ru⟩:=rv.get hx;obtain⟨f0,f1,f2,f3,f4,f5⟩:=hf it (by simp)
  refine wpAny_pyNext_tuple_item st (show s.heap.IsTuple a its.toArray from p) (x:=u) (by simpa using hu) fun h' st' sb=>?_
  have I1:Inv X gV σ H { s with heap:=h' }:=I.turned (t':=s.toks) (fun b o hb e=>(sb.2 b hb).trans e) f0 f1 f3 f4 f5
  obtain⟨o,e,c,d⟩:=id st';exact⟨u,rfl,E2 (s:={ s with heap:=h' }) e c d (by decide) ⟨x,H,I1,ru,⟨rfl,fun ys hy=>by rw[I.q5 hy hq];exact hx⟩,st',fun b hb=>(hf b hb).1⟩⟩
 done:=by
  intro X hP hw hK hc i gV s σ H E I hf st hg;subst hP hw hK;obtain⟨xs,hq,hx⟩:=hg;obtain⟨its,rv,p,hz⟩:=I.tuple hq;obtain⟨f0,f1,f2,f3,f4,f5⟩:=hf it (by simp)
  have hl:=rv.length;exact wpAny_pyNext_tuple_end (I.ok.hd hc) st (show s.heap.IsTuple a its.toArray from p) (by simp;omega) fun h' eb=>⟨rfl,I.turned (t':=s.toks) (fun b o hb e=>eb b o hb e) f0 f1 f3 f4 f5⟩
 self:=fun _ _ _ _ _ st h=>wpAny_pyIter_tupleiter st h
theorem wV{w:World}{K:W.Frag}(it:Addr)(lo:Int)(n:Nat):Turn P w K tg (Itr lo n) [it] it (fun i h=>IsRangeIter h it (lo+(i:Nat)*1) ((n:Int) - (i:Nat)) 1) where
 mem:=by simp
 obj:=fun i h st b hb=>by
  have e:b=it:=by simpa using hb
  subst e;exact⟨_,st,fun v z=>by
   have z':Data.fields _=Data.cell v:=z;cases z'⟩
 keep:=fun i h h' st k=>k it (by simp) _ st
 item:=by
  intro X hP hw hK hc i gV s σ H E I hf st hg;subst hP hw hK;obtain⟨f0,f1,f2,f3,f4,f5⟩:=hf it (by simp)
  have W:=Walks.range (prog:=X.prog) (w:=X.w) (I.ok.hd hc) it lo 1 n;refine W.item i s _ _ hg st fun v h' tk hv st' kk=>?_
  obtain⟨t,rfl⟩:=hv;have I1:Inv X gV σ H { s with heap:=h',toks:=tk }:=I.turned (fun b o hb e=>kk b o (by simpa using hb) e) f0 f1 f3 f4 f5
  refine⟨_,rfl,E2 (s:={ s with heap:=h',toks:=tk }) (n:="range_iterator") st' rfl rfl (by decide) ⟨.int (lo+i),H,I1,⟨t,?_⟩,⟨rfl,rfl⟩,st',fun b hb=>(hf b hb).1⟩⟩
  rw[Int.mul_one]
 done:=by
  intro X hP hw hK hc i gV s σ H E I hf st hg;subst hP hw hK;obtain⟨f0,f1,f2,f3,f4,f5⟩:=hf it (by simp)
  exact wpAny_pyNext_range_end (I.ok.hd hc) st (by have:n<=i:=hg;omega) fun h' eb=>⟨rfl,I.turned (t':=s.toks) (fun b o hb e=>eb b o hb e) f0 f1 f3 f4 f5⟩
 self:=fun _ _ _ _ _ st h=>wpAny_pyIter_rangeiter st h
variable{lo:Int}{fp:List Addr}{iter:Expr}
section
def rG(K:W.Frag)(tl:TE):TI:=fun σ H R=>tl σ H fun x H1=>∃ a,x = .ref a/\(∃ xs,SqL K H1 a xs)/\R (Itl K a) H1
def EO(K:W.Frag)(tl:TE):TI:=fun σ H R=>tl σ H fun x H1=>∃ a,x = .ref a/\(∃ xs,SqT K H1 a xs)/\R (Itt K a) H1
theorem nJ{l:Expr}{tl:TE}(hl:PE X l tl):PI X tg l (rG X.K tl):=by
 intro gV s σ H R I h;refine thn (hl gV s σ H _ I h) fun v s1 hPP=>?_
 obtain⟨x,H1,I1,r1,q1⟩:=hPP;obtain⟨a,e,⟨xs,hq⟩,q⟩:=q1;subst e;cases r1;obtain⟨its,rv,p,hz⟩:=I1.list hq;refine wpAny_pyIter_list p.isList ?_;refine⟨s1.heap.objs.size,[s1.heap.objs.size],_,_,H1,rfl,I1.kept (t':=s1.toks) fun b o e=>j5 _ e,AN a _,⟨_,S2 _ rfl,rfl,rfl⟩,fun b hb=>?_,q⟩
 have e:b=s1.heap.objs.size:=by simpa using hb
 subst e;exact I1.E4 (S3 _) (I1.hok.fresh (S3 _))
theorem Lr{l:Expr}{tl:TE}(hl:PE X l tl):PI X tg l (EO X.K tl):=by
 intro gV s σ H R I h;refine thn (hl gV s σ H _ I h) fun v s1 hPP=>?_
 obtain⟨x,H1,I1,r1,q1⟩:=hPP;obtain⟨a,e,⟨xs,hq⟩,q⟩:=q1;subst e;cases r1;obtain⟨its,rv,p,hz⟩:=I1.tuple hq;refine wpAny_pyIter_tuple (show s1.heap.IsTuple a its.toArray from p) ?_;refine⟨s1.heap.objs.size,[s1.heap.objs.size],_,_,H1,rfl,I1.kept (t':=s1.toks) fun b o e=>j5 _ e,wU a _,⟨_,S2 _ rfl,rfl,rfl⟩,fun b hb=>?_,q⟩
 have e:b=s1.heap.objs.size:=by simpa using hb
 subst e;exact I1.E4 (S3 _) (I1.hok.fresh (S3 _))
theorem C8{σ:St}{s:Shared}{R:It->Hp->Prop}{hi:Int}{t u v:Tok}{tk:Nat}(I:Inv X gV σ H s)(h1:-(2 ^ 62)<=lo)(h2:lo<2 ^ 62)(h3:-(2 ^ 62)<=hi)(h4:hi<2 ^ 62)
  (q:R (Itr lo (hi - lo).toNat) H):wpAny (model X.prog X.w) X.A (pyIter (.ref s.heap.objs.size)) (PIE X gV σ tg R) E { s with heap:=s.heap.push { cls:=.type "range",data:=.fields #[.int lo t,.int hi u,.int 1 v] },toks:=tk }:=by
 refine wpAny_pyIter_range (IsRange.new ..) (small_one h1 h2 h3 h4) ?_;have I1:Inv X gV σ H { s with heap:=s.heap.push { cls:=.type "range",data:=.fields #[.int lo t,.int hi u,.int 1 v] },toks:=tk }:=I.kept fun b o e=>j5 _ e
 refine⟨(s.heap.push { cls:=.type "range",data:=.fields #[.int lo t,.int hi u,.int 1 v] }).objs.size,[(s.heap.push { cls:=.type "range",data:=.fields #[.int lo t,.int hi u,.int 1 v] }).objs.size],_,_,H,rfl,
  I1.kept (t':=tk) fun b o e=>j5 _ e,wV _ lo (hi - lo).toNat,?_,fun b hb=>?_,q⟩
 ·have e1:lo+((0:Nat):Int)*1=lo:=by simp
  have e2:(((hi - lo).toNat:Nat):Int) - ((0:Nat):Int)=Builtin.Range.rangeSize lo hi 1:=by rw[rangeSize_one];split <;> omega
  show IsRangeIter _ _ (lo+((0:Nat):Int)*1) ((((hi - lo).toNat:Nat):Int) - ((0:Nat):Int)) 1;rw[e1,e2];exact S2 _ rfl
 ·have e:b =(s.heap.push { cls:=.type "range",data:=.fields #[.int lo t,.int hi u,.int 1 v] }).objs.size:=by simpa using hb
  subst e;exact I1.E4 (S3 _) (I1.hok.fresh (S3 _))
def ER(ta:TA):TI:=fun σ H R=>ta σ H fun vs H1=>∃ j:Int,vs = [.int j] /\ -(2 ^ 62)<=j/\j<2 ^ 62/\R (Itr 0 j.toNat) H1
theorem rB{a:Expr}{ta:TA}{p pos:Pos}(hg:Gl X "range")(hm:X.mg "range" = none)(ha:PA X [a] ta)(hs:SN [a] X.env = [(false,eval a X.env)]:=by rfl):PI X tg (.Call (.Name "range" p) [a] [] pos) (ER ta):=by
 intro gV s σ H R I h;refine Call_ (dY I hg hm boot_range (PyProof.Rows.callWith_type1 (thn (ha pos gV s σ H _ I h) fun us s1 ⟨vs,H1,I1,r1,q1⟩=>?_) hs rfl))
 obtain⟨j,e,q1,q2,q⟩:=q1;subst e;cases r1 with
 | cons r rr =>
  cases rr;obtain⟨t,rfl⟩:=r;exact call_range_1 (C8 I1 (by omega) (by omega) q1 q2 (by simpa using q))
def M4(wi:TI)(g:TG)(tb:TS):TS:=fun D σ H=>wi σ H fun J H1=>∃ W:Nat->Nat->St->Hp->Prop,(∃ m,W 0 m σ H1)/\∀ i m σ H,W i m σ H ->
 (J.stop i H/\D.nx σ H)\/(J.go i H/\∃ N:St->Hp->Prop,(∀ σ' H',N σ' H'->∃ m',m'<m/\W (i+1) m' σ' H')/\∀ x H',J.yld i H x H'->g x σ H' fun σ2 H2=>tb { D with nx:=N,ct:=N,bk:=D.nx } σ2 H2)
def oG(fp:List Addr)(h:Heap):List (Addr×Obj):=fp.filterMap fun b=>(h.get? b).map fun o=>(b,o)
theorem fe{h:Heap}{b:Addr}{o:Obj}(hb:b∈fp)(e:h.get? b=some o):(b,o)∈oG fp h:=U6.mpr ⟨b,hb,by rw[e];rfl⟩
theorem Bo{h:Heap}{p:Addr×Obj}(hp:p∈oG fp h):p.1∈fp/\h.get? p.1=some p.2:=by
 obtain⟨b,hb,e⟩:=U6.mp hp;cases q:h.get? b with
 | none=>rw[q]at e;cases e
 | some o =>
  rw[q]at e;have e':(b,o)=p:=Option.some.inj e;subst e';exact⟨hb,q⟩
theorem Inv.pinned{σ:St}{s:Shared}(I:Inv X gV σ H s)(hf:∀ b∈fp,qj X gV H b)(ho:∀ b∈fp,∃ o,s.heap.get? b=some o/\∀ v,o.data ≠ .cell v):Inv X (gV++oG fp s.heap) σ H s :=
 I.kM fun p hp=>(SY.mp hp).elim (fun z=>I.pin p (Tc _ z)) fun z=>by
  obtain⟨hb,e⟩:=Bo z;obtain⟨f0,f1,f2,_⟩:=hf p.1 hb;obtain⟨o,e',d⟩:=ho p.1 hb;rw[e]at e';cases e';exact⟨e,f0,f1,f2,d⟩
theorem Inv.kA{pl:List (Addr×Obj)}{σ:St}{s:Shared}(I:Inv X (gV++pl) σ H s):Inv X gV σ H s:=I.kM fun p hp=>I.pin p (Tc _ (Tj _ hp))
theorem DS{wi:TI}{g:TG}{tb:TS}{pos:Pos}(hp:Wm (model X.prog X.w) X.A X.env X.xe)(hc:X.calm=true)(hi:PI X tg iter wi)(hg:PG X tg g)(hb:PSs X body tb)
  (hs:∀ x,foldedSetIterable iter X.env x=pure x:=by intro _;rfl):PS X (.For tg iter body [] pos) (M4 wi g tb):=by
 intro gV s σ H D I h;refine wpAny_For (thn (hi gV s σ H _ I h) fun v s1 h1=>thn h1 fun itv s2 h2=>?_) hs
 obtain⟨it,fp,tn,J,H2,e,I2,T,st2,f2,W,⟨m0,w0⟩,turn⟩:=h2;subst e;have Kx:∀{H':Hp},(∀ b∈fp,H' b=none)->∀ b∈fp,qj X gV H' b:=fun hn b hb=>⟨hn b hb,(f2 b hb).2⟩
 refine codeAny_forLoop_any (fun n s'=>∃ i σ' H',Inv X gV σ' H' s'/\tn i s'.heap/\(∀ b∈fp,H' b=none)/\W i n σ' H') ?_ m0 ⟨0,σ,H2,I2,st2,fun b hb=>(f2 b hb).1,w0⟩
 rintro n s3 ⟨i,σ3,H3,I3,st3,fr3,w3⟩
 rcases turn i n σ3 H3 w3 with⟨stop,qn⟩ |⟨go,N,hN,step⟩
 ·refine wpAny_passesOwn hp (thn (T.done X rfl rfl rfl hc i gV s3 σ3 H3 X.xe I3 (Kx fr3) st3 stop) fun r s4 hPP=>?_)
  obtain⟨hr,I4⟩:=hPP;subst hr;exact wpAny_execs_nil ⟨σ3,H3,I4,qn⟩
 ·refine wpAny_passesOwn hp (thn (T.item X rfl rfl rfl hc i gV s3 σ3 H3 X.xe I3 (Kx fr3) st3 go) fun r s4 hPP=>?_)
  obtain⟨u,hr,h4⟩:=hPP;subst hr;refine wpAny_passesOwn hp (thn h4 fun _ s5 hPP=>?_)
  obtain⟨x,H5,I5,r5,y5,st5,fr5⟩:=hPP;have I5':=I5.pinned (Kx fr5) (T.obj _ _ st5);refine wpAny_passesOwn hp (thn (hg _ s5 σ3 H5 x u _ I5' r5 (step x H5 y5)) fun _ s6 hPP=>?_)
  obtain⟨σ6,H6,I6,q6⟩:=hPP;refine wpAny_passesOwn hp (thn (hb _ s6 σ6 H6 _ I6 q6) fun f s7 q7=>?_)
  have again:∀{σ7:St}{H7:Hp},Inv X (gV++oG fp s5.heap) σ7 H7 s7->N σ7 H7->∃ m,m<n/\∃ i σ' H',Inv X gV σ' H' s7/\tn i s7.heap/\(∀ b∈fp,H' b=none)/\W i m σ' H':=fun{σ7 H7} I7 n7=>by
   obtain⟨m',hm,w7⟩:=hN σ7 H7 n7;refine⟨m',hm,i+1,σ7,H7,I7.kA,T.keep _ _ _ st5 fun b hb o e=>(I7.pin (b,o) (Tc _ (Tc _ (fe hb e)))).1,fun b hb=>?_,w7⟩
   obtain⟨o,e,d⟩:=T.obj _ _ st5 b hb;exact(I7.pin (b,o) (Tc _ (Tc _ (fe hb e)))).2.1
  cases f with
  | next=>obtain⟨σ7,H7,I7,n7⟩:=q7;exact again I7 n7
  | cont=>obtain⟨σ7,H7,I7,n7⟩:=q7;exact again I7 n7
  | brk=>obtain⟨σ7,H7,I7,q7⟩:=q7;exact⟨σ7,H7,I7.kA,q7⟩
  | ret v=>obtain⟨x7,σ7,H7,I7,r7,q7⟩:=q7;exact⟨x7,σ7,H7,I7.kA,r7,q7⟩
end
variable{D:Ends}
theorem E5{K:W.Frag}{xs:List V}{g:TG}{tb:TS}{σ:St}(Pv:Nat->St->Hp->Prop)(h0:Pv 0 σ H)(hl:∀ i σ H,i<=xs.length->Pv i σ H->SqL K H a xs)
  (hs:∀ i x σ H,xs[i]? = some x->Pv i σ H->g x σ H fun σ2 H2=>tb { D with nx:=Pv (i+1),ct:=Pv (i+1),bk:=D.nx } σ2 H2) (hd:∀ σ H,Pv xs.length σ H->D.nx σ H) :
  ∃ W:Nat->Nat->St->Hp->Prop,(∃ m,W 0 m σ H)/\∀ i m σ H,W i m σ H ->
   ((Itl K a).stop i H/\D.nx σ H)\/((Itl K a).go i H/\∃ N:St->Hp->Prop,(∀ σ' H',N σ' H'->∃ m',m'<m/\W (i+1) m' σ' H')/\∀ x H',(Itl K a).yld i H x H'->g x σ H' fun σ2 H2=>tb { D with nx:=N,ct:=N,bk:=D.nx } σ2 H2):=by
 refine⟨fun i m σ H=>m=xs.length - i/\i<=xs.length/\Pv i σ H,⟨xs.length,by simp,TX _,h0⟩,?_⟩
 rintro i m σ H ⟨rfl,hi,p⟩
 have q:=hl i σ H hi p;by_cases hlt:i<xs.length
 ·refine .inr ⟨⟨xs,xs[i],q,by simp[hlt]⟩,Pv (i+1),fun σ' H' p'=>⟨xs.length - (i+1),by omega,rfl,hlt,p'⟩,fun x H' y=>?_⟩
  obtain⟨e,y⟩:=y;subst e;exact hs i x σ _ (y xs q) p
 ·have e:i=xs.length:=by omega
  subst e;exact .inl ⟨⟨xs,q,S3 _⟩,hd σ H p⟩
abbrev R2:=V->V->Hp->VK->Prop
def OpR(X:Cx)(f:Value->Value->Sem Value)(r:R2):Prop :=
 ∀(gV:List (Addr×Obj))(s:Shared)(σ:St)(H:Hp)(x y:V)(v u:Value)(Q:VK),Inv X gV σ H s->RelV x v->RelV y u->r x y H Q ->
  wpAny (model X.prog X.w) X.A (f v u) (EP X gV σ Q) X.xe s
def UnR(X:Cx)(f:Value->Sem Value)(r:V->Hp->VK->Prop):Prop :=
 ∀(gV:List (Addr×Obj))(s:Shared)(σ:St)(H:Hp)(x:V)(v:Value)(Q:VK),Inv X gV σ H s->RelV x v->r x H Q ->
  wpAny (model X.prog X.w) X.A (f v) (EP X gV σ Q) X.xe s
def cI(X:Cx)(f:Value)(r:List V->Hp->VK->Prop):Prop :=
 ∀(gV:List (Addr×Obj))(s:Shared)(σ:St)(H:Hp)(xs:List V)(us:List Value)(Q:VK),Inv X gV σ H s->Vals xs us->r xs H Q ->
  wpAny (model X.prog X.w) X.A (call f us) (EP X gV σ Q) X.xe s
def Sv(X:Cx)(r:V->Hp ->(Bool->Hp->Prop)->Prop):Prop :=
 ∀(gV:List (Addr×Obj))(s:Shared)(σ:St)(H:Hp)(x:V)(v:Value)(Q:Bool->Hp->Prop),Inv X gV σ H s->RelV x v->r x H Q ->
  wpAny (model X.prog X.w) X.A (truthy v) (TP X gV σ Q) X.xe s
def tOp(r:R2)(ta tb:TE):TE:=fun σ H Q=>ta σ H fun x H1=>tb σ H1 fun y H2=>r x y H2 Q
def tUn(r:V->Hp->VK->Prop)(ta:TE):TE:=fun σ H Q=>ta σ H fun x H1=>r x H1 Q
def rI(C:Int->Int->Prop)(g:Int->Int->V):R2:=fun x y H Q=>∃ i j,x = .int i/\y = .int j/\C i j/\Q (g i j) H
def rI0(g:Int->Int->V):R2:=fun x y H Q=>∃ i j,x = .int i/\y = .int j/\Q (g i j) H
def rU(g:Int->V):V->Hp->VK->Prop:=fun x H Q=>∃ i,x = .int i/\Q (g i) H
section
variable{a c:Expr}{ta tb tc:TE}{pos:Pos}
theorem Ms(ha:PE X a ta)(hb:PE X b tb){s:Shared}{σ:St}{R:V->V->Hp->Prop}(I:Inv X gV σ H s)
  (h:ta σ H fun x H1=>tb σ H1 fun y H2=>R x y H2) {Q:Value->Shared->Prop} {f:Value->Value->Sem Value}
  (hf:∀ v u s2 x y H2,Inv X gV σ H2 s2->RelV x v->RelV y u->R x y H2->wpAny (model X.prog X.w) X.A (f v u) Q X.xe s2) :
  wpAny (model X.prog X.w) X.A (eval a X.env) (fun v s₁=>wpAny (model X.prog X.w) X.A (eval b X.env) (fun u s₂=>wpAny (model X.prog X.w) X.A (f v u) Q X.xe s₂) X.xe s₁) X.xe s:=by
 refine thn (ha gV s σ H _ I h) fun v s1 hPP=>?_
 obtain⟨x,H1,I1,r1,q1⟩:=hPP;refine thn (hb gV s1 σ H1 _ I1 q1) fun u s2 hPP=>?_
 obtain⟨y,H2,I2,r2,q2⟩:=hPP;exact hf v u s2 x y H2 I2 r1 r2 q2
theorem cg{op:Operator}{r:R2}(ho:OpR X (binaryOp op) r)(ha:PE X a ta)(hb:PE X b tb):PE X (.BinOp a op b pos) (tOp r ta tb):=by
 intro gV s σ H Q I h;exact wpAny_BinOp (Ms ha hb I h fun v u s2 x y H2 I2 rx ry q=>ho gV s2 σ H2 x y v u Q I2 rx ry q)
theorem N1{op:UnaryOp}{r:V->Hp->VK->Prop}(ho:UnR X (unaryOp op) r)(ha:PE X a ta):PE X (.UnaryOp op a pos) (tUn r ta):=by
 intro gV s σ H Q I h;exact UnaryOp_ (thn (ha gV s σ H _ I h) fun v s1 ⟨x,H1,I1,r1,q1⟩=>ho gV s1 σ H1 x v Q I1 r1 q1)
theorem opI{f:Value->Value->Sem Value}{C:Int->Int->Prop}{g:Int->Int->Int}
  (rule:∀(i j:Int)(t u:Tok)(s:Shared)(Q:Value->Shared->Prop)(E:Value->Shared->Prop),C i j->Q (.int (g i j) s.toks) { s with toks:=s.toks+1 }->wpAny (model X.prog X.w) X.A (f (.int i t) (.int j u)) Q E s) :
  OpR X f (rI C fun i j=>.int (g i j)):=by
 intro gV s σ H x y v u Q I rx ry h;obtain⟨i,j,rfl,rfl,hc,q⟩:=h;obtain⟨t,rfl⟩:=rx;obtain⟨t',rfl⟩:=ry;exact rule i j t t' s _ _ hc ⟨.int (g i j),H,I.tok _,⟨_,rfl⟩,q⟩
theorem N5{f:Value->Value->Sem Value}{g:Int->Int->Int}
  (rule:∀(i j:Int)(t u:Tok)(s:Shared)(Q:Value->Shared->Prop)(E:Value->Shared->Prop),Q (.int (g i j) s.toks) { s with toks:=s.toks+1 }->wpAny (model X.prog X.w) X.A (f (.int i t) (.int j u)) Q E s) :
  OpR X f (rI0 fun i j=>.int (g i j)):=by
 intro gV s σ H x y v u Q I rx ry h;obtain⟨i,j,rfl,rfl,q⟩:=h;obtain⟨t,rfl⟩:=rx;obtain⟨t',rfl⟩:=ry;exact rule i j t t' s _ _ ⟨.int (g i j),H,I.tok _,⟨_,rfl⟩,q⟩
theorem LC{f:Value->Value->Sem Value}{g:Int->Int->Bool}
  (rule:∀(i j:Int)(t u:Tok)(s:Shared)(Q:Value->Shared->Prop)(E:Value->Shared->Prop),Q (.bool (g i j)) s->wpAny (model X.prog X.w) X.A (f (.int i t) (.int j u)) Q E s) :
  OpR X f (rI0 fun i j=>.bl (g i j)):=by
 intro gV s σ H x y v u Q I rx ry h;obtain⟨i,j,rfl,rfl,q⟩:=h;obtain⟨t,rfl⟩:=rx;obtain⟨t',rfl⟩:=ry;exact rule i j t t' s _ _ ⟨.bl (g i j),H,I,rfl,q⟩
def SA(i j:Int):Prop:=0<=j/\j<=1000000/\i.natAbs<2 ^ 64
def Gh(i j:Int):Prop:=(-(2 ^ 64)<i/\i<2 ^ 64)\/(-(2 ^ 64)<j/\j<2 ^ 64)
theorem Gh.ok{i j:Int}(h:Gh i j):IntMulOk i j:=by
 rcases h with⟨h1,h2⟩ |⟨h1,h2⟩
 ·exact .of_left (intBits_le_64 h1 h2)
 ·exact .of_right (intBits_le_64 h1 h2)
theorem l5:OpR X (binaryOp .Add) (rI0 fun i j=>.int (i+j)):=N5 fun _ _ _ _ _ _ _ q=>add_int q
theorem xK:OpR X (binaryOp .Sub) (rI0 fun i j=>.int (i - j)):=N5 fun _ _ _ _ _ _ _ q=>sub_int q
theorem jV:OpR X (binaryOp .Mult) (rI Gh fun i j=>.int (i*j)):=opI fun _ _ _ _ _ _ _ hc q=>mul_int q hc.ok
theorem gN:OpR X (binaryOp .Mod) (rI (fun _ j=>0<j) fun i j=>.int (i % j)):=opI fun i j _ _ _ _ _ hc q=>by
 have h1:(0:Int)<j:=hc;exact mod_int' (by omega) (by rw[Int.fmod_eq_emod_of_nonneg i (by omega)];exact q)
theorem Lz:OpR X (binaryOp .Pow) (rI SA fun i j=>.int (i ^ j.toNat)):=opI fun _ _ _ _ _ _ _ hc q=>pow_int_small hc.1 hc.2.1 hc.2.2 q
theorem unI{f:Value->Sem Value}{g:Int->Int}
  (rule:∀(i:Int)(t:Tok)(s:Shared)(Q:Value->Shared->Prop)(E:Value->Shared->Prop),Q (.int (g i) s.toks) { s with toks:=s.toks+1 }->wpAny (model X.prog X.w) X.A (f (.int i t)) Q E s) :
  UnR X f (rU fun i=>.int (g i)):=by
 intro gV s σ H x v Q I rx h;obtain⟨i,rfl,q⟩:=h;obtain⟨t,rfl⟩:=rx;exact rule i t s _ _ ⟨.int (g i),H,I.tok _,⟨_,rfl⟩,q⟩
theorem Ko:UnR X (unaryOp .USub) (rU fun i=>.int (-i)):=unI fun _ _ _ _ _ q=>neg_int q
end
def Nh:V->V->Bool
 | .non,.non=>true | .non,.int _=>true | .int _,.non=>true | .non,.bl _=>true | .bl _,.non=>true | .non,.str _=>true | .str _,.non=>true
 | .int _,.int _=>true | .bl _,.bl _=>true | .str _,.str _=>true | .byt _,.byt _=>true
 | .int _,.str _=>true | .str _,.int _=>true | .bl _,.str _=>true | .str _,.bl _=>true
 | _,_=>false
def rEq:R2:=fun x y H Q=>Nh x y=true/\Q (.bl (decide (x=y))) H
theorem IV{i j:Int}:decide (V.int i=V.int j) =(i==j):=by
 rw[UK];simp
theorem Mi{i j:Bool}:decide (V.bl i=V.bl j) =(i==j):=by
 rw[UK];simp
theorem IU{i j:Str}:decide (V.str i=V.str j) =(i==j):=by
 rw[UK];simp
theorem IW{i j:Array UInt8}:decide (V.byt i=V.byt j) =(i.toList==j.toList):=by
 rw[UK];cases i;cases j;simp
variable{op:CmpOp}{its:List Value}{us:List Value}{y:V}
section
variable{a c:Expr}{ta tb tc:TE}{pos:Pos}
theorem cc{σ:St}{s:Shared}{Q:VK}{k k':Bool}(I:Inv X gV σ H s)(q:Q (.bl k) H)(e:k=k'):EP X gV σ Q (.bool k') s:=by
 subst e;exact⟨.bl k,H,I,rfl,q⟩
theorem JW:OpR X (compareOp .Eq) rEq:=by
 intro gV s σ H x y v u Q I rx ry h;obtain⟨hs,q⟩:=h;cases x with
 | non =>
  cases rx;cases y with
  | non=>cases ry;exact PySem.EqNone.eq_none_none (cc I q (by simp))
  | bl j=>cases ry;exact PySem.EqNone.eq_none_bool (cc I q (by simp))
  | int j=>obtain⟨t',rfl⟩:=ry;exact PySem.EqNone.eq_none_int (cc I q (by simp))
  | str j=>obtain⟨t',rfl⟩:=ry;exact PySem.EqNone.eq_none_str (cc I q (by simp))
  | _=>exact absurd (show false=true from hs) Ta
 | bl i =>
  cases rx;cases y with
  | non=>cases ry;exact PySem.EqNone.eq_bool_none (cc I q (by simp))
  | bl j=>cases ry;exact eq_bool (cc I q Mi)
  | str j=>obtain⟨t',rfl⟩:=ry;exact PySem.EqMixed.eq_bool_str (cc I q (by simp))
  | _=>exact absurd (show false=true from hs) Ta
 | int i =>
  obtain⟨t,rfl⟩:=rx;cases y with
  | non=>cases ry;exact PySem.EqNone.eq_int_none (cc I q (by simp))
  | int j=>obtain⟨t',rfl⟩:=ry;exact eq_int (cc I q IV)
  | str j=>obtain⟨t',rfl⟩:=ry;exact PySem.EqMixed.eq_int_str (cc I q (by simp))
  | _=>exact absurd (show false=true from hs) Ta
 | str i =>
  obtain⟨t,rfl⟩:=rx;cases y with
  | non=>cases ry;exact PySem.EqNone.eq_str_none (cc I q (by simp))
  | bl j=>cases ry;exact PySem.EqMixed.eq_str_bool (cc I q (by simp))
  | int j=>obtain⟨t',rfl⟩:=ry;exact PySem.EqMixed.eq_str_int (cc I q (by simp))
  | str j=>obtain⟨t',rfl⟩:=ry;exact eq_str (cc I q IU)
  | _=>exact absurd (show false=true from hs) Ta
 | byt i =>
  obtain⟨t,rfl⟩:=rx;cases y with
  | byt j=>obtain⟨t',rfl⟩:=ry;exact W.eq_bytes (cc I q IW)
  | _=>exact absurd (show false=true from hs) Ta
 | _=>cases y <;> exact absurd (show false=true from hs) Ta
theorem N3:OpR X (compareOp .Lt) (rI0 fun i j=>.bl (decide (i<j))):=LC fun _ _ _ _ _ _ _ q=>lt_int q
theorem zF:OpR X (compareOp .Gt) (rI0 fun i j=>.bl (decide (j<i))):=LC fun _ _ _ _ _ _ _ q=>gt_int q
theorem N4:OpR X (compareOp .GtE) (rI0 fun i j=>.bl (decide (j<=i))):=LC fun _ _ _ _ _ _ _ q=>ge_int q
theorem Bj:OpR X (compareOp .In) (fun x y H Q=>∃ i j,x = .str i/\y = .str j/\Q (.bl (!(Builtin.Str.occurrences j i 0 j.length 1).isEmpty)) H):=by
 intro gV s σ H x y v u Q I rx ry h;obtain⟨i,j,rfl,rfl,q⟩:=h;obtain⟨t,rfl⟩:=rx;obtain⟨t',rfl⟩:=ry;exact in_str (cc I q rfl)
theorem D7:OpR X (compareOp .Is) (fun x y H Q=>y = .non/\Q (.bl (decide (x = .non))) H):=by
 intro gV s σ H x y v u Q I rx ry h;obtain⟨rfl,q⟩:=h;cases ry;refine is_none_gen (cc I q ?_);cases x <;> first
  | (cases rx;rfl)
  | (obtain⟨t,rfl⟩:=rx;rfl)
theorem tD:OpR X (compareOp .IsNot) (fun x y H Q=>y = .non/\Q (.bl (!decide (x = .non))) H):=by
 intro gV s σ H x y v u Q I rx ry h;obtain⟨rfl,q⟩:=h;cases ry;refine isnot_none_gen (cc I q ?_);cases x <;> first
  | (cases rx;rfl)
  | (obtain⟨t,rfl⟩:=rx;rfl)
theorem tw:OpR X (compareOp .NotIn) (fun x y H Q=>∃ i j,x = .str i/\y = .str j/\Q (.bl (!(!(Builtin.Str.occurrences j i 0 j.length 1).isEmpty))) H):=by
 intro gV s σ H x y v u Q I rx ry h;obtain⟨i,j,rfl,rfl,q⟩:=h;obtain⟨t,rfl⟩:=rx;obtain⟨t',rfl⟩:=ry;exact notIn_str (cc I q rfl)
theorem OpR.or{f:Value->Value->Sem Value}{r r':R2}(h:OpR X f r)(h':OpR X f r'):OpR X f (fun x y H Q=>r x y H Q\/r' x y H Q):=by
 intro gV s σ H x y v u Q I rx ry q;rcases q with q|q
 ·exact h gV s σ H x y v u Q I rx ry q
 ·exact h' gV s σ H x y v u Q I rx ry q
theorem bK(b:Expr)(h:op ≠ .In:=by decide)(h2:op ≠ .NotIn:=by decide):behindInMarks op b=false:=by
 have e1:(op==CmpOp.In)=false:=by cases op <;> first|rfl|exact absurd rfl h
 have e2:(op==CmpOp.NotIn)=false:=by cases op <;> first|rfl|exact absurd rfl h2
 cases b <;> simp[behindInMarks,e1,e2]
theorem HL{r:R2}(ho:OpR X (compareOp op) r)(ha:PE X a ta)(hb:PE X b tb)(hm:behindInMarks op b=false):PE X (.Compare a [op] [b] pos) (tOp r ta tb):=by
 intro gV s σ H Q I h;exact wpAny_Compare1 (Ms ha hb I h fun v u s2 x y H2 I2 rx ry q=>ho gV s2 σ H2 x y v u Q I2 rx ry q) hm
def y3(t:TE):TT:=fun σ H Q=>t σ H fun x H'=>∃ k,x = .bl k/\Q k H'
theorem kJ{r:R2}(ho:OpR X (compareOp op) r)(ha:PE X a ta)(hb:PE X b tb)(hm:behindInMarks op b=false):PT X (.Compare a [op] [b] pos) (y3 (tOp r ta tb)):=by
 intro gV s σ H Q I h;refine wpAny_isTrue_Compare1 (thn (ha gV s σ H _ I h) fun v s1 ⟨x,H1,I1,r1,q1⟩=>thn (hb gV s1 σ H1 _ I1 q1) fun u s2 ⟨y,H2,I2,r2,q2⟩ =>
  thn (ho gV s2 σ H2 x y v u _ I2 r1 r2 q2) fun c s3 ⟨z,H3,I3,r3,k,e,q3⟩=>?_) hm
 subst e;cases r3;exact wpAny_truthy_bool ⟨H3,I3,q3⟩
def Jt(K:W.Frag)(x:V)(H:Hp)(k:Bool):Prop :=
 match x with
 | .non=>k=false
 | .bl b=>k=b
 | .int i=>k =(i != 0)
 | .str y=>y.length<=S4/\k =((y.length:Int) != 0)
 | .byt y=>y.size<=S4/\k =((y.size:Int) != 0)
 | .ref p=>(∃ xs,SqL K H p xs/\k = !xs.isEmpty)\/(∃ xs,SqT K H p xs/\k = !xs.isEmpty)\/∃ kvs,H p=some (.dK kvs)/\k = !kvs.isEmpty
 | _=>False
theorem ye{κ:Type}{kvs:List (κ×V)}{vs:List (κ×Value)}(r:KV kvs vs):(!vs.isEmpty) = !kvs.isEmpty:=by
 cases r <;> rfl
theorem pj{xs:List V}(r:Vals xs its):(!its.toArray.isEmpty) = !xs.isEmpty:=by
 cases r <;> simp
theorem gQ:(S4:Nat)<2 ^ 63:=by rw[UZ];decide
theorem Kr:Sv X (fun x H Q=>∃ k,Jt X.K x H k/\Q k H):=by
 intro gV s σ H x v Q I rx h;obtain⟨k,e,q⟩:=h;have hl:=gQ;have hs:S4=16777216:=UZ;cases x with
 | non =>
  cases rx;have e':k=false:=e;subst e';exact truthy_none ⟨H,I,q⟩
 | bl b =>
  cases rx;have e':k=b:=e;subst e';exact wpAny_truthy_bool ⟨H,I,q⟩
 | int i =>
  obtain⟨t,rfl⟩:=rx;have e':k =(i != 0):=e;subst e';exact PySem.P.truthy_int ⟨H,I,q⟩
 | str y =>
  obtain⟨t,rfl⟩:=rx;obtain⟨hy,e'⟩:y.length<=S4/\k =((y.length:Int) != 0):=e;subst e';exact PySem.P.truthy_str (by omega) ⟨H,I.tok _,q⟩
 | byt y =>
  obtain⟨t,rfl⟩:=rx;obtain⟨hy,e'⟩:y.size<=S4/\k =((y.size:Int) != 0):=e;subst e';exact W.truthy_bytes (by omega) ⟨H,I.tok _,q⟩
 | ref p =>
  cases rx;have e':(∃ xs,SqL X.K H p xs/\k = !xs.isEmpty)\/(∃ xs,SqT X.K H p xs/\k = !xs.isEmpty)\/∃ kvs,H p=some (.dK kvs)/\k = !kvs.isEmpty:=e
  rcases e' with⟨xs,hx,e'⟩ |⟨xs,hx,e'⟩ |⟨kvs,hx,e'⟩
  ·subst e';obtain⟨its,r,pl,hz⟩:=I.list hx;have hlen:=r.length;exact wpAny_truthy_list pl.isList (by simp only[S7];omega) ⟨H,I.tok _,by rw[pj r];exact q⟩
  ·subst e';obtain⟨its,r,pl,hz⟩:=I.tuple hx;have hlen:=r.length;exact truthy_tuple pl (by simp only[S7];omega) ⟨H,I.tok _,by rw[pj r];exact q⟩
  ·subst e';obtain⟨hz,hS,vs,r,m⟩:kvs.length<=S4/\(p==sysModules)=false/\∃ vs,KV kvs vs/\s.heap.DictOf (bh X.prog X.w) p vs:=I.hok p _ hx
   have hlen:kvs.length=vs.length:=Paired.length r;exact wpAny_truthy_dict hS m (by omega) ⟨H,I.tok _,by rw[ye r];exact q⟩
 | _=>exact(show False from e).elim
theorem DR(ha:PE X a ta)(he:∀ whole,isTrue a X.env whole =(do let v <- whole;standAt a.pos;holding [v] (truthy v))) :
  PT X a (fun σ H Q=>ta σ H fun x H'=>∃ k,Jt X.K x H' k/\Q k H'):=by
 intro gV s σ H Q I h;exact isTrue_plain (thn (ha gV s σ H _ I h) fun v s1 ⟨x,H1,I1,r1,q1⟩=>Kr gV s1 σ H1 x v Q I1 r1 q1) (he _)
theorem xN:OpR X (binaryOp .Add) (fun x y H Q=>∃ i j,x = .str i/\y = .str j/\i.length+j.length<=S4/\Q (.str (i++j)) H):=by
 intro gV s σ H x y v u Q I rx ry h;obtain⟨i,j,rfl,rfl,hz,q⟩:=h;obtain⟨t,rfl⟩:=rx;obtain⟨t',rfl⟩:=ry;exact add_str (fun t' tk=>⟨.str (i++j),H,I.tok _,⟨_,rfl⟩,q⟩) hz
theorem vals1{x:V}(r:Vals [x] us):∃ u,us = [u]/\RelV x u:=by
 cases r with
 | cons r1 r2=>cases r2;exact⟨_,rfl,r1⟩
theorem vals2{x:V}(r:Vals [x,y] us):∃ u w',us = [u,w']/\RelV x u/\RelV y w':=by
 cases r with
 | cons r1 r2 =>
  cases r2 with
  | cons r3 r4=>cases r4;exact⟨_,_,rfl,r1,r3⟩
theorem jt(hc:X.calm=true):cI X (.builtin "max") (fun xs H Q=>∃ i j,xs = [.int i,.int j]/\Q (.int (if j > i then j else i)) H):=by
 intro gV s σ H xs us Q I r h;obtain⟨i,j,rfl,q⟩:=h;obtain⟨u,w',rfl,⟨t,rfl⟩,⟨t',rfl⟩⟩:=vals2 r;refine max_two_ints (I.ok.hd hc) fun h' tk k=>⟨_,H,I.kept k,?_,q⟩
 by_cases hj:j > i
 ·rw[if_pos hj,if_pos hj];exact⟨_,rfl⟩
 ·rw[if_neg hj,if_neg hj];exact⟨_,rfl⟩
theorem ju:cI X (.type "int") (fun xs H Q=>(∃ i,xs = [.int i]/\Q (.int i) H)\/∃ k,xs = [.bl k]/\Q (.int (if k then 1 else 0)) H):=by
 intro gV s σ H xs us Q I r h;rcases h with⟨i,rfl,q⟩ |⟨k,rfl,q⟩
 ·obtain⟨u,rfl,t,rfl⟩:=vals1 r;exact call_int_int ⟨.int i,H,I,⟨_,rfl⟩,q⟩
 ·obtain⟨u,rfl,r1⟩:=vals1 r;cases r1;exact call_int_bool ⟨.int (if k then 1 else 0),H,I.tok _,⟨_,rfl⟩,q⟩
end
structure Ce(h:Heap)(x dx C:Addr)(mA:Str->Option Value):Prop where
 obj:h.get? x=some (W.instObj C dx)
 ns:h.Ns1 dx mA
 ne:dx≠x
variable{dx:Addr}{mA:Str->Option Value}
theorem Bz{h:Heap}(n:h.Ns1 dx mA):∃ od,h.get? dx=some od/\∀ name,W.lookIn name od=some (mA name):=by
 obtain⟨o,es,ep,ho,hd,hk,_,hm⟩:=n;refine⟨o,ho,fun name=>?_⟩
 have e:=hm name;unfold nsFind findBy at e;rw[<- Array.find?_toList]at e;unfold W.lookIn;rw[hd];dsimp only
 split
 ·rename_i y q;rw[q]at e;exact congrArg some e
 ·rename_i q;rw[q]at e;have a:es.toList.any (·.refKey)=false:=by
   rw[V7];intro y hy;obtain⟨z,t,BN⟩:=hk y (Array.mem_toList_iff.mp hy);simp[DictEntry.refKey,BN]
  have a':¬ es.toList.any (·.refKey)=true:=by rw[a];exact Ta
  rw[if_neg a'];exact congrArg some e
variable{C:Addr}
theorem Ce.look{h:Heap}{x:Addr}(I:Ce h x dx C mA):∃ od,W.InstAt h x (W.instObj C dx) C (some od)/\∀ name,W.lookIn name od=some (mA name) :=
 let⟨od,ho,hl⟩:=Bz I.ns
 ⟨od,⟨I.obj,rfl,rfl,ho⟩,hl⟩
variable{ns:List Str}{R:Result->Shared->Prop}{kw:List (Str×Value)}
section
variable{prog:Program}{w:World}{s:Shared}{K:W.Frag}{x f:Addr}{name:Str}{v:Value}
theorem get_map{expr:Bool}(X:K.In s.heap)(I:Ce s.heap x dx C mA)(hg:W.plainGet K C name=true)(hh:W.hasDictIn K C=true)
  (ha:W.findIn K (.ref C) name=some none) (hv:mA name=some v) (hv':W.handedIn v=true) (h:Q v { s with toks:=s.toks+1 }) :
  wpAny (model prog w) A (getAttr (.ref x) name expr) Q E s:=by
 obtain⟨od,J,hl⟩:=I.look;exact W.get_value X J (W.plainGet_of hg).1 (W.findObj_own hh ha rfl (by rw[hl,hv])) hv' h
theorem GX{Q:Unit->Shared->Prop}(X:K.In s.heap)(I:Ce s.heap x dx C mA)
  (hs:W.findIn K (.ref C) "__setattr__" = some (some (.builtin "object.__setattr__"))) (hp:W.plainOver K C=true) (ht:W.takerIn K C name=some none) (hh:W.hasDictIn K C=true)
  (hw:PySem.Within mA ns) (hsz:ns.length<=S4)
  (h:∀ h',Ce h' x dx C (fun y=>if y=name then some v else mA y)->T7 dx s.heap h'->Q () { s with heap:=h',toks:=s.toks+2 }) :
  wpAny (model prog w) A (setAttr (.ref x) name v) Q E s:=by
 obtain⟨od,J,hl⟩:=I.look;refine W.set_plain X J hs (W.osa_open (s:={ s with toks:=s.toks+1 }) (r:=none) X J hp ht fun b=>?_)
 obtain⟨cd,hc,hd'⟩:=W.any_some hh;have hx:s.heap.get? x=some ⟨.ref C,some dx,.plain,#[]⟩:=I.obj;refine j0 (M7 (j0 (j0 (wpAny_loadPart hx (j0 (W.Looks.here (s:={ s with toks:=s.toks+1 }) (W.looks_clsIn X hc) ?_))))))
 rw[hd'];refine M7 (a:=some dx) (j0 (M7 (j0 ?_)));refine wpAny_nsSet1 (s:={ s with toks:=s.toks+1 }) I.ns fun h' hn2 hs2=>?_
 obtain⟨oD,esD,epD,hoD,hdD,hcD⟩:=hn2.count (PySem.Within.cons name v hw);refine j0 (wpAny_lookBehind hoD (by rw[hdD];exact pastItsLine_dict (Tn hcD (by rw[Te];omega))) ?_)
 exact M7 (h _ ⟨(hs2.2 _ (Ne.symm I.ne)).trans I.obj,hn2,I.ne⟩ hs2)
theorem EB{vs:List Value}(X:K.In s.heap)(hm:W.makesIn K C=true)
  (hi:W.findIn K (.ref C) "__init__" = some (some (.ref f))) (hf:W.typeIn K (.ref f)=some (.type "function"))
  (h:codeAny (model prog w) (A.under (.builtin "type.__call__" ⟨.ref C::vs,kw⟩)) (.call (.ref f) ⟨.ref (s.heap.objs.size+1)::vs,kw⟩) (W.InitBack (s.heap.objs.size+1) R)
   { s with heap:=(s.heap.push W.emptyDict).push (W.instObj C s.heap.objs.size) }) :
  codeAny (model prog w) A (.call (.ref C) ⟨vs,kw⟩) R s:=by
 obtain⟨hh,g,d,t,os⟩:=s;exact W.make_core (W.makes_of X hm) (W.looks_findIn X hi) (fun self=>W.bind_fn X self hf) (.inl rfl) h
end
def jw(f:Str)(v:V):List (Str×V)->List (Str×V)
 | []=>[(f,v)]
 | (g,x)::r=>if g=f then(g,v)::r else(g,x)::jw f v r
theorem mT(f g:Str)(v:V):∀ fs:List (Str×V),(jw f v fs).lookup g=if g=f then some v else fs.lookup g
 | []=>by
  show UN g [(f,v)]=_;by_cases h:g=f
  ·have hb:(g==f)=true:=beq_iff_eq.mpr h;simp only[UN,hb,if_pos h]
  ·have hb:(g==f)=false:=beq_eq_false_iff_ne.mpr h;simp only[UN,hb,if_neg h]
 | (k,x)::r=>by
  have ih:=mT f g v r;rw[show jw f v ((k,x)::r) =(if k=f then(k,v)::r else(k,x)::jw f v r)from rfl]
  by_cases hk:k=f
  ·rw[if_pos hk];by_cases h:g=k
   ·have hb:(g==k)=true:=beq_iff_eq.mpr h;simp only[UN,hb,if_pos (h.trans hk)]
   ·have hb:(g==k)=false:=beq_eq_false_iff_ne.mpr h;simp only[UN,hb,if_neg (fun e:g=f=>h (e.trans hk.symm))]
  ·rw[if_neg hk];by_cases h:g=k
   ·have hb:(g==k)=true:=beq_iff_eq.mpr h;simp only[UN,hb,if_neg (fun e:g=f=>hk (h.symm.trans e))]
   ·have hb:(g==k)=false:=beq_eq_false_iff_ne.mpr h;simp only[UN,hb];exact ih
theorem me(f:Str)(v:V):∀ fs:List (Str×V),f∈(jw f v fs).map (·.1)/\∀ g,g∈fs.map (·.1)->g∈(jw f v fs).map (·.1)
 | []=>⟨by simp[jw],fun g h=>by simp at h⟩
 | (k,x)::r=>by
  obtain⟨i1,i2⟩:=me f v r;rw[show jw f v ((k,x)::r) =(if k=f then(k,v)::r else(k,x)::jw f v r)from rfl]
  by_cases hk:k=f
  ·rw[if_pos hk];subst hk;exact⟨by simp,fun g h=>by simpa using h⟩
  ·rw[if_neg hk];refine⟨?_,fun g h=>?_⟩
   ·rw[Tx];exact SK _ i1
   ·rw[Tx]at h ⊢;rcases S1.mp h with e|e
    ·exact S1.mpr (.inl e)
    ·exact SK _ (i2 g e)
theorem mU(f:Str)(v:V):∀ fs:List (Str×V),(jw f v fs).length<=fs.length+1
 | []=>by simp[jw]
 | (k,x)::r=>by
  have ih:=mU f v r;rw[show jw f v ((k,x)::r) =(if k=f then(k,v)::r else(k,x)::jw f v r)from rfl]
  by_cases hk:k=f
  ·rw[if_pos hk,Te,Te];omega
  ·rw[if_neg hk,Te,Te];omega
theorem kq.some_of{v:V}{o:Option Value}(r:kq (some v) o):∃ u,o=some u/\RelV v u:=by
 cases o with
 | none=>exact(show False from r).elim
 | some u=>exact⟨u,rfl,r⟩
theorem BP{v:V}(r:RelV v u):W.handedIn u=true:=by
 cases v with
 | non=>cases(show u=Value.none from r);rfl
 | bl b=>cases(show u=Value.bool b from r);rfl
 | int i=>obtain⟨t,e⟩:=(show ∃ t,u=Value.int i t from r);cases e;rfl
 | str x=>obtain⟨t,e⟩:=(show ∃ t,u=Value.str x t from r);cases e;rfl
 | byt b=>obtain⟨t,e⟩:=(show ∃ t,u=Value.bytes b t from r);cases e;rfl
 | flt b=>obtain⟨t,e⟩:=(show ∃ t,u=Value.float b t from r);cases e;rfl
 | ref a=>cases(show u=Value.ref a from r);rfl
 | ty n=>cases(show u=Value.type n from r);rfl
section
variable{w:World}{h h':Heap}{fs fs':List (Str×V)}
theorem uf(hok:HOk P w H h)(e:H a=some (.ins C dx fs)):∃ mA,Ce h a dx C mA/\(∀ f,kq (fs.lookup f) (mA f))/\PySem.Within mA (fs.map (·.1))/\fs.length<=1000/\H dx=some (.own a):=by
 obtain⟨d,z,ne,ob,mA,n,r,q⟩:=(show a5 P w H h a (.ins C dx fs)from hok a _ e);exact⟨mA,⟨ob,n,ne⟩,r,q,z,d⟩
end
structure Cls(K:W.Frag)(C:Addr):Prop where
 pg:W.plainGet K C Str.empty=true
 hd:W.hasDictIn K C=true
 po:W.plainOver K C=true
 sa:W.findIn K (.ref C) "__setattr__" = some (some (.builtin "object.__setattr__"))
theorem Cls.get{K:W.Frag}(c:Cls K C)(f:Str):W.plainGet K C f=true:=c.pg
def f6(K:W.Frag)(C:Addr)(f:Str):Prop:=W.findIn K (.ref C) f=some none
theorem f6.MY{K:W.Frag}{f:Str}(n:f6 K C f):W.takerIn K C f=some none:=by
 unfold W.takerIn;rw[show W.findIn K (.ref C) f=some none from n];rfl
structure Meth(K:W.Frag)(C:Addr)(m:Str)(f:Addr):Prop where
 at_:W.findIn K (.ref C) m=some (some (.ref f))
 fn:W.isFn K (.ref f)=true
 kp:W.keepIn K (.ref f)=true
variable{prog:Program}{env:Env}
section
variable{σ:St}{s:Shared}{fs:List (Str×V)}{f:Str}{v:V}
theorem yl{b:Bool}(I:Inv X gV σ H s)(e:H a=some (.ins C dx fs))(c:Cls X.K C)(n:f6 X.K C f)(l:fs.lookup f=some v)
  (h:∀ u s',Inv X gV σ H s'->RelV v u->Q u s'):wpAny (model X.prog X.w) A (getAttr (.ref a) f b) Q E s:=by
 obtain⟨mA,O,r,_,_,_⟩:=uf I.hok e;obtain⟨u,hu,ru⟩:=kq.some_of (v:=v) (o:=mA f) (by rw[<- l];exact r f)
 exact get_map I.kIn O (c.get f) c.hd n hu (BP ru) (h u _ (I.tok _) ru)
theorem xg{Q:Unit->Shared->Prop}(I:Inv X gV σ H s)(e:H a=some (.ins C dx fs))(c:Cls X.K C)(n:f6 X.K C f)(hl:fs.length<1000)(ry:RelV y u)
  (h:∀ s',Inv X gV σ (upd H a (.ins C dx (jw f y fs))) s'->Q () s'):wpAny (model X.prog X.w) A (setAttr (.ref a) f u) Q E s:=by
 obtain⟨mA,O,r,wi,_,ho⟩:=uf I.hok e;have hz:(fs.map (·.1)).length<=S4:=by rw[j3,UZ];omega
 refine GX I.kIn O c.sa c.po n.MY c.hd wi hz fun h' O' sb=>h _ ?_
 have hd:∃ o,h'.get? dx=some o:=let⟨o,_,_,e',_⟩:=O'.ns;⟨o,e'⟩
 refine I.write (x:=a) (e:=dx) (by rw[e];exact True.intro) (.inr ho) (fun b q hb z=>(sb.2 b hb).trans z) hd ?_
 refine⟨by rw[ao O.ne];exact ho,?_,O.ne,O'.obj,_,O'.ns,fun g=>?_,fun g hg=>?_⟩
 ·have:=mU f y fs;omega
 ·show kq ((jw f y fs).lookup g) (if g=f then some u else mA g)
  rw[mT];by_cases q:g=f
  ·rw[if_pos q,if_pos q];exact ry
  ·rw[if_neg q,if_neg q];exact r g
 ·by_cases q:g=f
  ·rw[q];exact(me f y fs).1
  ·refine(me f y fs).2 g (wi g fun z=>hg ?_)
   show(if g=f then some u else mA g)=none
   rw[if_neg q];exact z
theorem Inv.made(I:Inv X gV σ H s):Inv X gV σ (upd (upd H s.heap.objs.size (.own (s.heap.objs.size+1))) (s.heap.objs.size+1) (.ins C s.heap.objs.size []))
  { s with heap:=(s.heap.push W.emptyDict).push (W.instObj C s.heap.objs.size) }:=by
 have e1:(s.heap.push W.emptyDict).get? s.heap.objs.size=some W.emptyDict:=S2 s.heap rfl;have e2:((s.heap.push W.emptyDict).push (W.instObj C s.heap.objs.size)).get? (s.heap.objs.size+1)=some (W.instObj C s.heap.objs.size):=by
  have:=S2 (s.heap.push W.emptyDict) (o:=W.instObj C s.heap.objs.size) rfl
  rwa [Tw]at this
 have e3:(s.heap.push W.emptyDict).Ns s.heap.objs.size (fun _=>none):=⟨W.emptyDict,#[],_,e1,rfl,(fun e he=>absurd he (by simp)),fun _=>rfl⟩
 have I1:=I.laid (a:=s.heap.objs.size) (o:=.own (s.heap.objs.size+1)) (h':=s.heap.push W.emptyDict) (t':=s.toks) (fun b u q=>j5 _ q) (S3 _) ⟨_,e1⟩
 refine I1.laid (a:=s.heap.objs.size+1) (o:=.ins C s.heap.objs.size []) (t':=s.toks) (fun b u q=>j5 _ q) (Nat.le_of_eq (Tw _ _)) ?_
 have ne:s.heap.objs.size≠s.heap.objs.size+1:=Tf (UC _);refine⟨by rw[ao ne,ax],TX _,ne,e2,fun _=>none,(Heap.Ns1.of_empty e3).at fun o q=>j5 _ q,fun _=>True.intro,fun y hy=>absurd rfl hy⟩
theorem Jn{w:World}{f:Str}{pos:Pos}{s:Shared}(hb:attributeBase e f env (eval e env)=eval e env)
  (h:wpAny (model prog w) A (eval e env) (fun o s₁=>wpAny (model prog w) A (getAttr o f true) Q E s₁) E s):wpAny (model prog w) A (eval (.Attribute e f pos) env) Q E s :=
 Attribute_any_ h (by rw[arm_eval_Attribute,hb])
end
def Rm(K:W.Frag)(ta tv:TE)(f:Str):TS:=fun D σ H=>tv σ H fun y H1=>ta σ H1 fun x H2=>∃ a C dx fs,x = .ref a/\H2 a=some (.ins C dx fs)/\Cls K C/\f6 K C f/\fs.length<1000 /\
 D.nx σ (upd H2 a (.ins C dx (jw f y fs)))
section
variable{value:Expr}{f:Str}{pos Rh:Pos}{ta tv:TE}
theorem xD(ha:PE X o ta)(hv:PE X value tv)(hs:swapsWith value (some (.Attribute o f pos')) pos.line X.env=pure false):PS X (.Assign [.Attribute o f pos'] value pos) (Rm X.K ta tv f):=by
 intro gV s σ H D I h;refine plainObj_wpAny_Assign_Attribute (thn (hv gV s σ H _ I h) fun u s1 ⟨y,H1,I1,ry,q⟩=>thn (ha gV s1 σ H1 _ I1 q) fun ov s2 hPP=>?_) hs
 obtain⟨x,H2,I2,rx,a,C,dx,fs,ex,ea,c,n,l,q2⟩:=hPP;subst ex;obtain rfl:ov=Value.ref a:=rx;exact xg I2 ea c n l ry fun s3 I3=>⟨σ,_,I3,q2⟩
end
section
variable{σ:St}{s:Shared}{c:Value}{b:Bool}
inductive jz(K:W.Frag)(H:Hp):V->Value->Prop where
 | non:jz K H .non (.type "NoneType")
 | bl(x:Bool):jz K H (.bl x) (.type "bool")
 | int(i:Int):jz K H (.int i) (.type "int")
 | str(x:Str):jz K H (.str x) (.type "str")
 | flt(x:UInt64):jz K H (.flt x) (.type "float")
 | lst{a:Addr}{xs:List V}(e:H a=some (.lst xs)):jz K H (.ref a) (.type "list")
 | frz{a:Addr}{o:Obj}{xs:List V}(e:H a=some (.frz o (.lst xs))):jz K H (.ref a) (.type "list")
 | tup{a:Addr}{xs:List V}(e:H a=some (.tup xs)):jz K H (.ref a) (.type "tuple")
 | dK{a:Addr}{kvs:List (Key×V)}(e:H a=some (.dK kvs)):jz K H (.ref a) (.type "dict")
 | dT{a:Addr}{kvs:List (List Key×V)}(e:H a=some (.dT kvs)):jz K H (.ref a) (.type "dict")
 | ins{a C dx:Addr}{fs:List (Str×V)}(e:H a=some (.ins C dx fs))(cl:Cls K C)(ha:W.findIn K (.ref C) "__class__" = some (some (.builtin "object.__class__")))
   (hn:W.specialIn K (.builtin "object.__class__") "__get__" = some (some (.builtin "getset_descriptor.__get__"))) (htk:W.takesIn K (.builtin "object.__class__")=some true)
   (hm:W.mroIn K C (.type "object")=some true):jz K H (.ref a) (.ref C)
theorem BI{x:V}{t:Value}(I:Inv X gV σ H s)(rx:RelV x u)(ty:jz X.K H x t)(e:W.kitOne X.K t c=some b)(h:∀ tk,Q (.bool b) { s with toks:=tk }) :
  wpAny (model X.prog X.w) A (call (.builtin "isinstance") [u,c]) Q E s:=by
 cases ty with
 | non=>cases(show u=Value.none from rx);exact W.kia_one W.kitx_none I.kIn True.intro e (fun z=>nomatch z) h
 | bl y=>cases(show u=Value.bool y from rx);exact W.kia_one W.kitx_bool I.kIn True.intro e (fun z=>nomatch z) h
 | int i=>obtain⟨t,q⟩:=(show ∃ t,u=Value.int i t from rx);cases q;exact W.kia_one W.kitx_int I.kIn True.intro e (fun z=>nomatch z) h
 | str y=>obtain⟨t,q⟩:=(show ∃ t,u=Value.str y t from rx);cases q;exact W.kia_one W.kitx_str I.kIn True.intro e (fun z=>nomatch z) h
 | flt y=>obtain⟨t,q⟩:=(show ∃ t,u=Value.float y t from rx);cases q;exact W.kia_one W.kitx_float I.kIn True.intro e (fun z=>nomatch z) h
 | @lst a xs ea =>
  cases(show u=Value.ref a from rx)
  obtain⟨_,_,n,_,h1⟩:=(show a5 X.prog X.w H s.heap a (.lst xs)from I.hok a _ ea);exact W.kia_one W.kitx_list I.kIn ⟨_,h1,rfl⟩ e (fun z=>nomatch z) h
 | @frz a ob xs ea =>
  cases(show u=Value.ref a from rx)
  obtain⟨_,_,_,n,_,h1⟩:=(show a5 X.prog X.w H s.heap a (.frz ob (.lst xs))from I.hok a _ ea);exact W.kia_one W.kitx_list I.kIn ⟨_,h1,rfl⟩ e (fun z=>nomatch z) h
 | @tup a xs ea =>
  cases(show u=Value.ref a from rx)
  obtain⟨_,_,_,p⟩:=(show a5 X.prog X.w H s.heap a (.tup xs)from I.hok a _ ea);obtain⟨o,h1,h2,_⟩:=p.1;exact W.kia_one W.kitx_tuple I.kIn ⟨o,h1,h2⟩ e (fun z=>nomatch z) h
 | @dK a kvs ea =>
  cases(show u=Value.ref a from rx)
  obtain⟨_,_,vs,_,p⟩:=(show a5 X.prog X.w H s.heap a (.dK kvs)from I.hok a _ ea);obtain⟨o,es,ep,h1,h2,_⟩:=p;exact W.kia_one W.kitx_dict I.kIn ⟨o,h1,h2.1⟩ e (fun z=>nomatch z) h
 | @dT a kvs ea =>
  cases(show u=Value.ref a from rx)
  obtain⟨_,_,xs,_,o,es,ep,h1,h2,_⟩:=(show a5 X.prog X.w H s.heap a (.dT kvs)from I.hok a _ ea);exact W.kia_one W.kitx_dict I.kIn ⟨o,h1,h2.1⟩ e (fun z=>nomatch z) h
 | @ins a C dx fs ea cl ha hn htk hm =>
  cases(show u=Value.ref a from rx)
  obtain⟨mA,O,_⟩:=uf I.hok ea;obtain⟨od,J,_⟩:=O.look;exact W.kia_one (W.kitx_own (cl.get _) cl.hd ha hn htk hm) I.kIn J e (fun z=>nomatch z) h
end
structure cK(k:Nat)(A:Around):Prop where
 hd:A.handled=none
 dp:A.depth+3*k+5<recursionLimit
 un:A.units+16*k+200<cLine
theorem cK.mono{k:Nat}(r:cK k A)(h:j<=k):cK j A:=⟨r.hd,by have:=r.dp;omega,by have:=r.un;omega⟩
theorem cK.deeper{k:Nat}{A:Around}(r:cK (k+1) A)(env:Env):cK k (A.deeper env) :=
 ⟨r.hd,by have:=r.dp;show A.depth+1+3*k+5<_;omega,by have:=r.un;show A.units+3+16*k+200<_;omega⟩
theorem xT:(A.under (.builtin "type.__call__" ⟨.ref C::us,kw⟩)).depth=A.depth+1:=by
 first|rfl|simp[V8,Code.weight,Code.isCreation,Code.isGuard,Code.isCaller,Code.frames,Code.isFrame,guardIds]
theorem xS:(A.under (.builtin "type.__call__" ⟨.ref C::us,kw⟩)).units=A.units+1:=by
 first|rfl|simp[V8,Code.cUnits,Code.frames,Code.isFrame]
theorem cK.make{k:Nat}{A:Around}(r:cK (k+1) A)(C:Addr)(us:List Value)(kw:List (Str×Value)):cK k (A.under (.builtin "type.__call__" ⟨.ref C::us,kw⟩)) :=
 ⟨r.hd,by have:=r.dp;rw[xT];omega,by have:=r.un;rw[xS];omega⟩
theorem cK.depth{k:Nat}{A:Around}(r:cK k A):A.depth<recursionLimit:=by have:=r.dp;omega
theorem cK.units{k:Nat}{A:Around}(r:cK k A):A.units+64<cLine:=by have:=r.un;omega
def fD:TA:=fun _ H Q=>Q [] H
def bC(ta:TE)(tr:TA):TA:=fun σ H Q=>ta σ H fun x H1=>tr σ H1 fun xs H2=>Q (x::xs) H2
section
variable{t:TA}{pos:Pos}
theorem c9:PA X [] fD:=fun _ _ _ _ H Q I h=>Calls.spliced_nil ⟨[],H,I,.nil,h⟩
theorem a9(ha:PE X e te)(hr:PA X es t)(hs:SN (e::es) X.env =(false,eval e X.env)::SN es X.env:=by rfl):PA X (e::es) (bC te t):=by
 intro pos gV s σ H Q I h;rw[hs];show wpAny _ _ (spliced ((false,eval e X.env)::backTo pos (SN es X.env))) _ _ s;refine Calls.spliced_cons (thn (ha gV s σ H _ I h) fun u s1 hPP=>?_)
 obtain⟨x,H1,I1,r1,q1⟩:=hPP;refine thn (hr pos gV s1 σ H1 _ I1 q1) fun us s2 hPP=>?_
 obtain⟨xs,H2,I2,r2,q2⟩:=hPP;exact⟨x::xs,H2,I2,.cons r1 r2,q2⟩
def Ks(t:TA):TE:=fun σ H Q=>t σ H fun xs H1=>xs.length<=S4/\∀ p,H1 p=none->Q (.ref p) (upd H1 p (.tup xs))
def M0(t:TA):TE:=fun σ H Q=>t σ H fun xs H1=>xs.length<=S4/\∀ p,H1 p=none->Q (.ref p) (upd H1 p (.lst xs))
theorem D5{x1}(h:PA X es t):PE X (.Tuple es x1 pos) (Ks t):=by
 intro gV s σ H Q I hq;refine wpAny_Tuple_spliced (thn (h pos gV s σ H _ I hq) fun us s1 ⟨xs,H1,I1,r,z,q⟩=>⟨by rw[<- r.length];exact z,?_⟩)
 have hf:H1 s1.heap.objs.size=none:=I1.hok.fresh (S3 _);refine⟨.ref s1.heap.objs.size,upd H1 s1.heap.objs.size (.tup xs),I1.laid (t':=s1.toks) (fun b u e=>j5 _ e) (S3 _) ?_,rfl,q _ hf⟩
 exact⟨z,us,r,⟨⟨_,S2 _ rfl,rfl,_,rfl⟩,_,S2 _ rfl,rfl⟩⟩
theorem Lw(h:PA X es t):PE X (.List es pos) (M0 t):=by
 intro gV s σ H Q I hq;refine wpAny_List_spliced (thn (h pos gV s σ H _ I hq) fun us s1 ⟨xs,H1,I1,r,z,q⟩=>⟨by rw[<- r.length];exact z,?_⟩)
 have hf:H1 s1.heap.objs.size=none:=I1.hok.fresh (S3 _);refine⟨.ref s1.heap.objs.size,upd H1 s1.heap.objs.size (.lst xs),I1.laid (t':=s1.toks) (fun b u e=>j5 _ e) (S3 _) ?_,rfl,q _ hf⟩
 exact⟨z,us,0,r,S2 _ rfl⟩
end
abbrev Sp:=List V->Hp->VK->XK->Prop
abbrev CXT:=List Env->Hp->Shared->XK->Value->Shared->Prop
structure yS(P:Program)(w:World)(K:W.Frag)(mg:Str->Option Value)(base:Heap)(A:Around)(outer:List Env)(s:Shared)(H:Hp):Prop where
 frames:A.frames=some outer
 mod:Mod K mg base
 bs:∀ b o,base.get? b=some o->s.heap.get? b=some o/\H b=none
 bsz:base.objs.size<=s.heap.objs.size
 ni:s.heap.FunFrames base outer
 frf:∀ b∈frs outer,H b=none
 hok:HOk P w H s.heap
 bare:AllBare s.gens
def CE(outer:List Env)(P:Program)(w:World)(H:Hp)(s:Shared)(Q:VK)(u:Value)(s':Shared):Prop :=
 ∃ v H',s'.os=s.os/\AllBare s'.gens/\Un (frs outer) [] H H' s.heap s'.heap/\HOk P w H' s'.heap/\RelV v u/\Q v H'
def CR(CX:CXT)(outer:List Env)(P:Program)(w:World)(H:Hp)(s:Shared)(Q:VK)(E:XK)(r:Result)(s':Shared):Prop :=
 match r with
 | .ok (.ret u)=>CE outer P w H s Q u s'
 | .ok _=>False
 | .error e=>CX outer H s E e s'
structure a8(P:Program)(w:World)(K:W.Frag)(mg:Str->Option Value)(base:Heap)(CX:CXT)(k:Nat)(f:Addr)(fd:FuncData)(ps:List Str)(sp:Sp):Prop where
 len:∀ vs H Q E,sp vs H Q E->vs.length=ps.length
 run:∀(A:Around)(outer:List Env)(s:Shared)(H:Hp)(args:Args)(us:List Value)(vs:List V)(Q:VK)(E:XK),cK k A->yS P w K mg base A outer s H->BindsTo s fd args (ps.zip us)->Vals vs us->sp vs H Q E ->
  codeAny (model P w) A (.call (.ref f) args) (CR CX outer P w H s Q E) s
variable{mg:Str->Option Value}{base:Heap}{CX:CXT}{fd:FuncData}{ps:List Str}{sp:Sp}
theorem a8.imp{w:World}{K:W.Frag}{k:Nat}{f:Addr}{sp':Sp}(F:a8 P w K mg base CX k f fd ps sp)
  (h:∀ vs H Q E,sp' vs H Q E->sp vs H Q E):a8 P w K mg base CX k f fd ps sp' :=
 ⟨fun vs H Q E q=>F.len vs H Q E (h _ _ _ _ q),fun A outer s H args us vs Q E hr he hb hv hs=>F.run A outer s H args us vs Q E hr he hb hv (h _ _ _ _ hs)⟩
theorem yS.make{P:Program}{w:World}{K:W.Frag}{mg:Str->Option Value}{base:Heap}{A:Around}{outer:List Env}{s:Shared}{H:Hp}(e:yS P w K mg base A outer s H)(C:Addr)(us:List Value)(kw:List (Str×Value)) :
  yS P w K mg base (A.under (.builtin "type.__call__" ⟨.ref C::us,kw⟩)) outer s H:=⟨by first|exact e.frames |(simpa [V8,Code.envs,Code.isFrame,pushEnvs]using e.frames),e.mod,e.bs,e.bsz,e.ni,e.frf,e.hok,e.bare⟩
section
variable{σ:St}{s:Shared}
theorem Inv.O6(I:Inv X gV σ H s):yS X.prog X.w X.K X.mg X.base X.A X.stack s H :=
 ⟨I.ok.frames,I.ok.mod,I.bs,Tn I.ok.bsz I.sz,I.stack,I.y8,I.hok,I.bare⟩
theorem Inv.after{Q:VK}(I:Inv X gV σ H s)(h:CE X.stack X.prog X.w H s Q u s'):EP X gV σ Q u s':=by
 obtain⟨v,H',os,bare,un,hok,r,q⟩:=h;obtain⟨hh,g,d,t,os'⟩:=s';obtain rfl:os'=s.os:=os;exact⟨v,H',I.call (h':=hh) (g':=g) (d':=d) (t':=t) (ch:=[]) un hok bare (fun b z=>absurd z (by simp)),r,q⟩
end
def gZ(sp:Sp)(dvs:List V)(E:XK)(t:TA):TE:=fun σ H Q=>t σ H fun vs H1=>sp (vs++dvs) H1 Q E
def Binds(K:W.Frag)(fd:FuncData)(ps:List Str)(ds:List Value):Prop :=
 ∀(s:Shared)(us:List Value),K.In s.heap ->(us++ds).length=ps.length->BindsTo s fd ⟨us,[]⟩ (ps.zip (us++ds))
theorem Binds.all{K:W.Frag}(h:∀ us:List Value,us.length=ps.length->bindArgs fd ⟨us,[]⟩=pure (ps.zip us)):Binds K fd ps []:=fun s us _ hl=>by
 rw[Td]at hl ⊢;exact .of_eq (h us hl)
def Passes(CX:CXT)(X:Cx)(E:XK):Prop:=∀(gV:List (Addr×Obj))(σ:St)(H:Hp)(s:Shared)(e:Value)(s':Shared),Inv X gV σ H s->CX X.stack H s E e s'->X.xe e s'
section
variable{k:Nat}{f:Addr}{dvs:List V}{ds:List Value}{E:XK}{m:Str}{p pos apos:Pos}{ta:TE}{t:TA}
theorem KL{σ:St}{s:Shared}{Q:VK}{vs:List V}(F:a8 X.prog X.w X.K X.mg X.base CX k f fd ps sp)(hr:cK k X.A)(hb:Binds X.K fd ps ds)(hd:Vals dvs ds)(hx:Passes CX X E)
  (I:Inv X gV σ H s) (r:Vals vs us) (h:sp (vs++dvs) H Q E):wpAny (model X.prog X.w) X.A (call (.ref f) us) (EP X gV σ Q) X.xe s:=by
 have r2:Vals (vs++dvs) (us++ds):=r.append hd;have hl:(us++ds).length=ps.length:=by rw[<- r2.length];exact F.len _ _ _ _ h
 refine wpAny_call (codeAny_mono (F.run X.A X.stack s H ⟨us,[]⟩ (us++ds) (vs++dvs) Q E hr I.O6 (hb s us I.kIn hl) r2 h) fun r s' hq=>?_)
 cases r with
 | error e=>exact hx gV σ H s e s' I hq
 | ok fl =>
  cases fl with
  | ret u=>exact I.after hq
  | next=>exact False.elim hq
  | brk=>exact False.elim hq
  | cont=>exact False.elim hq
theorem jh(F:a8 X.prog X.w X.K X.mg X.base CX k f fd ps sp)(hr:cK k X.A)(hg:Gl X x)(hm:X.mg x=some (.ref f))(hk:W.keepIn X.K (.ref f)=true)(hb:Binds X.K fd ps ds)(hd:Vals dvs ds)(hx:Passes CX X E)
  (ha:PA X (e::es) t) (hdb:(x ==("__debug__":Str))=false:=by decide) (he:SN (e::es) X.env =(false,eval e X.env)::SN es X.env:=by rfl) (hpl:(backTo pos (SN es X.env)).any (·.1)=false:=by rfl) :
  PE X (.Call (.Name x p) (e::es) [] pos) (gZ sp dvs E t):=by
 intro gV s σ H Q I h;refine Ul (zN I hg hm ?_ hdb);refine W.callWith_K (h₀:=X.base) I.ok.mod.kin hk (thn (ha pos gV s σ H _ I h) fun us s1 ⟨vs,H1,I1,r,q⟩=>⟨I1.kIn,?_⟩) he hpl
 exact KL F hr hb hd hx I1 r q
structure Mk(K:W.Frag)(C f:Addr):Prop where
 makes:W.makesIn K C=true
 init:W.findIn K (.ref C) "__init__" = some (some (.ref f))
 fn:W.isFn K (.ref f)=true
 kp:W.keepIn K (.ref C)=true
theorem C3{σ:St}{s:Shared}{Q:VK}{vs:List V}(M:Mk X.K C f)(F:a8 X.prog X.w X.K X.mg X.base CX k f fd ps sp)(hr:cK (k+1) X.A)(hb:Binds X.K fd ps ds)(hd:Vals dvs ds)
  (hx:Passes CX X E) (I:Inv X gV σ H s) (r:Vals vs us)
  (h:∀ x dx,H x=none->H dx=none->dx≠x->sp (.ref x ::(vs++dvs)) (upd (upd H dx (.own x)) x (.ins C dx [])) (fun v H2=>v = .non/\Q (.ref x) H2) E) :
  wpAny (model X.prog X.w) X.A (call (.ref C) us) (EP X gV σ Q) X.xe s:=by
 have hq:=h (s.heap.objs.size+1) s.heap.objs.size (I.hok.fresh (Vi _)) (I.hok.fresh (S3 _)) (Tf (UC _));have I2:=Inv.made (C:=C) I;have r2:Vals (V.ref (s.heap.objs.size+1) ::(vs++dvs)) (Value.ref (s.heap.objs.size+1) ::(us++ds)):=.cons rfl (r.append hd);have hl:(Value.ref (s.heap.objs.size+1)::us++ds).length=ps.length:=by
  have e:=r2.length;rw[F.len _ _ _ _ hq]at e;exact e.symm
 refine wpAny_call (EB (f:=f) I.kIn M.makes M.init (beq_iff_eq.mp M.fn) (codeAny_mono (F.run _ X.stack _ _ ⟨Value.ref (s.heap.objs.size+1)::us,[]⟩ (Value.ref (s.heap.objs.size+1) ::(us++ds)) _ _ E (hr.make C us [])
  (I2.O6.make C us []) (hb _ (Value.ref (s.heap.objs.size+1)::us) I2.kIn hl) r2 hq) fun r s' hq'=>?_))
 cases r with
 | error e=>exact hx gV σ _ _ e s' I2 hq'
 | ok fl =>
  cases fl with
  | ret u =>
   obtain⟨v,H',I3,rv,ev,q3⟩:=I2.after hq';subst ev;exact⟨rv,⟨V.ref (s.heap.objs.size+1),H',I3,rfl,q3⟩⟩
  | next=>exact False.elim hq'
  | brk=>exact False.elim hq'
  | cont=>exact False.elim hq'
end
structure aH(N P:List Str)(sc:Scope):Prop where
 kind:sc.kind = .function
 co:sc.isCoroutine=false
 gen:sc.isGenerator=false
 nd:N.Nodup
 pre:N.take P.length=P
 par:∀ x∈P,sc.names.lookup x=some .local\/sc.names.lookup x=some .cell
 LM:∀ y∈sc.names,y.2 ≠ .free
theorem rN{kindOf:Str->Option NameKind}{x:Str}:∀{binds:List (Str×Value)}{m:Str->Option Value},(∀ v,(x,v) ∉ binds)->bindL kindOf binds m x=m x
 | [],_,_=>rfl
 | (n,v)::r,m,h=>by
  unfold bindL;rw[rN fun w hw=>h w (SK _ hw)]
  split
  ·have:x≠n:=by rintro rfl;exact h v SG
   simp[this]
  ·rfl
theorem rP{kindOf:Str->Option NameKind}{x:Str}:∀{binds:List (Str×Value)}{m:Str->Option Value},(∀ v,(x,v) ∉ binds)->bindC kindOf binds m x=m x
 | [],_,_=>rfl
 | (n,v)::r,m,h=>by
  unfold bindC;rw[rP fun w hw=>h w (SK _ hw)]
  split
  ·rfl
  ·have:x≠n:=by rintro rfl;exact h v SG
   simp[this]
theorem rO{kindOf:Str->Option NameKind}{x:Str}{v:Value}:∀{P:List Str}{vs:List Value}{i:Nat}{m:Str->Option Value},P.Nodup->P[i]? = some x->vs[i]? = some v->kindOf x=some .local ->
  bindL kindOf (P.zip vs) m x=some v
 | [],_,_,_,_,h,_,_=>by simp at h
 | _::_,[],_,_,_,_,h,_=>by simp at h
 | p::P,w::vs,0,m,nd,h1,h2,hk=>by
  simp at h1 h2;subst h1;subst h2;show bindL kindOf ((p,w)::P.zip vs) m p=_;unfold bindL;rw[rN fun v hv=>(TB.mp nd).1 (U4 hv).1,if_pos hk]
  simp
 | p::P,w::vs,i+1,m,nd,h1,h2,hk=>by
  show bindL kindOf ((p,w)::P.zip vs) m x=_;unfold bindL;exact rO (i:=i) (TB.mp nd).2 (by simpa using h1) (by simpa using h2) hk
theorem rQ{kindOf:Str->Option NameKind}{x:Str}{v:Value}:∀{P:List Str}{vs:List Value}{i:Nat}{m:Str->Option Value},P.Nodup->P[i]? = some x->vs[i]? = some v->kindOf x≠some .local ->
  bindC kindOf (P.zip vs) m x=some v
 | [],_,_,_,_,h,_,_=>by simp at h
 | _::_,[],_,_,_,_,h,_=>by simp at h
 | p::P,w::vs,0,m,nd,h1,h2,hk=>by
  simp at h1 h2;subst h1;subst h2;show bindC kindOf ((p,w)::P.zip vs) m p=_;unfold bindC;rw[rP fun v hv=>(TB.mp nd).1 (U4 hv).1,if_neg hk]
  simp
 | p::P,w::vs,i+1,m,nd,h1,h2,hk=>by
  show bindC kindOf ((p,w)::P.zip vs) m x=_;unfold bindC;exact rQ (i:=i) (TB.mp nd).2 (by simpa using h1) (by simpa using h2) hk
def start(N:List Str)(vs:List V):St:=vs.map some++TJ (N.length - vs.length) none
def qL(CX:CXT)(P:Program)(w:World)(K:W.Frag)(mg:Str->Option Value)(base:Heap)(N:List Str)(qual:Str)(scope:Scope)(f:Addr)(cd:Value)(A:Around)(outer:List Env)(s:Shared)(H:Hp)(E:XK):Cx where
 prog:=P
 w:=w
 K:=K
 mg:=mg
 base:=base
 A:=A.deeper (envOfC qual scope s.heap.objs.size f cd)
 N:=N
 s₀:=s
 H₀:=H
 env:=envOfC qual scope s.heap.objs.size f cd
 outer:=outer
 stack:=envOfC qual scope s.heap.objs.size f cd::outer
 ex:=[]
 calm:=true
 fn:=fun _=>true
 pn:=[]
 xe:=fun e s'=>wpAny (model P w) (A.deeper (envOfC qual scope s.heap.objs.size f cd)) (leaving (envOfC qual scope s.heap.objs.size f cd) e) (fun _ s''=>CX outer H s E e s'') (fun e' s''=>CX outer H s E e' s'') s'
variable{sc:Scope}
theorem wA(h:sc.names.lookup x=some .cell):∃ c,(cellsFrom n sc.names []).lookup x=some c:=by
 have q:=W.cellsFrom_some sc.names n [] (.inl h);exact Option.isSome_iff_exists.mp q
variable{qual:Str}{scope:Scope}
theorem BJ{w:World}{K:W.Frag}{f:Addr}{cd:Value}{outer:List Env}{s s1:Shared}{E:XK}{vs:List V}
  (S:aH N ps scope) (hd:A.handled=none) (e0:yS P w K mg base A outer s H) (hl:vs.length=ps.length) (r:Vals vs us)
  (x:InCallC s s.heap.objs.size (bindL (envOfC qual scope s.heap.objs.size f cd).kindOf (ps.zip us) fun _=>none) (cellsFrom (s.heap.objs.size+1) scope.names []) (bindC (envOfC qual scope s.heap.objs.size f cd).kindOf (ps.zip us) fun _=>none) s1) :
  Inv (qL CX P w K mg base N qual scope f cd A outer s H E) [] (start N vs) H s1:=by
 have hpl:ps.length<=N.length:=by have:=congrArg UB S.pre;rw[Ti]at this;omega
 obtain⟨h1,tk,rfl,hk⟩:=x.done;have noA:∀ b:Addr,b ∉ (qL CX P w K mg base N qual scope f cd A outer s H E).ex:=fun b z=>absurd (show b∈([]:List Addr)from z) (by simp)
 refine⟨⟨e0.mod,S.kind,rfl,rfl,S3 _,fun y z c h1 h2=>?_,fun y hy=>?_,fun y c _ h=>?_,fun _=>hd,Around.frames_deeper e0.frames,.inr ⟨rfl,rfl⟩,fun b z=>absurd z (noA b),e0.bs,e0.bsz,fun b _ _=>noA b,fun b z=>absurd z (noA b),e0.ni,e0.frf⟩,
  rfl,e0.bare,Un.kept hk,⟨_,x.toInCall.ns,fun i y v h1 h2 h3=>?_⟩,fun y c h=>⟨_,x.cell y c h⟩,e0.hok.fresh (S3 _),fun y c h=>?_,fun p hp=>absurd (show p∈([]:List (Addr×Obj))from hp) (by simp),e0.hok.kept hk,?_⟩
 ·exact name_of_addr x.apart (PySem.mem_of_lookup h1) (PySem.mem_of_lookup h2)
 ·have hy:scope.names.lookup y=some .cell\/scope.names.lookup y=some .free:=hy;rcases hy with hy|hy
  ·exact wA hy
  ·exact absurd rfl (S.LM _ (PySem.mem_of_lookup hy))
 ·exact Tr (x.above y c (PySem.mem_of_lookup h))
 ·have hi:i<vs.length:=by
   unfold start at h2;by_cases hi:i<vs.length
   ·exact hi
   ·rw[Ub (by simpa using hi)]at h2
    rw[U7]at h2
    split at h2 <;> cases h2
  have ha:vs[i]? = some v:=by
   unfold start at h2;rw[TC (by simpa using hi),L7]at h2
   cases e:vs[i]? with
   | none=>rw[e]at h2;cases h2
   | some a=>rw[e]at h2;cases h2;rfl
  obtain⟨u,hu,rv⟩:=r.get ha;have hp:ps[i]? = some y:=by
   rw[<- S.pre,VB (by omega)];exact h1
  have ndP:ps.Nodup:=by rw[<- S.pre];exact S.nd.sublist (UO _ _)
  refine⟨u,rv,?_⟩;rcases S.par y (RB hp)with k|k
  ·exact .inl ⟨k,rO ndP hp hu k⟩
  ·obtain⟨c,e⟩:=wA (n:=s.heap.objs.size+1) k;refine .inr ⟨.inl k,c,e,?_⟩;have q:=x.cell y c e;rw[rQ ndP hp hu (by show scope.names.lookup y≠_;rw[k];decide)]at q
   exact q
 ·exact e0.hok.fresh (Tr (x.above y c (PySem.mem_of_lookup h)))
 ·unfold start;show _=N.length;rw[RM,j3,List.length_replicate];omega
variable{name:Str}{pm:Value}{ct:Value}{oc:Value}{an:Option Addr}{od:Option Addr}
theorem O5{w:World}{K:W.Frag}{k:Nat}{f:Addr}{params:Arguments}{dV kV doc cdv:Value}
  {osl:Array (Option Value)} {N ps:List Str} {sp:Sp} (lk:K.lookup f=some ⟨oc,od,.func (W.fnOf name qual params body scope dV kV doc pm an cdv ct),osl⟩) (hcd:W.codeIn K cdv qual=true) (S:aH N ps scope)
  (len:∀ vs H Q E,sp vs H Q E->vs.length=ps.length)
  (k7:∀(A:Around)(outer:List Env)(s:Shared)(H:Hp)(vs:List V)(Q:VK)(E:XK),cK k (A.deeper (envOfC qual scope s.heap.objs.size f cdv))->sp vs H Q E ->
   ∃ t,PSs (qL CX P w K mg base N qual scope f cdv A outer s H E) body t/\t { nx:=fun _ H'=>Q .non H',rt:=Q } (start N vs) H) :
  a8 P w K mg base CX (k+1) f (W.fnOf name qual params body scope dV kV doc pm an cdv ct) ps sp:=by
 refine⟨len,fun A outer s H args us vs Q E hr e0 hb r hsp=>?_⟩
 have hl:=len _ _ _ _ hsp;have KX:K.In s.heap:=e0.mod.kin.keeps fun b o e=>(e0.bs b o e).1
 have lim:s.heap.NoLimit:=e0.mod.nolimit.keeps fun b o e=>(e0.bs b o e).1
 have gn:∀ y∈ps.zip us,scope.names.lookup y.1=some .local\/(scope.names.lookup y.1=some .cell/\((cellsFrom (s.heap.objs.size+1) scope.names []).lookup y.1).isSome=true):=fun⟨n,v⟩ hy=>by
  rcases S.par n (U4 hy).1 with q|q
  ·exact .inl q
  ·exact .inr ⟨q,W.cellsFrom_some _ _ _ (.inl q)⟩
 refine codeAny_call_function hr.depth (KX _ _ lk) rfl S.co S.gen rfl (W.codeRec_of KX hcd) (hb _ _ _ _ ?_);refine wpAny_newFunctionEnv_cells S.kind gn fun env he s1 x=>?_
 subst he;refine⟨lim.keeps x.toInCall.keep,codeAny_func ?_⟩;obtain⟨t,ht,hq⟩:=k7 A outer s H vs Q E (hr.deeper _) hsp;have I:Inv (qL CX P w K mg base N qual scope f cdv A outer s H E) [] (start N vs) H s1:=BJ S hr.hd e0 hl r x;refine Uk (ht [] s1 (start N vs) H _ I hq) (fun fl s' hs=>?_) fun e s' hs=>hs
 have fin:∀{σ':St}{H':Hp}{v:V}{u:Value},Inv (qL CX P w K mg base N qual scope f cdv A outer s H E) [] σ' H' s'->RelV v u->Q v H'->CE outer P w H s Q u s' :=
  fun{σ' H' v u} J rv q=>⟨v,H',J.os,J.bare,J.base,J.hok,rv,q⟩
 cases fl with
 | ret u =>
  obtain⟨v,σ',H',J,rv,q⟩:=hs;exact fin J rv q
 | next =>
  obtain⟨σ',H',J,q⟩:=hs;exact fin (v:=V.non) (u:=Value.none) J rfl q
 | brk =>
  obtain⟨_,_,_,q⟩:=hs;exact False.elim q
 | cont =>
  obtain⟨_,_,_,q⟩:=hs;exact False.elim q
section
variable{p pos:Pos}{t:TA}{id T:String}{r:List V->Hp->VK->Prop}
def tCB(r:List V->Hp->VK->Prop)(t:TA):TE:=fun σ H Q=>t σ H fun vs H1=>r vs H1 Q
theorem oI(hc:cI X (.builtin id) r)(hg:Gl X x)(hm:X.mg x=none)(hv:bootBuiltins x=some (.builtin id))(ha:PA X (e::es) t)(hn:x ≠ "__name__":=by decide)(hdb:(x ==("__debug__":Str))=false:=by decide)
  (he:SN (e::es) X.env =(false,eval e X.env)::SN es X.env:=by rfl) (hpl:(backTo pos (SN es X.env)).any (·.1)=false:=by rfl):PE X (.Call (.Name x p) (e::es) [] pos) (tCB r t):=by
 intro gV s σ H Q I h;refine Ul (dY I hg hm hv ?_ hn hdb);exact PyProof.Rows.callWith_builtin1 (thn (ha pos gV s σ H _ I h) fun us s1 ⟨vs,H1,I1,r1,q1⟩=>hc gV s1 σ H1 vs us Q I1 r1 q1) he hpl
theorem Bi(hc:cI X (.type T) r)(hg:Gl X x)(hm:X.mg x=none)(hv:bootBuiltins x=some (.type T))(ha:PA X (e::es) t)(hn:x ≠ "__name__":=by decide)(hdb:(x ==("__debug__":Str))=false:=by decide)
  (he:SN (e::es) X.env =(false,eval e X.env)::SN es X.env:=by rfl) (hpl:(backTo pos (SN es X.env)).any (·.1)=false:=by rfl):PE X (.Call (.Name x p) (e::es) [] pos) (tCB r t):=by
 intro gV s σ H Q I h;refine Ul (dY I hg hm hv ?_ hn hdb);exact PyProof.Rows.callWith_type1 (thn (ha pos gV s σ H _ I h) fun us s1 ⟨vs,H1,I1,r1,q1⟩=>hc gV s1 σ H1 vs us Q I1 r1 q1) he hpl
end
end L2
namespace HT
open PySem PyProof.Rows
section
variable{prog:Program}{w:World}{A:Around}{E:Value->Shared->Prop}{s:Shared}
theorem Jm{t b:Addr}{vs ws:List Value}{Q:Value->Shared->Prop}(ht:IsTup s.heap t vs.toArray)(hb:IsTup s.heap b ws.toArray)(hv:vs ≠ [])
  (h1:ws = []->Q (.ref t) s) (h2:ws ≠ []->Q (.ref s.heap.objs.size) { s with heap:=s.heap.push { cls:=.type "tuple",data:=.seq (vs++ws).toArray } })
  (hsz:vs.length+ws.length<=S4):wpAny (model prog w) A (binaryOp .Add (.ref t) (.ref b)) Q E s:=by
 obtain⟨⟨cls,dd,data,sl⟩,ho,hc,n,hd⟩:=id ht;obtain⟨⟨Sm,dd2,data2,sl2⟩,ho2,hc2,n2,hd2⟩:=id hb;simp only at hc hd hc2 hd2;subst hc hd hc2 hd2;have e:vs.toArray++ws.toArray =(vs++ws).toArray:=by simp
 by_cases hw:ws = []
 ·exact concat_meets ⟨_,ho,rfl⟩ ⟨_,ho2,rfl⟩ noFill_tuple_add seq_tuple_add PySem.F.slot_tuple_add PySem.F.entry_tuple_add (PySem.F.args_tuple_add_2 _ _)
   (tuple_addW1 t b vs.toArray ws.toArray n n2 dd dd2 sl sl2 (by simpa using hv) (by simp[hw])) ⟨ho,ho2,h1 hw⟩
 ·refine concat_meets ⟨_,ho,rfl⟩ ⟨_,ho2,rfl⟩ noFill_tuple_add seq_tuple_add PySem.F.slot_tuple_add PySem.F.entry_tuple_add (PySem.F.args_tuple_add_2 _ _)
   (tuple_addW2 t b vs.toArray ws.toArray n n2 dd dd2 sl sl2 (by simpa using hv) (by simpa using hw) (by rw[S7,S7];exact hsz)) ⟨ho,ho2,?_⟩
  rw[e];exact h2 hw
def sIx(n d:Nat):Option Int->Nat
 | none=>d
 | some v=>if v<0 then(v+(n:Int)).toNat else min v.toNat n
theorem C1(n d:Nat):sIx n d none=d:=rfl
theorem G0(n d k:Nat):sIx n d (some (k:Int))=min k n:=by
 show(if(k:Int)<0 then((k:Int)+(n:Int)).toNat else min (k:Int).toNat n)=min k n
 rw[if_neg (by omega),UP]
theorem KJ(n d:Nat)(hd:d<=n)(o:Option Int):sIx n d o<=n:=by
 cases o with
 | none=>exact hd
 | some v =>
  show(if v<0 then(v+(n:Int)).toNat else min v.toNat n)<=n
  by_cases hv:v<0
  ·rw[if_pos hv];omega
  ·rw[if_neg hv];exact Vc _ _
theorem Pt(a:Int)(n:Nat)(h0:0<=a):min a (n:Int) =((min a.toNat n:Nat):Int):=by
 by_cases h:a<=n
 ·rw[Int.min_eq_left h,Uq (V9.mpr h),Up h0]
 ·have h':=Int.le_of_lt (Int.not_le.mp h);rw[Int.min_eq_right h',Nat.min_eq_right ((Int.le_toNat h0).mpr h')]
theorem CF(n:Nat)(i:Int)(h:i<0):max 0 (min (i+(n:Int)) n) =((i+n).toNat:Int):=by
 rw[Int.min_eq_left (Int.add_le_of_le_sub_right (by rw[Int.sub_self];exact Int.le_of_lt h)),Int.max_comm,Int.ofNat_toNat]
theorem CD(n:Nat)(i:Int)(h:¬ i<0):max 0 (min i (n:Int)) =((min i.toNat n:Nat):Int):=by
 rw[Pt i n (Int.not_lt.mp h),Int.max_eq_right (V1 _)]
theorem Ah(v:Int)(n d:Nat):(if v<0 then max (v+(n:Int)) 0 else min v (n:Int)) =((sIx n d (some v):Nat):Int):=by
 show(if v<0 then max (v+(n:Int)) 0 else min v (n:Int)) =(((if v<0 then(v+(n:Int)).toNat else min v.toNat n):Nat):Int)
 by_cases hv:v<0
 ·rw[if_pos hv,if_pos hv];exact(Int.ofNat_toNat _).symm
 ·rw[if_neg hv,if_neg hv];exact Pt v n (Int.not_lt.mp hv)
theorem yG(lo hi:Option Int)(n:Nat):Builtin.Slice.sliceAdjust lo hi 1 (n:Int) =(((sIx n 0 lo:Nat):Int),((sIx n n hi:Nat):Int)):=by
 have h1:¬((1:Int)<0):=by omega
 unfold Builtin.Slice.sliceAdjust;simp only[h1,if_false];refine Prod.ext ?_ ?_
 ·cases lo with
  | none=>rfl
  | some v=>exact Ah v n 0
 ·cases hi with
  | none=>rfl
  | some v=>exact Ah v n n
theorem xF(i j:Nat):Builtin.Slice.slicePlaces (i:Int) (j:Int) 1=j - i:=by
 unfold Builtin.Slice.slicePlaces;have h1:(1:Int) > 0:=by omega
 simp only[h1,if_true,Int.ediv_one]
 split <;> omega
theorem n6{v:Value}{o:Option Int}{Q:Option Int->Shared->Prop}(p:IsPart v o)(h:Q o s):wpAny (model prog w) A (Builtin.Slice.slicePartIndex v) Q E s:=by
 cases p with
 | none=>exact slicePart_none h
 | int i t=>exact slicePart_int h
theorem f9{sl:Addr}{vl vu:Value}{lo hi:Option Int}{n:Nat}{Q:Int×Int×Nat->Shared->Prop}(hs:s.heap.IsSliceOf sl vl vu .none)(pl:IsPart vl lo)(pu:IsPart vu hi)
  (h:Q (((sIx n 0 lo:Nat):Int),1,sIx n n hi - sIx n 0 lo) s):wpAny (model prog w) A (Builtin.Slice.sliceApplied (.ref sl) (pure (n:Int))) Q E s:=by
 obtain⟨os,hos,hcs,hds⟩:=id hs;unfold Builtin.Slice.sliceApplied Builtin.Slice.sliceFields;refine j0 (j0 (wpAny_field hos hds (x:=vl) rfl (j0 (wpAny_field hos hds (x:=vu) rfl (j0 (wpAny_field hos hds (x:=.none) rfl (M7 ?_)))))));refine j0 (slicePart_none ?_);show wpAny _ _ (if((1:Int)==0)=true then _ else _) _ _ s
 rw[if_neg (by decide)]
 refine j0 (n6 pl (j0 (n6 pu (j0 (M7 ?_)))));show wpAny _ _ (match Builtin.Slice.sliceAdjust lo hi 1 (n:Int)with |(lo,hi)=>pure (lo,(1:Int),Builtin.Slice.slicePlaces lo hi 1)) _ _ s
 rw[yG lo hi n];show wpAny _ _ (pure (((sIx n 0 lo:Nat):Int),(1:Int),Builtin.Slice.slicePlaces ((sIx n 0 lo:Nat):Int) ((sIx n n hi:Nat):Int) 1)) _ _ s;rw[xF];exact M7 h
theorem D4(xs:Array Value)(i k:Nat):((TR k).filterMap fun(m:Nat)=>xs[((i:Int)+(m:Int)*1).toNat]?).toArray =((xs.toList.drop i).take k).toArray:=by
 have e:(fun(m:Nat)=>xs[((i:Int)+(m:Int)*1).toNat]?)=fun m=>xs[i+m]?:=by
  funext m
  have:((i:Int)+(m:Int)*1).toNat=i+m:=by omega
  rw[this]
 rw[e]
 have:=pick_run xs i k
 rw[List.filterMap_map]at this;have e2:((fun x=>xs[x]?) ∘ fun x=>i+x)=fun m=>xs[i+m]?:=rfl
 rw[e2]at this;rw[this]
theorem k8{t sl:Addr}{items:Array Value}{vl vu:Value}{lo hi:Option Int}{Q:Value->Shared->Prop}(ht:IsTup s.heap t items)(hs:s.heap.IsSliceOf sl vl vu .none)(pl:IsPart vl lo)(pu:IsPart vu hi)
  (hw:¬(sIx items.size 0 lo=0/\sIx items.size items.size hi=items.size))
  (h:Q (.ref s.heap.objs.size) { s with heap:=s.heap.push { cls:=.type "tuple",data:=.seq ((items.toList.drop (sIx items.size 0 lo)).take (sIx items.size items.size hi - sIx items.size 0 lo)).toArray } })
  (hsz:items.size<=S4):wpAny (model prog w) A (getItem (.ref t) (.ref sl)) Q E s:=by
 have zV:sizeOk (.seq ((items.toList.drop (sIx items.size 0 lo)).take (sIx items.size items.size hi - sIx items.size 0 lo)).toArray):=by
  show((items.toList.drop (sIx items.size 0 lo)).take (sIx items.size items.size hi - sIx items.size 0 lo)).toArray.size<=S4;rw[S7,Ti,UD,Ug];exact Tn (Tn (Vc _ _) (Wn _ _)) hsz
 have hj:sIx items.size items.size hi<=items.size:=KJ _ _ (S3 _) hi;obtain⟨os,hos,hcs,hds⟩:=id hs;have hTs:s.TypeIs (.ref sl) "slice":=⟨os,hos,hcs⟩;unfold getItem
 try with_reducible refine TY ?_
 first|refine j0 (M7 ?_)|skip
 refine j0 (wpAny_sequenceKey ht.typeIs (by decide) ?_)
 refine j0 (wpAny_callSpecial?_slot (name:=Str.ofString "__getitem__") ht.typeIs PyProof.Rows.slot_tuple_getitem
  (TL PyProof.Rows.slot_tuple_getitem ht.typeIs entry_tuple_getitem ?_ (args_tuple_getitem _ _)))
 show wpAny _ _ (Builtin.Tuple.tupleItemsOf (.ref t) >>= _) _ _ s;refine j0 (tupleItemsOf_ ht ?_);refine j0 (Uo hTs ?_);rw[if_pos (by decide)]
 refine j0 (f9 hs pl pu ?_);have hno:¬((((sIx items.size 0 lo:Nat):Int)==0&&(1:Int)==1&&(sIx items.size items.size hi - sIx items.size 0 lo)==items.size)=true):=by
  intro q;rw[To,To]at q;have q1:((sIx items.size 0 lo:Nat):Int)=0:=eq_of_beq q.1.1;have q2:sIx items.size items.size hi - sIx items.size 0 lo=items.size:=eq_of_beq q.2;exact hw ⟨by omega,by omega⟩
 show wpAny _ _ (if(((sIx items.size 0 lo:Nat):Int)==0&&(1:Int)==1&&(sIx items.size items.size hi - sIx items.size 0 lo)==items.size)=true then _ else _) _ _ s
 rw[if_neg hno,D4]
 first
  | exact j0 (m:=Builtin.Tuple.tupleExact _) (TK (M7 ⟨_,rfl,M7 h⟩) zV)
  | exact j0 (m:=Builtin.Tuple.tupleExact _) (TK (j0 (M7 (M7 ⟨_,rfl,M7 h⟩))) zV)
  | exact j0 (j0 (m:=Builtin.Tuple.tupleExact _) (TK (M7 (M7 ⟨_,rfl,M7 h⟩)) zV))
  | exact j0 (j0 (m:=Builtin.Tuple.tupleExact _) (TK (M7 ⟨_,rfl,M7 h⟩) zV))
end
end HT
namespace L2
open PySem PySem.Spec PyProof.Rows
abbrev TO:=St->Hp ->(Option Int->Hp->Prop)->Prop
def PO(X:Cx)(e:Option Expr)(t:TO):Prop :=
 ∀(gV:List (Addr×Obj))(s:Shared)(σ:St)(H:Hp)(Q:Option Int->Hp->Prop),Inv X gV σ H s->t σ H Q ->
  wpAny (model X.prog X.w) X.A (evalPart e X.env) (fun u s'=>∃ o H',Inv X gV σ H' s'/\IsPart u o/\Q o H') X.xe s
def y4:TO:=fun _ H Q=>Q none H
def JB(t:TE):TO:=fun σ H Q=>t σ H fun x H1=>∃ i,x = .int i/\Q (some i) H1
variable{us:List Value}
section
variable{X:Cx}{e:Expr}{te:TE}{lo hi:Option Expr}{tl th:TO}{pos p2:Pos}
theorem HB:PO X none y4:=by
 intro gV s σ H Q I h;rw[evalPart_none];exact M7 ⟨none,H,I,.none,h⟩
theorem sT(h:PE X e te):PO X (some e) (JB te):=by
 intro gV s σ H Q I hw;rw[evalPart_some];refine thn (h gV s σ H _ I hw) fun u s1 hPP=>?_
 obtain⟨x,H1,I1,r1,q1⟩:=hPP;obtain⟨i,rfl,q⟩:=q1;obtain⟨t,rfl⟩:=r1;exact⟨some i,H1,I1,.int i t,q⟩
def SlR(X:Cx)(r:V->Option Int->Option Int->Hp->VK->Prop):Prop :=
 ∀(gV:List (Addr×Obj))(s:Shared)(σ:St)(H:Hp)(x:V)(v vl vu:Value)(lo hi:Option Int)(sl:Addr)(Q:VK),Inv X gV σ H s->RelV x v->s.heap.IsSliceOf sl vl vu .none->IsPart vl lo->IsPart vu hi->r x lo hi H Q ->
  ∃ T id,typeLookup (.type T) "__getitem__" = pure (some (.builtin id))/\s.TypeIs v T/\wpAny (model X.prog X.w) X.A (getItem v (.ref sl)) (EP X gV σ Q) X.xe s
theorem SlR.or{r r':V->Option Int->Option Int->Hp->VK->Prop}(h:SlR X r)(h':SlR X r'):SlR X (fun x lo hi H Q=>r x lo hi H Q\/r' x lo hi H Q):=by
 intro gV s σ H x v vl vu lo hi sl Q I rx hs pl pu q;rcases q with q|q
 ·exact h gV s σ H x v vl vu lo hi sl Q I rx hs pl pu q
 ·exact h' gV s σ H x v vl vu lo hi sl Q I rx hs pl pu q
def tSl(r:V->Option Int->Option Int->Hp->VK->Prop)(te:TE)(tl th:TO):TE:=fun σ H Q=>te σ H fun x H1=>tl σ H1 fun l H2=>th σ H2 fun u H3=>r x l u H3 Q
theorem vL{r:V->Option Int->Option Int->Hp->VK->Prop}(hr:SlR X r)(he:PE X e te)(hl:PO X lo tl)(hu:PO X hi th):PE X (.Subscript e (.Slice lo hi none p2) pos) (tSl r te tl th):=by
 intro gV s σ H Q I h;refine Subscript_ (thn (he gV s σ H _ I h) fun v s1 hPP=>?_)
 obtain⟨x,H1,I1,r1,q1⟩:=hPP;refine wpAny_Slice (thn (hl gV s1 σ H1 _ I1 q1) fun vl s2 ⟨l,H2,I2,pl,q2⟩=>thn (hu gV s2 σ H2 _ I2 q2) fun vu s3 hPP=>?_)
 obtain⟨u,H3,I3,pu,q3⟩:=hPP;rw[evalPart_none];refine M7 ?_;have I4:Inv X gV σ H3 { s3 with heap:=s3.heap.push { cls:=.type "slice",data:=.fields #[vl,vu,.none] } }:=I3.kept (t':=s3.toks) fun b ob q=>j5 _ q
 obtain⟨T,id,hT,ht,hg⟩:=hr gV { s3 with heap:=s3.heap.push { cls:=.type "slice",data:=.fields #[vl,vu,.none] } } σ H3 x v vl vu l u s3.heap.objs.size Q I4 r1 (Heap.IsSliceOf.new ..) pl pu q3
 show wpAny (model X.prog X.w) X.A (subscriptTail e (.Slice lo hi none p2) v (.ref s3.heap.objs.size)) (EP X gV σ Q) X.xe { s3 with heap:=s3.heap.push { cls:=.type "slice",data:=.fields #[vl,vu,.none] } }
 exact tail_any (ops:=[.ref s3.heap.objs.size,v]) ht hT hg (by with_unfolding_all rfl)
def jy(xs:List V)(lo hi:Option Int):List V:=(xs.drop (HT.sIx xs.length 0 lo)).take (HT.sIx xs.length xs.length hi - HT.sIx xs.length 0 lo)
theorem mZ(xs:List V)(lo hi:Option Int):(jy xs lo hi).length<=xs.length:=by
 unfold jy;rw[Ti,UD];exact Tn (Vc _ _) (Wn _ _)
def Ro(K:W.Frag):V->Option Int->Option Int->Hp->VK->Prop:=fun x lo hi H Q=>∃ a xs,x = .ref a/\SqT K H a xs /\
 ¬(HT.sIx xs.length 0 lo=0/\HT.sIx xs.length xs.length hi=xs.length)/\∀ p,H p=none->Q (.ref p) (upd H p (.tup (jy xs lo hi)))
theorem Ky:SlR X (Ro X.K):=by
 intro gV s σ H x v vl vu lo hi sl Q I rx hs pl pu h;obtain⟨a,xs,rfl,hx,hw,q⟩:=h;cases rx;obtain⟨its,r,ht,hz⟩:=I.tuple hx;have hlen:its.toArray.size=xs.length:=by rw[S7];exact r.length.symm
 refine⟨"tuple",_,PyProof.Rows.slot_tuple_getitem.lookup,ht.typeIs,?_⟩;refine HT.k8 ht hs pl pu (by rw[hlen];exact hw) ?_ (by rw[hlen];exact hz)
 rw[hlen];refine⟨.ref s.heap.objs.size,_,I.laid (t':=s.toks) (o:=.tup (jy xs lo hi)) (fun b ob q=>j5 _ q) (S3 _) ?_,rfl,q _ (I.hok.fresh (S3 _))⟩
 exact⟨Tn (mZ xs lo hi) hz,_,(r.drop (HT.sIx xs.length 0 lo)).take (HT.sIx xs.length xs.length hi - HT.sIx xs.length 0 lo),kr.new _ _⟩
def Nu(K:W.Frag):R2:=fun x y H Q=>∃ a b xs ys,x = .ref a/\y = .ref b/\SqT K H a xs/\SqT K H b ys/\xs ≠ []/\xs.length+ys.length<=S4 /\
 (ys = []->Q (.ref a) H)/\(ys ≠ []->∀ p,H p=none->Q (.ref p) (upd H p (.tup (xs++ys))))
theorem Vals.gP{xs:List V}(r:Vals xs us):us = [] ↔ xs = []:=by
 cases r with
 | nil=>simp
 | cons _ _=>simp
theorem HR:OpR X (binaryOp .Add) (Nu X.K):=by
 intro gV s σ H x y v u Q I rx ry h;obtain⟨a,b,xs,ys,rfl,rfl,ha,hb,hx,hz,q1,q2⟩:=h;cases rx;cases ry;obtain⟨its,r1,p1,_⟩:=I.tuple ha;obtain⟨bJ,r2,p2,_⟩:=I.tuple hb;refine HT.Jm p1 p2 (fun z=>hx (r1.gP.mp z)) (fun z=>⟨.ref a,H,I,rfl,q1 (r2.gP.mp z)⟩) (fun z=>?_) (by rw[<- r1.length,<- r2.length];exact hz)
 refine⟨.ref s.heap.objs.size,_,I.laid (t':=s.toks) (o:=.tup (xs++ys)) (fun b ob q=>j5 _ q) (S3 _) ?_,rfl,q2 (fun w=>z (r2.gP.mpr w)) _ (I.hok.fresh (S3 _))⟩
 exact⟨by rw[RM];exact hz,_,r1.append r2,kr.new _ _⟩
end
def ixN(n:Nat)(i:Int):Option Nat:=if 0<=i then(if i<n then some i.toNat else none)else if -(n:Int)<=i then some (i+n).toNat else none
def atI{α:Type}(xs:List α)(i:Int):Option α:=(ixN xs.length i).bind fun j=>xs[j]?
variable{n:Nat}{j:Nat}
theorem zQ{i:Int}(h:ixN n i=some j):seqIndex? i n=some j/\j<n /\ -(n:Int)<=i/\i<n:=by
 unfold ixN at h;by_cases h0:0<=i
 ·rw[if_pos h0]at h;by_cases h1:i<n
  ·rw[if_pos h1]at h;have e:i.toNat=j:=Option.some.inj h;exact⟨by rw[seqIndex_of h0 h1,e],by omega,by omega,h1⟩
  ·rw[if_neg h1]at h;cases h
 ·rw[if_neg h0]at h;by_cases h1:-(n:Int)<=i
  ·rw[if_pos h1]at h;have e:(i+n).toNat=j:=Option.some.inj h;exact⟨by rw[seqIndex_neg (by omega) h1,e],by omega,h1,by omega⟩
  ·rw[if_neg h1]at h;cases h
theorem uK{α:Type}{xs:List α}{i:Int}{v:α}(h:atI xs i=some v):∃ j,seqIndex? i xs.length=some j/\xs[j]? = some v/\j<xs.length /\ -(xs.length:Int)<=i/\i<xs.length:=by
 unfold atI at h;cases e:ixN xs.length i with
 | none=>rw[e]at h;cases h
 | some j =>
  rw[e]at h;obtain⟨h1,h2,h3,h4⟩:=zQ e;exact⟨j,h1,h,h2,h3,h4⟩
theorem bX{α:Type}{xs:List α}{v:α}(h:xs[j]? = some v):atI xs (j:Int)=some v:=by
 have hj:j<xs.length:=(QH.mp h).1;have e:ixN xs.length (j:Int)=some j:=by
  unfold ixN;rw[if_pos (by omega),if_pos (by omega)];simp
 unfold atI;rw[e];exact h
theorem FQ{α:Type}(xs:List α)(v:α):atI (xs ++ [v]) (-1)=some v:=by
 have hl:(xs ++ [v]).length=xs.length+1:=by simp
 have e:ixN (xs ++ [v]).length (-1)=some xs.length:=by
  unfold ixN;rw[hl,if_neg (by decide),if_pos (by omega)]
  congr 1
  omega
 unfold atI;rw[e];show(xs ++ [v])[xs.length]? = some v;simp
def lD(b:Expr):Prop:=∀ o i,subscripted b false o i=operate [o,i] (getItem o i)
def IxR(X:Cx)(r:R2):Prop :=
 ∀(value slice:Expr)(gV:List (Addr×Obj))(s:Shared)(σ:St)(H:Hp)(x y:V)(v u:Value)(Q:VK),Inv X gV σ H s->RelV x v->RelV y u->r x y H Q ->
  subscripted slice false v u=operate [v,u] (getItem v u)->wpAny (model X.prog X.w) X.A (subscriptTail value slice v u) (EP X gV σ Q) X.xe s
def MtR(X:Cx)(id:String)(r:V->List V->Hp->VK->Prop):Prop :=
 ∀(gV:List (Addr×Obj))(s:Shared)(σ:St)(H:Hp)(x:V)(xs:List V)(v:Value)(us:List Value)(Q:VK),Inv X gV σ H s->RelV x v->Vals xs us->r x xs H Q ->
  wpAny (model X.prog X.w) X.A (call (.builtin id) (v::us)) (EP X gV σ Q) X.xe s
variable{gV:List (Addr×Obj)}{H:Hp}{its:List Value}{A:Around}{y:V}{u:Value}{r:List V->Hp->VK->Prop}
section
variable{X:Cx}{a b:Expr}{ta tb:TE}{pos:Pos}
theorem IxR.or{r r':R2}(h:IxR X r)(h':IxR X r'):IxR X (fun x y H Q=>r x y H Q\/r' x y H Q):=by
 intro value slice gV s σ H x y v u Q I rx ry q hs;rcases q with q|q
 ·exact h value slice gV s σ H x y v u Q I rx ry q hs
 ·exact h' value slice gV s σ H x y v u Q I rx ry q hs
theorem vN{r:R2}(hr:IxR X r)(ha:PE X a ta)(hb:PE X b tb)(hs:lD b):PE X (.Subscript a b pos) (tOp r ta tb):=by
 intro gV s σ H Q I h;exact Subscript_ (Ms ha hb I h fun v u s2 x y H2 I2 rx ry q=>hr a b gV s2 σ H2 x y v u Q I2 rx ry q (hs _ _))
def Nr(K:W.Frag):R2:=fun x y H Q=>∃ p xs i v,x = .ref p/\y = .int i/\SqL K H p xs/\atI xs i=some v/\Q v H
def Np(K:W.Frag):R2:=fun x y H Q=>∃ p xs i v,x = .ref p/\y = .int i/\SqT K H p xs/\atI xs i=some v/\Q v H
def Nq:R2:=fun x y H Q=>∃ z i c,x = .str z/\y = .int i/\z.length<=S4/\atI z.cps.toList i=some c/\Q (.str ⟨#[c]⟩) H
theorem Iz:IxR X (Nr X.K):=by
 intro value slice gV s σ H x y v u Q I rx ry h hs;obtain⟨p,xs,i,z,rfl,rfl,hq,he,q⟩:=h;cases rx;obtain⟨t,rfl⟩:=ry;obtain⟨its,r,pl,hz⟩:=I.list hq;obtain⟨j,h1,h2,h3,h4,h5⟩:=uK he;obtain⟨w,ew,rw'⟩:=r.get h2;have hl:=r.length;have hn:=gQ;have fin:EP X gV σ Q w s:=⟨z,H,I,rw',q⟩;by_cases h0:0<=i
 ·have hj:i.toNat=j:=by
   rw[seqIndex_of h0 h5]at h1;exact Option.some.inj h1
  exact item_listR pl.isList h0 (by omega) (by rw[hj];simpa using ew) fin hs
 ·have hj:(i+(its.toArray.size:Int)).toNat=j:=by
   rw[seqIndex_neg (by omega) h4]at h1
   rw[S7,<- hl];exact Option.some.inj h1
  exact subscriptTail_builtinR (x:=w) pl.isList.typeIs slot_list_getitem.lookup
   (wpAny_getItem_list_neg (Q:=fun r s'=>r=w/\EP X gV σ Q r s') pl.isList (by omega) (by rw[S7] <;> omega) (by omega) (by rw[hj];simpa using ew) ⟨rfl,fin⟩) hs
theorem L4:IxR X (Np X.K):=by
 intro value slice gV s σ H x y v u Q I rx ry h hs;obtain⟨p,xs,i,z,rfl,rfl,hq,he,q⟩:=h;cases rx;obtain⟨t,rfl⟩:=ry;obtain⟨its,r,pl,hz⟩:=I.tuple hq;obtain⟨j,h1,h2,h3,h4,h5⟩:=uK he;obtain⟨w,ew,rw'⟩:=r.get h2;have hl:=r.length;have hn:=gQ;have fin:EP X gV σ Q w s:=⟨z,H,I,rw',q⟩;exact subscriptTail_builtinR (x:=w) pl.typeIs slot_tuple_getitem.lookup
  (getItem_tuple (j:=j) (Q:=fun r s'=>r=w/\EP X gV σ Q r s') pl (by omega) (by omega) (by rw[S7,<- hl];exact h1) (by simpa using ew) ⟨rfl,fin⟩) hs
theorem L5:IxR X Nq:=by
 intro value slice gV s σ H x y v u Q I rx ry h hs;obtain⟨z,i,c,rfl,rfl,hz,he,q⟩:=h;obtain⟨t,rfl⟩:=rx;obtain⟨t',rfl⟩:=ry;obtain⟨j,h1,h2,h3,h4,h5⟩:=uK he;have hl:z.cps.toList.length=z.length:=by simp[Str.length]
 rw[hl]at h1 h4 h5;have hn:=gQ;exact tail_any (typeIs_str s z t) slot_str_getitem.lookup (getItem_str (c:=c) (by
  have e1:decide (i < -(2 ^ 63:Int))=false:=decide_eq_false (by omega)
  have e2:decide (i ≥ 2 ^ 63)=false:=decide_eq_false (by omega)
  rw[e1,e2,Bool.or_false]) (by rw[h1];simpa using h2) ⟨.str ⟨#[c]⟩,H,I.tok _,⟨_,rfl⟩,q⟩) hs
def rIx(K:W.Frag):R2:=fun x y H Q=>Nr K x y H Q\/Np K x y H Q\/Nq x y H Q
theorem EJ:IxR X (rIx X.K):=Iz.or (L4.or L5)
theorem xR(its:List Value)(n j:Nat)(u:Value):T3 (·.setIfInBounds j u) { cls:=.type "list",data:=.seq its.toArray n } ={ cls:=.type "list",data:=.seq (its.set j u).toArray n }:=by
 simp[T3]
theorem Inv.lst{gV:List (Addr×Obj)}{σ:St}{H:Hp}{s:Shared}{p:Addr}{xs:List V}(I:Inv X gV σ H s)(h:H p=some (.lst xs)) :
  ∃(its:List Value)(n:Nat),Vals xs its/\s.heap.get? p=some { cls:=.type "list",data:=.seq its.toArray n }/\xs.length<=S4:=by
 obtain⟨z,its,n,r,e⟩:=I.hok p _ h;exact⟨its,n,r,e,z⟩
theorem Inv.LQ{σ:St}{s:Shared}{p:Addr}{xs ys:List V}{its':List Value}{n':Nat}{f:Obj->Obj}(I:Inv X gV σ H s)(h:H p=some (.lst xs))
  (ho:s.heap.get? p=some { cls:=.type "list",data:=.seq its.toArray n }) (hf:f { cls:=.type "list",data:=.seq its.toArray n } ={ cls:=.type "list",data:=.seq its'.toArray n' }) (r:Vals ys its') (hz:ys.length<=S4) (t:Nat) :
  Inv X gV σ (upd H p (.lst ys)) { s with heap:=s.heap.update p f,toks:=t }:=by
 have e:(s.heap.update p f).get? p=some { cls:=.type "list",data:=.seq its'.toArray n' }:=by
  rw[Tt f ho (by rw[hf] <;> rfl),hf]
 refine I.write (x:=p) (e:=p) (by rw[h];trivial) (.inl rfl) (fun b u hb q=>(T5 _ _ (Ne.symm hb)).trans q) ⟨_,e⟩ ?_
 exact⟨hz,its',n',r,e⟩
def vz:V->V->V->Hp ->(Hp->Prop)->Prop:=fun o i v H Q=>∃ p xs k j,o = .ref p/\i = .int k/\H p=some (.lst xs)/\ixN xs.length k=some j/\Q (upd H p (.lst (xs.set j v)))
theorem set_list:Mz X vz:=by
 intro gV s σ H o i v ov iv u Q I ro ri rv h;obtain⟨p,xs,k,j,rfl,rfl,hp,hj,q⟩:=h;cases ro;obtain⟨t,rfl⟩:=ri;obtain⟨its,n,r,ho,hz⟩:=I.lst hp;obtain⟨h1,h2,h3,h4⟩:=zQ hj;have hl:=r.length;have hn:=gQ;have I':Inv X gV σ (upd H p (.lst (xs.set j v))) { s with heap:=s.heap.update p (T3 (·.setIfInBounds j u)) } :=
  I.LQ hp ho (xR its n j u) (r.set rv j) (by rw[Ue];exact hz) s.toks
 by_cases h0:0<=k
 ·have hk:k.toNat=j:=by
   rw[seqIndex_of h0 h4]at h1;exact Option.some.inj h1
  exact W.ki_setAt ho h0 (by omega) (by rw[S7,<- hl];exact h4) (by rw[hk];exact⟨_,I',q⟩)
 ·have hk:(k+(its.toArray.size:Int)).toNat=j:=by
   rw[seqIndex_neg (by omega) h3]at h1
   rw[S7,<- hl];exact Option.some.inj h1
  exact W.ki_setBack ho (by omega) (by rw[S7,<- hl];exact h3) (by omega) (by rw[hk];exact⟨_,I',q⟩)
theorem sg(lo hi:Option Int)(n:Nat):(sliceBounds lo hi none n).1 =((HT.sIx n 0 lo:Nat):Int)/\(sliceBounds lo hi none n).2.1 =((HT.sIx n n hi:Nat):Int)/\(sliceBounds lo hi none n).2.2=1:=by
 refine⟨?_,?_,rfl⟩
 ·cases lo with
  | none=>simp[sliceBounds,HT.sIx]
  | some i =>
   simp only[sliceBounds,HT.sIx,Wj,show(1:Int) > 0 by decide,if_true]
   by_cases h:i<0
   ·simp only[h,if_true] <;> first|exact HT.CF _ _ h|omega
   ·simp only[h,if_false] <;> first|exact HT.CD _ _ h|omega
 ·cases hi with
  | none=>simp[sliceBounds,HT.sIx]
  | some i =>
   simp only[sliceBounds,HT.sIx,Wj,show(1:Int) > 0 by decide,if_true]
   by_cases h:i<0
   ·simp only[h,if_true] <;> first|exact HT.CF _ _ h|omega
   ·simp only[h,if_false] <;> first|exact HT.CD _ _ h|omega
theorem qG(its:List Value)(lo hi:Option Int):slicePick its.toArray lo hi none =((its.drop (HT.sIx its.length 0 lo)).take (HT.sIx its.length its.length hi - HT.sIx its.length 0 lo)).toArray:=by
 obtain⟨h1,h2,h3⟩:=sg lo hi its.toArray.size;unfold slicePick;rw[h1,h2,h3];simp only[sliceRange_one,pick_run,S7] <;> rfl
def Nm(K:W.Frag):V->Option Int->Option Int->Hp->VK->Prop:=fun x lo hi H Q=>∃ a xs,x = .ref a/\SqL K H a xs/\∀ p,H p=none->Q (.ref p) (upd H p (.lst (jy xs lo hi)))
theorem za:SlR X (Nm X.K):=by
 intro gV s σ H x v vl vu lo hi sl Q I rx hs pl pu h;obtain⟨a,xs,rfl,hx,q⟩:=h;cases rx;obtain⟨its,r,ht,hz⟩:=I.list hx;have hlen:=r.length;refine⟨"list",_,slot_list_getitem.lookup,ht.isList.typeIs,?_⟩;refine wpAny_getItem_list_slice ht.isList hs pl pu .none (by simp) ?_ (by rw[S7] <;> omega)
 rw[qG,<- hlen];refine⟨.ref s.heap.objs.size,_,I.laid (t':=s.toks) (o:=.lst (jy xs lo hi)) (fun b ob q=>j5 _ q) (S3 _) ?_,rfl,q _ (I.hok.fresh (S3 _))⟩
 exact⟨Tn (mZ xs lo hi) hz,_,0,(r.drop (HT.sIx xs.length 0 lo)).take (HT.sIx xs.length xs.length hi - HT.sIx xs.length 0 lo),S2 _ rfl⟩
def cR:V->Bool
 | .non=>true
 | .bl _=>true
 | .int _=>true
 | .str _=>true
 | _=>false
def eqV:V->V->Bool
 | .non,.non=>true
 | .bl a,.bl b=>a==b
 | .bl a,.int b=>(if a then 1 else 0)==b
 | .int a,.bl b=>a ==(if b then 1 else 0)
 | .int a,.int b=>a==b
 | .str a,.str b=>a==b
 | _,_=>false
theorem mz{s:Shared}{x:V}{v:Value}(ry:RelV y u)(rx:RelV x v)(fy:cR y=true)(fx:cR x=true):SeqAt.EqAt A s u v (eqV y x):=by
 cases y with
 | non =>
  cases ry;cases x with
  | non=>cases rx;exact SeqAt.EqAt.same _
  | bl b=>cases rx;exact SeqAt.EqAt.none_bool b
  | int b=>obtain⟨t,rfl⟩:=rx;exact SeqAt.EqAt.none_int b t
  | str b=>obtain⟨t,rfl⟩:=rx;exact SeqAt.EqAt.none_str b t
  | _=>exact absurd (show false=true from fx) Ta
 | bl a =>
  cases ry;cases x with
  | non=>cases rx;exact SeqAt.EqAt.bool_none a
  | bl b=>cases rx;exact SeqAt.EqAt.bool_bool a b
  | int b=>obtain⟨t,rfl⟩:=rx;exact SeqAt.EqAt.bool_int a b t
  | str b=>obtain⟨t,rfl⟩:=rx;exact SeqAt.EqAt.bool_str a b t
  | _=>exact absurd (show false=true from fx) Ta
 | int a =>
  obtain⟨t',rfl⟩:=ry;cases x with
  | non=>cases rx;exact SeqAt.EqAt.int_none a t'
  | bl b=>cases rx;exact SeqAt.EqAt.int_bool a t' b
  | int b=>obtain⟨t,rfl⟩:=rx;exact SeqAt.EqAt.int_int a t' b t
  | str b=>obtain⟨t,rfl⟩:=rx;exact SeqAt.EqAt.int_str a t' b t
  | _=>exact absurd (show false=true from fx) Ta
 | str a =>
  obtain⟨t',rfl⟩:=ry;cases x with
  | non=>cases rx;exact SeqAt.EqAt.str_none a t'
  | bl b=>cases rx;exact SeqAt.EqAt.str_bool a t' b
  | int b=>obtain⟨t,rfl⟩:=rx;exact SeqAt.EqAt.str_int a t' b t
  | str b=>obtain⟨t,rfl⟩:=rx;exact SeqAt.EqAt.str_str a t' b t
  | _=>exact absurd (show false=true from fx) Ta
 | _=>exact absurd (show false=true from fy) Ta
def eqU(x:V)(u:Value):Bool:=match u with
 | .none=>eqV .non x
 | .bool b=>eqV (.bl b) x
 | .int i _=>eqV (.int i) x
 | .str z _=>eqV (.str z) x
 | _=>false
theorem E7{x:V}(r:RelV y u)(f:cR y=true):eqU x u=eqV y x:=by
 cases y with
 | non=>cases r;rfl
 | bl b=>cases r;rfl
 | int i=>obtain⟨t,rfl⟩:=r;rfl
 | str z=>obtain⟨t,rfl⟩:=r;rfl
 | _=>exact absurd (show false=true from f) Ta
theorem lC{x:V}:∀{xs:List V}{us:List Value},Vals xs us->xs.all cR=true->us.any (eqU x)=xs.any fun y=>eqV y x
 | _,_,.nil,_=>rfl
 | y::xs,u::us,.cons r t,f=>by
  rw[VC,To]at f;rw[UR,UR,E7 r f.1,lC t f.2]
theorem iK{A:Around}{s:Shared}{x:V}{v:Value}(rx:RelV x v)(fx:cR x=true):∀{xs:List V}{us:List Value},Vals xs us->xs.all cR=true->∀ u∈us,SeqAt.EqAt A s u v (eqU x u)
 | _,_,.nil,_=>fun u hu=>by cases hu
 | y::xs,u::us,.cons r t,f=>fun u' hu=>by
  rw[VC,To]at f;rcases S1.mp hu with rfl|hu
  ·rw[E7 r f.1];exact mz r rx f.1 fx
  ·exact iK rx fx t f.2 u' hu
def inV(x:V)(xs:List V):Bool:=xs.any fun y=>eqV y x
def rIn(K:W.Frag)(neg:Bool):R2:=fun x y H Q=>∃ p xs,y = .ref p/\(SqL K H p xs\/SqT K H p xs)/\cR x=true/\xs.all cR=true/\Q (.bl (if neg then !inV x xs else inV x xs)) H
theorem Bk:OpR X (compareOp .In) (rIn X.K false):=by
 intro gV s σ H x y v u Q I rx ry h;obtain⟨p,xs,rfl,hq,fx,fs,q⟩:=h;cases ry;rcases hq with hq|hq
 ·obtain⟨its,r,pl,hz⟩:=I.list hq;refine SeqAt.in_listAt (eqU x) pl.isList (fun w hw=>iK rx fx r fs w (by simpa using hw)) ⟨.bl _,H,I,rfl,?_⟩
  rw[show its.toArray.any (eqU x)=its.any (eqU x)by simp,lC r fs]
  exact q
 ·obtain⟨its,r,pl,hz⟩:=I.tuple hq;refine SeqAt.in_tupleAt (eqU x) pl (fun w hw=>iK rx fx r fs w (by simpa using hw)) ⟨.bl _,H,I,rfl,?_⟩
  rw[show its.toArray.any (eqU x)=its.any (eqU x)by simp,lC r fs]
  exact q
theorem tE:OpR X (compareOp .NotIn) (rIn X.K true):=by
 intro gV s σ H x y v u Q I rx ry h;obtain⟨p,xs,rfl,hq,fx,fs,q⟩:=h;cases ry;rcases hq with hq|hq
 ·obtain⟨its,r,pl,hz⟩:=I.list hq;refine SeqAt.notIn_listAt (eqU x) pl.isList (fun w hw=>iK rx fx r fs w (by simpa using hw)) ⟨.bl _,H,I,rfl,?_⟩
  rw[show its.toArray.any (eqU x)=its.any (eqU x)by simp,lC r fs]
  exact q
 ·obtain⟨its,r,pl,hz⟩:=I.tuple hq;refine SeqAt.notIn_tupleAt (eqU x) pl (fun w hw=>iK rx fx r fs w (by simpa using hw)) ⟨.bl _,H,I,rfl,?_⟩
  rw[show its.toArray.any (eqU x)=its.any (eqU x)by simp,lC r fs]
  exact q
theorem lr:cI X (.builtin "len") (fun xs H Q=>∃ p ys,xs = [.ref p]/\(SqL X.K H p ys\/SqT X.K H p ys)/\Q (.int ys.length) H):=by
 intro gV s σ H xs us Q I r h;obtain⟨p,ys,rfl,hq,q⟩:=h;obtain⟨u,rfl,rx⟩:=vals1 r;cases rx;have hn:=gQ;rcases hq with hq|hq
 ·obtain⟨its,r',pl,hz⟩:=I.list hq;have hlen:=r'.length;exact Calls.call_len_list pl.isList (by simp only[S7] <;> omega) ⟨.int ys.length,H,I.tok _,⟨s.toks+1,by rw[S7,hlen]⟩,q⟩
 ·obtain⟨its,r',pl,hz⟩:=I.tuple hq;have hlen:=r'.length;exact len_tuple pl (by simp only[S7] <;> omega) ⟨.int ys.length,H,I.tok _,⟨s.toks+1,by rw[S7,hlen]⟩,q⟩
theorem uB:cI X (.builtin "len") (fun xs H Q=>∃ z,xs = [.str z]/\z.length<=S4/\Q (.int z.length) H):=by
 intro gV s σ H xs us Q I r h;obtain⟨z,rfl,hz,q⟩:=h;obtain⟨u,rfl,t,rfl⟩:=vals1 r;have hn:=gQ;exact len_str (by omega) ⟨.int z.length,H,I.tok _,⟨_,rfl⟩,q⟩
theorem cI.or{f:Value}{r':List V->Hp->VK->Prop}(h:cI X f r)(h':cI X f r'):cI X f (fun xs H Q=>r xs H Q\/r' xs H Q):=by
 intro gV s σ H xs us Q I rs q;rcases q with q|q
 ·exact h gV s σ H xs us Q I rs q
 ·exact h' gV s σ H xs us Q I rs q
theorem uA:cI X (.type "list") (fun xs H Q=>∃ p ys,xs = [.ref p]/\(SqL X.K H p ys\/SqT X.K H p ys)/\∀ l,H l=none->Q (.ref l) (upd H l (.lst ys))):=by
 intro gV s σ H xs us Q I r h;obtain⟨p,ys,rfl,hq,q⟩:=h;obtain⟨u,rfl,rx⟩:=vals1 r;cases rx;have fin:∀(its:List Value),Vals ys its->ys.length<=S4->∀(h':Heap)(c':Nat),(∀ b o',s.heap.get? b=some o'->h'.get? b=some o') ->
   h'.get? s.heap.objs.size=some { cls:=.type "list",dict:=none,data:=.seq its.toArray c',slots:=#[] }->EP X gV σ Q (.ref s.heap.objs.size) { s with heap:=h' }:=fun its r' hz h' c' kp e =>
  ⟨.ref s.heap.objs.size,_,I.laid (t':=s.toks) kp (S3 _) (show a5 X.prog X.w _ h' _ (.lst ys)from⟨hz,its,c',r',e⟩),rfl,q _ (I.hok.fresh (S3 _))⟩
 rcases hq with hq|hq
 ·obtain⟨its,r',pl,hz⟩:=I.list hq;have hlen:=r'.length;obtain⟨o,ho,hc,n,hd⟩:=pl.isList;exact call_list_seq p (.inl rfl) ho hc hd (fun h' c' kp e=>fin its r' hz h' c' kp e) (by simp only[S7] <;> omega)
 ·obtain⟨its,r',pl,hz⟩:=I.tuple hq;have hlen:=r'.length;obtain⟨o,ho,hc,n,hd⟩:=pl;exact call_list_seq p (.inr rfl) ho hc hd (fun h' c' kp e=>fin its r' hz h' c' kp e) (by simp only[S7] <;> omega)
theorem qN:cI X (.type "tuple") (fun xs H Q=>∃ p ys,xs = [.ref p]/\((SqL X.K H p ys/\∀ l,H l=none->Q (.ref l) (upd H l (.tup ys)))\/(SqT X.K H p ys/\Q (.ref p) H))):=by
 intro gV s σ H xs us Q I r h;obtain⟨p,ys,rfl,h⟩:=h;obtain⟨u,rfl,rx⟩:=vals1 r;cases rx;rcases h with⟨hq,q⟩ |⟨hq,q⟩
 ·obtain⟨its,r',pl,hz⟩:=I.list hq;have hlen:=r'.length;refine call_tuple_list pl.isList (fun h' kp=>?_) (by simp only[S7] <;> omega)
  have I1:Inv X gV σ H { s with heap:=h' }:=I.kept (t':=s.toks) kp
  have I2:Inv X gV σ (upd H h'.objs.size (.tup ys)) { s with heap:=h'.push { cls:=.type "tuple",data:=.seq its.toArray } } :=
   I1.laid (t':=s.toks) (fun b o e=>j5 _ e) (S3 _) (show a5 X.prog X.w _ _ _ (.tup ys)from⟨hz,its,r',kr.new _ _⟩)
  exact⟨.ref h'.objs.size,_,I2,rfl,q _ (I1.hok.fresh (S3 _))⟩
 ·obtain⟨its,r',pl,hz⟩:=I.tuple hq;exact call_tuple_same pl ⟨.ref p,H,I,rfl,q⟩
def tyV(K:W.Frag)(T:String)(x:V)(H:Hp):Prop:=match x with
 | .str _=>T = "str"
 | .int _=>T = "int"
 | .ref p=>(T = "list" /\ ∃ xs,SqL K H p xs)\/(T = "tuple" /\ ∃ o,K.lookup p=some o/\o.cls = .type "tuple" /\ o.dict=none) \/
   (T = "dict" /\ ((∃ kvs,H p=some (.dK kvs))\/∃ kvs,H p=some (.dT kvs)))\/(T = "set" /\ ∃ S n,H p=some (.set S n))
 | _=>False
theorem Cr{σ:St}{s:Shared}{T:String}{x:V}{v:Value}(I:Inv X gV σ H s)(r:RelV x v)(ty:tyV X.K T x H) :
  s.TypeIs v T/\∀ a,v = .ref a->∃ ob,s.heap.get? a=some ob/\ob.dict=none:=by
 cases x with
 | str z =>
  obtain⟨t,rfl⟩:=r
  cases(show T = "str" from ty)
  exact⟨typeIs_str s z t,fun _ e=>nomatch e⟩
 | int i =>
  obtain⟨t,rfl⟩:=r
  cases(show T = "int" from ty)
  exact⟨typeIs_int s i t,fun _ e=>nomatch e⟩
 | ref p =>
  cases r;rcases ty with⟨rfl,xs,hq⟩ |⟨rfl,o,hk,hc,hd⟩ |⟨rfl,hk⟩ |⟨rfl,S,n,hk⟩
  ·obtain⟨its,_,pl,_⟩:=I.list hq;refine⟨pl.isList.typeIs,fun a e=>?_⟩
   cases e;obtain⟨o,n,e,c,hd,_⟩:=pl;exact⟨o,e,hd⟩
  ·refine⟨⟨o,I.kIn p o hk,hc⟩,fun a e=>?_⟩
   cases e;exact⟨o,I.kIn _ o hk,hd⟩
  ·have z:∃ o,s.heap.get? p=some o/\o.ExactDict:=by
    rcases hk with⟨kvs,hk⟩ |⟨kvs,hk⟩
    ·obtain⟨_,_,_,_,o,_,_,e,ex,_⟩:=I.hok p _ hk;exact⟨o,e,ex⟩
    ·obtain⟨_,_,_,_,o,_,_,e,ex,_⟩:=I.hok p _ hk;exact⟨o,e,ex⟩
   obtain⟨o,e,ex⟩:=z;refine⟨⟨o,e,ex.1⟩,fun a e2=>?_⟩
   cases e2;exact⟨o,e,ex.2.1⟩
  ·obtain⟨o,_,_,_,e,ex,_⟩:=I.hok p _ hk;refine⟨⟨o,e,ex.1⟩,fun a e2=>?_⟩
   cases e2;exact⟨o,e,ex.2.1⟩
 | _=>exact False.elim ty
def Cy(K:W.Frag)(T:String)(r:V->List V->Hp->VK->Prop)(to:TE):TE:=fun σ H Q=>to σ H fun x H1=>tyV K T x H1/\r x [] H1 Q
def tBM(K:W.Frag)(T:String)(r:V->List V->Hp->VK->Prop)(to:TE)(t:TA):TE:=fun σ H Q=>to σ H fun x H1=>tyV K T x H1/\t σ H1 fun xs H2=>r x xs H2 Q
variable{o e:Expr}{es:List Expr}{to:TE}{t:TA}{name:Str}{apos aV:Pos}{T id:String}{r:V->List V->Hp->VK->Prop}
theorem xJ(pa:PlainAttrs T)(slot:Slot T name id)(hty:typeOf (.builtin id)=pure (.type "method_descriptor"))(hm:MtR X id r)(ho:PE X o to)
  (cE:attributeBase o name X.env (eval o X.env)=eval o X.env:=by rfl) (cD:(apos.endLine==aV.line)=true:=by rfl):PE X (.Call (.Attribute o name apos) [] [] aV) (Cy X.K T r to):=by
 intro gV s σ H Q I h;refine wpAny_Call_method0_late cE cD (thn (ho gV s σ H _ I h) fun v s1 hPP=>?_)
 obtain⟨x,H1,I1,r1,ty,q1⟩:=hPP;obtain⟨h1,h2⟩:=Cr I1 r1 ty;exact⟨T,id,pa,slot,hty,h1,h2,Calls.callWith_builtin rfl (PySem.evalArgs_none (hm gV s1 σ H1 x [] v [] Q I1 r1 .nil q1))⟩
theorem vO(pa:PlainAttrs T)(slot:Slot T name id)(hty:typeOf (.builtin id)=pure (.type "method_descriptor"))(hm:MtR X id r)(ho:PE X o to)(ha:PA X (e::es) t)
  (cE:attributeBase o name X.env (eval o X.env)=eval o X.env:=by rfl)
  (iT:((backTo aV (SN (e::es) X.env)).all (fun x=>!x.1)&&(backToKw aV (keywordEach [] X.env)).all (fun x=>x.1.isSome)
   && decide ((e::es).length+([]:List Keyword).length+(if([]:List Keyword).isEmpty then 0 else 1)<30))=true:=by rfl)
  (cD:(apos.endLine==aV.line)=true:=by rfl) (hs:SN (e::es) X.env =(false,eval e X.env)::SN es X.env:=by rfl) (cC:(backTo aV (SN es X.env)).any (·.1)=false:=by rfl) :
  PE X (.Call (.Attribute o name apos) (e::es) [] aV) (tBM X.K T r to t):=by
 intro gV s σ H Q I h;refine wpAny_Call_method_late cE iT cD rfl (thn (ho gV s σ H _ I h) fun v s1 hPP=>?_)
 obtain⟨x,H1,I1,r1,ty,q1⟩:=hPP;obtain⟨h1,h2⟩:=Cr I1 r1 ty;refine⟨T,id,pa,slot,hty,h1,h2,?_⟩;have hA:=ha aV gV s1 σ H1 _ I1 q1;rw[hs]at hA ⊢;refine Calls.callWith_builtin (by show(false ||(backTo aV (SN es X.env)).any (·.1))=false;rw[cC] <;> rfl) (Calls.evalArgs_plain ?_)
 refine thn hA fun us s2 hPP=>?_
 obtain⟨vs,H2,I2,r2,q2⟩:=hPP;exact hm gV s2 σ H2 x vs v us Q I2 r1 r2 q2
end
def MtM(X:Cx)(id:String)(r:V->List V->Hp->VK->Prop):Prop :=
 ∀(gV:List (Addr×Obj))(s:Shared)(σ:St)(H:Hp)(x:V)(xs:List V)(v:Value)(us:List Value)(Q:VK),Inv X gV σ H s->RelV x v->Vals xs us->r x xs H Q ->
  wpAny (model X.prog X.w) X.A (call (.builtin id) (v::us)) (EP X gV σ Q) X.xe s
theorem Vals.one:∀{x:V}{us:List Value},Vals [x] us->∃ u,us = [u]/\RelV x u:=by
 intro x us h;cases h with
 | cons r t=>cases t;exact⟨_,rfl,r⟩
theorem Vals.zero:∀{us:List Value},Vals [] us->us = []
 | _,.nil=>rfl
theorem Vals.dropLast{xs:List V}{us:List Value}(h:Vals xs us):Vals xs.dropLast us.dropLast:=by
 induction h with
 | nil=>exact .nil
 | cons r t ih =>
  cases t with
  | nil=>exact .nil
  | cons q t'=>exact .cons r ih
theorem Vals.reverse{xs:List V}{us:List Value}(h:Vals xs us):Vals xs.reverse us.reverse:=by
 induction h with
 | nil=>exact .nil
 | cons r t ih=>rw[U8,U8];exact Vals.append ih (.cons r .nil)
theorem yo{α:Type}(l:List α):l.eraseIdx (l.length - 1)=l.dropLast:=by
 induction l with
 | nil=>rfl
 | cons a r ih =>
  cases r with
  | nil=>rfl
  | cons b r =>
   have e:(a::b::r).length - 1 =((b::r).length - 1)+1:=by
    rfl
   rw[e,List.eraseIdx_cons_succ,ih]
   all_goals rfl
variable{t':Nat}
section
variable{X:Cx}{σ:St}{s:Shared}{l b:Addr}{xs ys zs:List V}
theorem Inv.Io{its':List Value}{f:Array Value->Array Value}{t':Nat}(I:Inv X gV σ H s)(hH:H l=some (.lst xs))
  (e:s.heap.get? l=some { cls:=.type "list",data:=.seq its.toArray n }) (hf:f its.toArray=its'.toArray) (hv:Vals ys its') (hz:ys.length<=S4) :
  Inv X gV σ (upd H l (.lst ys)) { s with heap:=s.heap.update l (T3 f),toks:=t' }:=by
 have q:=PySem.IsL.update e f;rw[hf]at q;refine I.write (x:=l) (e:=l) (by rw[hH];exact trivial) (.inl rfl) (fun b' u hb hu=>(T5 s.heap (T3 f) (Ne.symm hb)).trans hu) ⟨_,q⟩ ?_
 exact⟨hz,its',_,hv,q⟩
theorem Inv.Oy(I:Inv X gV σ H s)(hv:Vals ys its)(hz:ys.length<=S4) :
  Inv X gV σ (upd H s.heap.objs.size (.lst ys)) { s with heap:=s.heap.push { cls:=.type "list",data:=.seq its.toArray },toks:=t' } :=
 I.laid (fun _ _ q=>j5 _ q) (S3 _) ⟨hz,its,0,hv,S2 _ rfl⟩
theorem Inv.fresh(I:Inv X gV σ H s):H s.heap.objs.size=none:=I.hok.fresh (S3 _)
theorem Inv.xU(I:Inv X gV σ H s)(hH:H l=some (.lst xs)):xs.length<=S4/\∃(its:List Value)(n:Nat),Vals xs its/\xs.length=its.length/\s.heap.get? l=some { cls:=.type "list",data:=.seq its.toArray n }:=by
 obtain⟨z,its,n,r,e⟩:=I.hok l _ hH;exact⟨z,its,n,r,r.length,e⟩
theorem En(h:n<=S4):Builtin.List.listTooLong n=false:=by
 unfold Builtin.List.listTooLong;exact decide_eq_false (by omega)
end
section
variable{X:Cx}
def nG:V->List V->Hp->VK->Prop:=fun x vs H Q=>∃ l xs y,x = .ref l/\vs = [y]/\H l=some (.lst xs)/\xs.length<S4/\Q .non (upd H l (.lst (xs ++ [y])))
theorem By:MtM X "list.append" nG:=by
 intro gV s σ H x vs v us Q I rx rv h;obtain⟨l,xs,y,rfl,rfl,hH,hz,q⟩:=h;cases rx;obtain⟨u,rfl,ru⟩:=rv.one;obtain⟨z,its,n,r,hl,e⟩:=I.xU hH;refine call_meets F.slot_list_append ⟨_,e,rfl⟩ F.entry_list_append (F.args_list_append_2 _ _) (PySem.list_append l its.toArray n u (by rw[S7];omega)) ⟨e,?_⟩
 refine⟨.non,_,I.Io (its':=its ++ [u]) hH e (by simp) (r.append (.cons ru .nil)) ?_,rfl,q⟩
 rw[RM,TH];omega
def je:V->List V->Hp->VK->Prop:=fun x vs H Q=>∃ l b xs zs,x = .ref l/\vs = [.ref b]/\H l=some (.lst xs)/\H b=some (.lst zs)/\xs.length+zs.length<=S4/\Q .non (upd H l (.lst (xs++zs)))
theorem Bx:MtM X "list.extend" je:=by
 intro gV s σ H x vs v us Q I rx rv h;obtain⟨l,b,xs,zs,rfl,rfl,hH,hB,hz,q⟩:=h;cases rx;obtain⟨u,rfl,ru⟩:=rv.one;cases ru;obtain⟨z,its,n,r,hl,e⟩:=I.xU hH;obtain⟨z2,bJ,n2,r2,hl2,e2⟩:=I.xU hB;have hsz:its.toArray.size+bJ.toArray.size<=S4:=by rw[S7,S7];omega
 have OV:¬(!its.toArray.isEmpty&&Builtin.List.listTooLong (its.toArray.size+bJ.toArray.size))=true:=by
  rw[En hsz,VQ];exact Ta
 refine call_meets F.slot_list_extend ⟨_,e,rfl⟩ F.entry_list_extend (F.args_list_extend_2 _ _)
  (AutoSeq1.list_extend_list_list_0 l its.toArray n b bJ.toArray n2 OV (by rw[S7];omega) (by omega)) ⟨e,e2,?_⟩
 refine⟨.non,_,I.Io (its':=its++bJ) hH e (by simp) (r.append r2) ?_,rfl,q⟩
 rw[RM];omega
def KO:V->List V->Hp->VK->Prop:=fun x vs H Q=>∃ l xs y,x = .ref l/\vs = []/\H l=some (.lst xs)/\xs[xs.length - 1]? = some y/\Q y (upd H l (.lst xs.dropLast))
theorem Ew:MtM X "list.pop" KO:=by
 intro gV s σ H x vs v us Q I rx rv h;obtain⟨l,xs,y,rfl,rfl,hH,hy,q⟩:=h;cases rx;have hus:=rv.zero;subst hus;obtain⟨z,its,n,r,hl,e⟩:=I.xU hH;obtain⟨u,hu,ru⟩:=r.get hy;have hy':its.toArray[its.toArray.size - 1]? = some u:=by
  show its.toArray[its.length - 1]? = some u;rw[<- UH,<- hl];exact hu
 refine call_meets F.slot_list_pop ⟨_,e,rfl⟩ F.entry_list_pop (F.args_list_pop_1 _) (MeetsSeq.list_pop_last l its.toArray n u hy' (by rw[S7];omega)) ⟨e,?_⟩
 refine⟨y,_,I.Io (its':=its.dropLast) hH e ?_ r.dropLast ?_,ru,q⟩
 ·show its.toArray.eraseIdxIfInBounds (its.toArray.size - 1)=its.dropLast.toArray;rw[S7,List.eraseIdxIfInBounds_toArray,yo]
 ·rw[List.length_dropLast];omega
def xq:V->List V->Hp->VK->Prop:=fun x vs H Q=>∃ l xs,x = .ref l/\vs = []/\H l=some (.lst xs)/\Q .non (upd H l (.lst []))
theorem Ez:MtM X "list.clear" xq:=by
 intro gV s σ H x vs v us Q I rx rv h;obtain⟨l,xs,rfl,rfl,hH,q⟩:=h;cases rx;have hus:=rv.zero;subst hus;obtain⟨z,its,n,r,hl,e⟩:=I.xU hH;refine call_meets F.slot_list_clear ⟨_,e,rfl⟩ F.entry_list_clear (F.args_list_clear_1 _) (AutoSeq1.list_clear_list_0 l its.toArray n (by rw[S7];omega)) ⟨e,?_⟩
 exact⟨.non,_,I.Io (its':=[]) (ys:=[]) hH e rfl .nil (TX _),rfl,q⟩
def Nv:R2:=fun x y H Q=>∃ l b xs zs,x = .ref l/\y = .ref b/\H l=some (.lst xs)/\H b=some (.lst zs)/\xs.length+zs.length<=S4/\∀ p,H p=none->Q (.ref p) (upd H p (.lst (xs++zs)))
theorem LB:OpR X (binaryOp .Add) Nv:=by
 intro gV s σ H x y v u Q I rx ry h;obtain⟨l,b,xs,zs,rfl,rfl,hH,hB,hz,q⟩:=h;cases rx;cases ry;obtain⟨z,its,n,r,hl,e⟩:=I.xU hH;obtain⟨z2,bJ,n2,r2,hl2,e2⟩:=I.xU hB;refine PySem.P.add_list e e2 ?_ (by rw[S7,S7];omega)
 have ea:its.toArray++bJ.toArray =(its++bJ).toArray:=by simp
 rw[ea];exact⟨.ref _,_,I.Oy (t':=s.toks) (r.append r2) (by rw[RM];omega),rfl,q _ I.fresh⟩
end
end L2
namespace Att
open PySem PySem.W PySem.Calls PyProof.Rows
theorem nh{P:Params}{h:Heap}:∀(ns:List Int)(vs:List Value),WellAll P h vs (ns.map WData.int)->IntsAre vs ns:=by
 intro ns
 induction ns with
 | nil =>
  intro vs w;rw[Vm]at w;cases w;exact .nil
 | cons n ns ih =>
  intro vs w;rw[Tx]at w;cases w with
  | cons a b =>
   cases a;exact .cons _ _ (ih _ b)
theorem A4{l:OpenLaw}{n:Nat}(hn:l.most=some n){P:Params}{h:Heap}{args:List WData}{vals:List Value}
  (hpre:l.row.toRowW.claim.pre args=true) (hwl:WellAll P h vals args) :
  ∃ a vs ns,vals = [Value.ref a]/\args = [WData.list (ns.map WData.int)]/\h.get? a=some { cls:=.type "list",data:=.seq vs.toArray }/\IntsAre vs ns/\ns.length<=n:=by
 have hsh:WShape.hasAll [] args [.list .int]=true:=(pre_splitW hpre).1;have hc:l.pre.holds [] { args:=args }=true:=(pre_splitW hpre).2;obtain⟨d,r,rfl,h1,h2⟩:=hasAllW_cons hsh;obtain rfl:=hasAllW_nil h2;obtain⟨xs,rfl,h3⟩:=hasW_list h1;obtain⟨ns,rfl⟩:=items_int h3;have hlen:ns.length<=n:=by
  unfold OpenLaw.pre at hc;have h4:(WTm.not (.lt (.lit (.int (n:Int))) (.len (.arg 0)))).holds [] { args:=[.list (ns.map .int)] }=true:=by
   have h4:=(holds_andW hc).1;rw[hn]at h4;exact h4
  have h5:=condW_of h4 (w_not (w_lt w_lit (w_len_list (w_arg rfl))));rw[j3]at h5;refine Nat.le_of_not_lt fun q=>?_
  have q':(n:Int)<((ns.length:Nat):Int):=by omega
  first
   | (rw[decide_eq_true q']at h5;exact absurd h5 (by decide))
   | (simp at h5;omega)
 cases hwl with
 | cons w1 w2 =>
  cases w2;cases w1 with
  | list ho Mf=>exact⟨_,_,ns,rfl,rfl,ho,nh ns _ Mf,hlen⟩
theorem Be(l:OpenLaw)(args:List WData):l.row.toRowW.claim.post args (.bool true) args=true :=
 postW_of (r:=l.row.toRowW) (X:=(true==true))
  (show WShape.has [] (.bool true) .bool=true by first|rfl|decide|simp[WShape.has,WShape.arms,WShape.armsAll])
  (show(WTm.eq .res (.lit (.bool true))).value [] { args:=args,res:=some (.bool true),after:=args }=some (.bool (true==true))from w_eq_bool (w_res rfl) w_lit) rfl
theorem wD{l:OpenLaw}{n:Nat}{q:Program}{loose:List Str}{XP:(Str->Option Value)->Heap->Prop}{YP:World->Heap->Prop}{d:DefRec}
  (hn:l.most=some n) (hdf:d.params.defaults = [])
  (call:∀(w:World)(s₀ s₁:Shared)(mg mb:Str->Option Value)(fa:Addr)(o:Obj)(pm cd doc:Value)(a:Addr)(vs:List Value)(ns:List Int),
   Ground q loose [] XP w s₀ mg mb s₁.heap->YP w s₁.heap ->
   s₁.heap.get? fa=some o->o.data = .func (docDef d.name d.params d.body d.scope pm cd doc)->s₁.heap.CodeRec cd d.name->mg d.name=some (.ref fa) ->
   s₁.heap.get? a=some { cls:=.type "list",data:=.seq vs.toArray }->IntsAre vs ns->ns.length<=n->s₁.gens = #[] ->
   codeAny (model l.prog w) callerA (.call (.ref fa) ⟨[.ref a],[]⟩) (fun r s'=>r = .ok (.ret (.bool true))/\OldK s₁.heap s'.heap/\s'.os=s₁.os/\AllBare s'.gens) s₁) :
  WalkO q loose XP YP l.row.toRowW d [] (fun f vs=>PySem.call f vs):=by
 intro w s₀ s₁ mg mb G Y fa o pm cd doc dV kV ho hd hcd hD hmg hg args vals as hpre SV hrd hwl hlo;obtain rfl:dV = .none:=Dflts.none hD hdf;obtain rfl:kV = .none:=Dflts.noKw hD;obtain⟨a,vs,ns,rfl,rfl,Mc,hints,hlen⟩:=A4 hn hpre hwl;refine enter_call (codeAny_mono (call w s₀ s₁ mg mb fa o pm cd doc a vs ns G Y ho (fd_plain hd) hcd hmg Mc hints hlen hg) fun r s' hq=>?_)
 obtain⟨rfl,h2,h3,h4⟩:=hq;exact⟨.inl ⟨.bool true,.bool true,[],rfl,fun _=>rfl,.bool true,Be l _,fun _=>⟨List.Pairwise.nil,fun _ hm=>(nomatch hm)⟩⟩,h2,h3,h4⟩
section
variable{prog:Program}{w:World}{A:Around}{E:Value->Shared->Prop}{s:Shared}{K:Frag}
def ledger(h:Heap)(L d:Addr):List (Addr×Obj):=(TR h.objs.size).filterMap fun a=>if a=L\/a=d then none else(h.get? a).map fun o=>(a,o)
end
end Att
namespace L2
open PySem PySem.Spec PyProof.Rows
theorem qY:∀{vs:List Value}{ns:List Int},IntsAre vs ns->Vals (ns.map V.int) vs
 | _,_,.nil=>.nil
 | _,_,.cons n t h=>.cons ⟨t,rfl⟩ (qY h)
def Jv(H:Hp):Prop:=∀ b,H b=none\/∃ o xs,H b=some (.frz o (.lst xs))
variable{mg:Str->Option Value}{a:Addr}{x:Str}
theorem ED{P:Program}{w:World}{K:W.Frag}{mb:Str->Option Value}{CX:CXT}{k:Nat}{fa:Addr}{fd:FuncData}{sp:Sp}{s₁:Shared}{vs:List Value}{ns:List Int}
  (KX:K.In s₁.heap) (hns:s₁.heap.Ns mainGlobals mg) (hb:s₁.heap.Ns builtinsNs mb) (hbb:∀ x:Str,x ≠ "__name__" -> mb x=bootBuiltins x) (R4:s₁.heap.NoLimit) (hg:s₁.gens = #[])
  (ha:s₁.heap.get? a=some { cls:=.type "list",data:=.seq vs.toArray }) (hi:IntsAre vs ns) (hl:ns.length<=S4) (hr:cK k callerA)
  (F:∀ base:Heap,K.In base->base.Ns mainGlobals mg->a8 P w K mg base CX k fa fd [x] sp) (O0:∀(s:Shared)(u:Value),BindsTo s fd ⟨[u],[]⟩ [(x,u)])
  (hsp:∀ H:Hp,Jv H->SqL K H a (ns.map V.int)->sp [.ref a] H (fun v _=>v = .bl true) fun _ _ _=>False)
  (hCX:∀ H e s',CX [] H s₁ (fun _ _ _=>False) e s'->False) :
  codeAny (model P w) callerA (.call (.ref fa) ⟨[.ref a],[]⟩) (fun r s'=>r = .ok (.ret (.bool true))/\OldK s₁.heap s'.heap/\s'.os=s₁.os/\AllBare s'.gens) s₁:=by
 have rv:=qY hi;have RF:=hi.length;have core:∀ H:Hp,Jv H->SqL K H a (ns.map V.int)->HOk P w H s₁.heap ->(∀ b,H b≠none->b=a) ->(H a≠none->K.lookup a=none) ->
   codeAny (model P w) callerA (.call (.ref fa) ⟨[.ref a],[]⟩) (fun r s'=>r = .ok (.ret (.bool true))/\OldK s₁.heap s'.heap/\s'.os=s₁.os/\AllBare s'.gens) s₁:=by
  intro H hO hS hok hA hK;have Aj:∀{b:Addr}{o:Obj},s₁.heap.get? b=some o->H b=none ->(uh s₁.heap H).get? b=some o:=fun e n=>EW e n
  have noA:∀{b:Addr}{o:Obj}{es:Array DictEntry}{ep:Nat},s₁.heap.get? b=some o->o.data = .dict es ep->H b=none:=fun{b o es ep} e d=>by
   cases q:H b with
   | none=>rfl
   | some u =>
    have e':b=a:=hA b (by rw[q];simp)
    subst e';rw[ha]at e;cases e;have d':Data.seq vs.toArray _=Data.dict es ep:=d;cases d'
  have nsK:∀{b:Addr}{m:Str->Option Value},s₁.heap.Ns b m ->(uh s₁.heap H).Ns b m:=fun{b m} ⟨o,es,ep,e,d,r⟩=>⟨o,es,ep,Aj e (noA e d),d,r⟩
  have hKb:K.In (uh s₁.heap H):=fun b o e=>Aj (KX b o e) (by
   cases q:H b with
   | none=>rfl
   | some u =>
    have e':b=a:=hA b (by rw[q];simp)
    subst e';rw[hK (by rw[q];simp)]at e;cases e)
  have hM:Mod K mg (uh s₁.heap H):=⟨hKb,nsK hns,⟨mb,nsK hb,hbb⟩,let⟨mc,h1,h2⟩:=R4;⟨mc,nsK h1,h2⟩⟩
  have e0:yS P w K mg (uh s₁.heap H) callerA [] s₁ H:=⟨rfl,hM,fun b o e=>Ia e,Nat.le_of_eq (BO _ _),trivial,fun b hb=>absurd (show b∈([]:List Addr)from hb) (by simp),hok,.of_eq hg⟩
  refine codeAny_mono ((F _ hKb (nsK hns)).run callerA [] s₁ H ⟨[.ref a],[]⟩ [.ref a] [.ref a] _ _ hr e0 (O0 s₁ (.ref a)) (.cons rfl .nil) (hsp H hO hS)) fun r s' h=>?_
  cases r with
  | error e=>exact(hCX H e s' h).elim
  | ok fl =>
   cases fl with
   | next=>exact False.elim h
   | brk=>exact False.elim h
   | cont=>exact False.elim h
   | ret u =>
    obtain⟨v,H',os,bare,un,RV,r',q⟩:=h;have q':v = .bl true:=q;subst q';obtain rfl:u=Value.bool true:=r';refine⟨rfl,OldK.of_keep fun b o e=>?_,os,bare⟩
    cases q:H b with
    | none=>exact un.keep b o e q (by intro z;exact absurd (show b∈([]:List Addr)from z) (by simp)) (by simp)
    | some u =>
     rcases hO b with z |⟨ob,xs,z⟩
     ·rw[q]at z;cases z
     ·have z2:=un.j9 b ob _ z;obtain⟨e1,_⟩:=hok b _ z;obtain⟨e2,_⟩:=RV b _ z2;rw[e]at e1;cases e1;exact e2
 cases hk:K.lookup a with
 | some o =>
  have e:=KX a o hk;rw[ha]at e;cases e;refine core (fun _=>none) (fun _=>.inl rfl) (.inr ⟨_,vs.toArray,_,hk,rfl,rfl,rfl,by rw[S7,RF];exact hl,by simpa using rv⟩) (fun b u z=>by have z':(none:Option HO)=some u:=z;cases z') (fun b z=>absurd rfl z) fun z=>absurd rfl z
 | none =>
  refine core (fun b=>if b=a then some (.frz { cls:=.type "list",data:=.seq vs.toArray } (.lst (ns.map V.int)))else none) (fun b=>?_) (.inl (.inr ⟨{ cls:=.type "list",data:=.seq vs.toArray },if_pos rfl⟩)) (fun b u z=>?_) (fun b z=>?_) fun _=>hk
  ·by_cases hb:b=a
   ·exact .inr ⟨_,_,if_pos hb⟩
   ·exact .inl (if_neg hb)
  ·by_cases hb:b=a
   ·have z':=(if_pos hb).symm.trans z;cases z';subst hb;exact⟨ha,by rw[j3];exact hl,vs,_,rv,ha⟩
   ·have z':=(if_neg hb).symm.trans z;cases z'
  ·by_cases hb:b=a
   ·exact hb
   ·exact absurd (if_neg hb) z
variable{n:Nat}
theorem Gu{l:W.OpenLaw}{k:Nat}{q:Program}{loose:List Str}{XP:(Str->Option Value)->Heap->Prop}{YP:World->Heap->Prop}{d:DefRec}{K:Params->W.Frag}{CX:World->CXT}{sp:World->Sp}
  (hn:l.most=some n) (hn2:n<=S4) (hdf:d.params.defaults = []) (hr:cK k callerA)
  (hY:∀(w:World)(h:Heap),YP w h ->(K w.params).In h)
  (F:∀(w:World)(mg:Str->Option Value)(fa:Addr)(h:Heap),(K w.params).In h->h.Ns mainGlobals mg->mg d.name=some (.ref fa) ->
   ∃ fd:FuncData,(∀(s:Shared)(u:Value),BindsTo s fd ⟨[u],[]⟩ [(x,u)]) /\
    ∀ base:Heap,(K w.params).In base->base.Ns mainGlobals mg->a8 l.prog w (K w.params) mg base (CX w) k fa fd [x] (sp w))
  (hsp:∀(w:World)(H:Hp)(a:Addr)(ns:List Int),ns.length<=n->Jv H->SqL (K w.params) H a (ns.map V.int)->sp w [.ref a] H (fun v _=>v = .bl true) fun _ _ _=>False)
  (hCX:∀(w:World)(H:Hp)(s:Shared)(e:Value)(s':Shared),CX w [] H s (fun _ _ _=>False) e s'->False) :
  W.WalkO q loose XP YP l.row.toRowW d [] (fun f vs=>PySem.call f vs):=by
 refine Att.wD hn hdf fun w s₀ s₁ mg mb fa o pm cd doc a vs ns G Y ho hd hcd hmg Mc hints hlen hg=>?_
 have KX:=hY w _ Y;obtain⟨fd,hb,hF⟩:=F w mg fa _ KX G.T.g hmg;exact ED KX G.T.g G.T.b G.T.builtins G.T.nolimit hg Mc hints (Tn hlen hn2) hr hF hb (fun H hO hS=>hsp w H a ns hlen hO hS) fun H e s'=>hCX w H s₁ e s'
def inClass(s:Stmt)(j:Nat):Stmt:=match s with
 | .ClassDef _ _ _ body _ _ _ _ _ _ _=>body.getD j (.Pass ⟨0,0,0,0⟩)
 | _=>.Pass ⟨0,0,0,0⟩
def dh(s:Stmt):Arguments:=match s with
 | .FunctionDef _ a _ _ _ _ _ _ _ _=>a
 | _=>{ posonlyargs:=[],args:=[],vararg:=none,kwonlyargs:=[],kw_defaults:=[],kwarg:=none,defaults:=[] }
def bV(s:Stmt):List Stmt:=match s with
 | .FunctionDef _ _ b _ _ _ _ _ _ _=>b
 | _=>[]
def aw(s:Stmt):Scope:=match s with
 | .FunctionDef _ _ _ _ _ _ sc _ _ _=>sc
 | _=>{ kind:=.function,names:=[],isGenerator:=false,isCoroutine:=false }
abbrev CX0:CXT:=fun _ _ _ _ _ _=>False
abbrev E0:XK:=fun _ _ _=>False
variable{X:Cx}
theorem oJ:Passes CX0 X E0:=fun _ _ _ _ _ _ _ h=>h.elim
structure Fun(K:W.Frag)(x qual:Str)(st:Stmt)(f:Addr)(fd:FuncData):Prop where
 ex:∃(oc:Value)(od:Option Addr)(kV doc pm:Value)(an:Option Addr)(cdv ct:Value)(osl:Array (Option Value)),
  fd=W.fnOf x qual (dh st) (bV st) (aw st) .none kV doc pm an cdv ct/\K.lookup f=some ⟨oc,od,.func fd,osl⟩/\W.codeIn K cdv qual=true
 kp:W.keepIn K (.ref f)=true
variable{qual:Str}{st:Stmt}{fd:FuncData}{N:List Str}{ps:List Str}{sp:Sp}{oc:Value}{od:Option Addr}{an:Option Addr}{pm:Value}{ct:Value}
section
variable{P:Program}{w:World}{K:W.Frag}{base:Heap}
theorem Fun.ok{f:Addr}{k:Nat}(F:Fun K x qual st f fd)(S:aH N ps (aw st))(len:∀ vs H Q E,sp vs H Q E->vs.length=ps.length)
  (k7:∀(cdv:Value)(A:Around)(outer:List Env)(s:Shared)(H:Hp)(vs:List V)(Q:VK)(E:XK),cK k (A.deeper (envOfC qual (aw st) s.heap.objs.size f cdv))->sp vs H Q E ->
   ∃ t,PSs (qL CX0 P w K mg base N qual (aw st) f cdv A outer s H E).nox (bV st) t/\t { nx:=fun _ H'=>Q .non H',rt:=Q } (start N vs) H):a8 P w K mg base CX0 (k+1) f fd ps sp:=by
 obtain⟨oc,od,kV,doc,pm,an,cdv,ct,osl,rfl,lk,hcd⟩:=F.ex;refine O5 lk hcd S len fun A outer s H vs Q E hr hsp=>?_
 obtain⟨t,h,q⟩:=k7 cdv A outer s H vs Q E hr hsp;exact⟨t,h.nox,q⟩
theorem Fun.binds{f:Addr}(F:Fun K x qual st f fd)
  (h:∀(kV doc pm:Value)(an:Option Addr)(cdv ct:Value)(us:List Value),us.length=ps.length->bindArgs (W.fnOf x qual (dh st) (bV st) (aw st) .none kV doc pm an cdv ct) ⟨us,[]⟩=pure (ps.zip us)):Binds K fd ps []:=by
 obtain⟨oc,od,kV,doc,pm,an,cdv,ct,osl,rfl,lk,hcd⟩:=F.ex;exact .all (h kV doc pm an cdv ct)
theorem aZ{f:Addr}{osl:Array (Option Value)}{kV doc cdv:Value}(l:K.lookup f=some ⟨oc,od,.func (W.fnOf x qual (dh st) (bV st) (aw st) .none kV doc pm an cdv ct),osl⟩)
  (c:W.codeIn K cdv qual=true) (k:W.keepIn K (.ref f)=true):Fun K x qual st f (W.fnOf x qual (dh st) (bV st) (aw st) .none kV doc pm an cdv ct):=⟨⟨oc,od,kV,doc,pm,an,cdv,ct,osl,rfl,l,c⟩,k⟩
end
variable{A:Around}
theorem bG{k:Nat}(hr:cK k A):A.units+1<cLine:=UU (Nat.add_le_add_left (by decide:1<=64) _) hr.units
theorem ay(h:n<=1000):n<S4:=UU h (by decide)
section
theorem pv(i:Nat){pos:Pos}(hN:X.N[i]? = some x:=by rfl)(hv:Vis X.env.scope x:=by first|exact Or.inl rfl|exact Or.inr (Or.inl rfl)|exact Or.inr (Or.inr rfl))(hd:(x ==("__debug__":Str))=false:=by decide)
  (hcd:(x ==("__classdict__":Str))=false:=by decide):PE X (.Name x pos) (bb i):=xH hN hv hd hcd
end
theorem RL{A B:Prop}(h:B):if false=true then A else B:=by
 rw[if_neg Ta];exact h
theorem aB{c A B:Prop}[Decidable c](h1:c->A)(h2:¬ c->B):if c then A else B:=by
 by_cases h:c
 ·rw[if_pos h];exact h1 h
 ·rw[if_neg h];exact h2 h
def ko(H H':Hp):Prop:=∀ b o,H b=some o->H' b=some o
theorem ko.refl(H:Hp):ko H H:=fun _ _ h=>h
variable{H:Hp}{H':Hp}{l:Addr}
theorem ko.free(e:ko H H')(h:H' l=Option.none):H l=Option.none:=by
 cases q:H l with
 | none=>rfl
 | some o =>
  rw[e l o q]at h;cases h
variable{y:V}{u:Value}
section
variable{κ:Type}[DecidableEq κ]
def dR(kvs:List (κ×V))(k:κ):Option V:=(kvs.find? fun kv=>decide (kv.1=k)).map (·.2)
def putK(kvs:List (κ×V))(k:κ)(v:V):List (κ×V) :=
 if(kvs.any fun kv=>decide (kv.1=k))=true then kvs.map (fun kv=>if kv.1=k then(kv.1,v)else kv)else kvs ++ [(k,v)]
theorem nR{p:κ×V}{r:List (κ×V)}{k:κ}(e:p.1=k):dR (p::r) k=some p.2:=by simp[dR,TN,e]
theorem nS{p:κ×V}{r:List (κ×V)}{k:κ}(e:¬ p.1=k):dR (p::r) k=dR r k:=by simp[dR,TN,e]
theorem vk(k:κ):∀ kvs:List (κ×V),(kvs.any fun kv=>decide (kv.1=k)) =(dR kvs k).isSome
 | []=>rfl
 | p::r=>by
  rw[UR];by_cases e:p.1=k
  ·simp only[nR e,decide_eq_true e,Bool.true_or,Option.isSome_some]
  ·rw[nS e,decide_eq_false e,VZ];exact vk k r
theorem iM(kvs:List (κ×V))(k:κ)(v:V):(putK kvs k v).length<=kvs.length+1:=by
 unfold putK
 split
 ·rw[j3];omega
 ·rw[RM,Te,Ur];omega
theorem kq.gm{o:Option V}{u:Option Value}(r:kq o u):o.isSome=u.isSome:=by
 cases o with
 | none=>cases u with
  | none=>rfl
  | some _=>exact(show False from r).elim
 | some _=>cases u with
  | none=>exact(show False from r).elim
  | some _=>rfl
theorem KV.val{kvs:List (κ×V)}{vs:List (κ×Value)}(r:KV kvs vs)(k:κ):kq (dR kvs k) (valueAt vs k):=by
 unfold KV at r
 induction r with
 | nil=>exact True.intro
 | @cons p q ps qs h t ih =>
  obtain⟨h1,h2⟩:=h;by_cases e:p.1=k
  ·have e':q.1=k:=h1.symm.trans e;have b:valueAt (q::qs) k=some q.2:=by simp[valueAt,TN,e']
   rw[nR e,b];exact h2
  ·have e':¬ q.1=k:=fun z=>e (h1.trans z)
   have b:valueAt (q::qs) k=valueAt qs k:=by simp[valueAt,TN,e']
   rw[nS e,b];exact ih
theorem KV.any{kvs:List (κ×V)}{vs:List (κ×Value)}(r:KV kvs vs)(k:κ):(kvs.any fun kv=>decide (kv.1=k))=vs.any fun kv=>decide (kv.1=k):=by
 unfold KV at r
 induction r with
 | nil=>rfl
 | cons h t ih=>rw[UR,UR,ih,h.1]
theorem KV.KN{kvs:List (κ×V)}{vs:List (κ×Value)}(r:KV kvs vs)(k:κ)(ry:RelV y u) :
  KV (kvs.map fun kv=>if kv.1=k then(kv.1,y)else kv) (vs.map fun kv=>if kv.1=k then(kv.1,u)else kv):=by
 unfold KV at r ⊢
 induction r with
 | nil=>exact .nil
 | @cons p q ps qs h t ih =>
  rw[Tx,Tx];refine .cons ?_ ih;obtain⟨h1,h2⟩:=h;by_cases e:p.1=k
  ·rw[if_pos e,if_pos (h1.symm.trans e)];exact⟨h1,ry⟩
  ·rw[if_neg e,if_neg (fun z=>e (h1.trans z))];exact⟨h1,h2⟩
theorem KV.put{kvs:List (κ×V)}{vs:List (κ×Value)}(r:KV kvs vs)(k:κ)(ry:RelV y u):KV (putK kvs k y) (stored vs k u):=by
 unfold putK stored;rw[r.any k];by_cases e:(vs.any fun kv=>decide (kv.1=k))=true
 ·rw[if_pos e,if_pos e];exact r.KN k ry
 ·rw[if_neg e,if_neg e];exact Paired.snoc r ⟨rfl,ry⟩
theorem KV.length{kvs:List (κ×V)}{vs:List (κ×Value)}(r:KV kvs vs):kvs.length=vs.length:=Paired.length r
end
variable{P:Program}
theorem mV{w:World}{k:Key}(r:RelV (kV k) u):(bh P w).is k u=true:=by
 cases k with
 | inl i=>obtain⟨t,e⟩:=(show ∃ t,u=Value.int i t from r);subst e;exact vZ P w i t
 | inr x=>obtain⟨t,e⟩:=(show ∃ t,u=Value.str x t from r);subst e;exact vY P w x t
theorem rE{P:Program}{w:World}:∀{ks:List Key}{us:List Value},Vals (ks.map kV) us->ItemsAre (bh P w) ks us
 | [],_,r=>by rw[Vm]at r;cases r;exact .nil
 | k::ks,_,r=>by
  rw[Tx]at r;cases r with
  | cons h t=>exact .cons (mV h) (rE t)
abbrev KT(H:Hp):List (List Key×V)->List (List Key×Addr×Value)->Prop:=Paired fun p q=>p.1=q.1/\H q.2.1=some (.tup (p.1.map kV))/\RelV p.2 q.2.2
theorem KT.val{kvs:List (List Key×V)}{xs:List (List Key×Addr×Value)}(r:KT H kvs xs)(k:List Key):kq (dR kvs k) ((atKey xs k).map (·.2)):=by
 induction r with
 | nil=>exact True.intro
 | @cons p q ps qs h t ih =>
  obtain⟨h1,_,h2⟩:=h;by_cases e:p.1=k
  ·have e':q.1=k:=h1.symm.trans e;have b:atKey (q::qs) k=some q.2:=by simp[atKey,TN,e']
   rw[nR e,b];exact h2
  ·have e':¬ q.1=k:=fun z=>e (h1.trans z)
   have b:atKey (q::qs) k=atKey qs k:=by simp[atKey,TN,e']
   rw[nS e,b];exact ih
theorem KT.KN{kvs:List (List Key×V)}{xs:List (List Key×Addr×Value)}(r:KT H kvs xs)(k:List Key)(ry:RelV y u) :
  KT H (kvs.map fun kv=>if kv.1=k then(kv.1,y)else kv) (xs.map (putAt k u)):=by
 induction r with
 | nil=>exact .nil
 | @cons p q ps qs h t ih =>
  rw[Tx,Tx];refine .cons ?_ ih;obtain⟨h1,h2,h3⟩:=h;unfold putAt;by_cases e:p.1=k
  ·rw[if_pos e,if_pos (h1.symm.trans e)];exact⟨h1,h2,ry⟩
  ·rw[if_neg e,if_neg (fun z=>e (h1.trans z))];exact⟨h1,h2,h3⟩
theorem KT.put{kvs:List (List Key×V)}{xs:List (List Key×Addr×Value)}(r:KT H kvs xs)(k:List Key){b:Addr}(hb:H b=some (.tup (k.map kV)))(ry:RelV y u) :
  KT H (putK kvs k y) (storedH xs k b u):=by
 have e:(kvs.any fun kv=>decide (kv.1=k)) =(atKey xs k).isSome:=by
  rw[vk,(r.val k).gm,UX]
 unfold putK storedH;rw[e];by_cases q:(atKey xs k).isSome=true
 ·rw[if_pos q,if_pos q];exact r.KN k ry
 ·rw[if_neg q,if_neg q];exact Paired.snoc r ⟨rfl,hb,ry⟩
theorem KT.keeps{kvs:List (List Key×V)}{xs:List (List Key×Addr×Value)}(r:KT H kvs xs)(ht:∀ b ys,H b=some (.tup ys)->H' b=some (.tup ys)):KT H' kvs xs :=
 Paired.LP r fun _ _ z=>⟨z.1,ht _ _ z.2.1,z.2.2⟩
variable{kvs:List (Key×V)}
section
variable{w:World}{h:Heap}
theorem JK{u:HO}(ok:HOk P w H h)(e:Rd H a u):a5 P w H h a u:=e.ok ok
theorem mW(ok:HOk P w H h)(e:Rd H a (.dK kvs)):kvs.length<=S4/\(a==sysModules)=false/\∃ vs,KV kvs vs/\h.DictOf (bh P w) a vs :=
 show a5 P w H h a (.dK kvs)from JK ok e
theorem Fb(ok:HOk P w H h)(e:H a=some (.dK kvs)):kvs.length<=S4/\(a==sysModules)=false/\∃ vs,KV kvs vs/\h.DictOf (bh P w) a vs:=mW ok (.inl e)
theorem oY{ks:List Key}(ok:HOk P w H h)(e:H a=some (.tup (ks.map kV))):(tupleKind (bh P w)).is h ks a:=by
 obtain⟨_,its,r,⟨o,h1,h2,n,h3⟩,_⟩:=(show a5 P w H h a (.tup (ks.map kV))from ok a _ e);exact⟨o,its.toArray,n,h1,h2,h3,by simpa using rE r⟩
theorem wo{kvs:List (List Key×V)}(ok:HOk P w H h)(e:Rd H a (.dT kvs)):kvs.length<=S4/\(a==sysModules)=false /\
  ∃ xs,KT H kvs xs/\h.DictOfH (tupleKind (bh P w)) a xs:=by
 obtain⟨z,y,xs,r,o,es,ep,h1,h2,h3,h4,h5⟩:=(show a5 P w H h a (.dT kvs)from JK ok e);refine⟨z,y,xs,r,o,es,ep,h1,h2,h3,h4,fun x hx=>?_,h5⟩
 have all:∀{l:List (List Key×V)}{m:List (List Key×Addr×Value)},KT H l m->∀ x∈m,(tupleKind (bh P w)).is h x.1 x.2.1:=by
  intro l m q
  induction q with
  | nil=>intro x hx;exact nomatch hx
  | @cons p q ps qs hq t ih =>
   intro x hx;rcases S1.mp hx with e|hx
   ·subst e;exact oY ok (by rw[<- hq.1];exact hq.2.1)
   ·exact ih x hx
 exact all r x hx
theorem O7{kvs:List (List Key×V)}(ok:HOk P w H h)(e:H a=some (.dT kvs)):kvs.length<=S4/\(a==sysModules)=false /\
  ∃ xs,KT H kvs xs/\h.DictOfH (tupleKind (bh P w)) a xs:=wo ok (.inl e)
end
def jb(H:Hp)(a:Addr)(y:V)(r:Option V):Prop :=
 (∃ kvs k,Rd H a (.dK kvs)/\y=kV k/\r=dR kvs k)\/∃ kvs k b,Rd H a (.dT kvs)/\y = .ref b/\H b=some (.tup (k.map kV))/\r=dR kvs k
def vd(H:Hp)(a:Addr)(y v:V)(H':Hp):Prop :=
 (∃ kvs k,H a=some (.dK kvs)/\y=kV k/\kvs.length<S4/\H'=upd H a (.dK (putK kvs k v))) \/
 ∃ kvs k b,H a=some (.dT kvs)/\y = .ref b/\H b=some (.tup (k.map kV))/\kvs.length<S4/\H'=upd H a (.dT (putK kvs k v))
theorem jb.k{H:Hp}{a:Addr}{kvs:List (Key×V)}{k:Key}(e:H a=some (.dK kvs)):jb H a (kV k) (dR kvs k):=.inl ⟨kvs,k,.inl e,rfl,rfl⟩
theorem vd.k{H:Hp}{a:Addr}{kvs:List (Key×V)}{k:Key}{v:V}(e:H a=some (.dK kvs))(hl:kvs.length<S4):vd H a (kV k) v (upd H a (.dK (putK kvs k v))):=.inl ⟨kvs,k,e,rfl,hl,rfl⟩
variable{Q:Value->Shared->Prop}{h':Heap}{t':Nat}
section
variable{gV:List (Addr×Obj)}{σ:St}{s:Shared}{v:V}{r:Value}{o:Option V}{E:Value->Shared->Prop}
theorem Inv.big(I:Inv X gV σ H s):sysModules<s.heap.objs.size:=by
 have h:mainGlobals<s.heap.objs.size:=(I.mod.glob.keeps I.bk).lt;exact Wa (by decide) h
theorem BZ(hu:A.units+1<cLine)(I:Inv X gV σ H s)(g:jb H a y (some v))(ry:RelV y u)(h:∀ w' s',Inv X gV σ H s'->RelV v w'->Q w' s') :
  wpAny (model X.prog X.w) A (getItem (.ref a) u) Q E s:=by
 rcases g with⟨kvs,k,e,ey,l⟩ |⟨kvs,k,b,e,ey,eb,l⟩
 ·subst ey;obtain⟨z,hd,vs,rel,dd⟩:=mW I.hok e;obtain⟨w',hw,rw'⟩:=kq.some_of (v:=v) (o:=valueAt vs k) (by rw[l];exact rel.val k)
  exact wpAny_getItem_of (mV ry) dd.mapOf hw (h w' _ (I.tok _) rw')
 ·subst ey
  cases(show u=Value.ref b from ry)
  obtain⟨z,hd,xs,rel,dd⟩:=wo I.hok e;obtain⟨w',hw,rw'⟩:=kq.some_of (v:=v) (o:=(atKey xs k).map (·.2)) (by rw[l];exact rel.val k)
  obtain⟨p,hp,hp2⟩:=QX.mp hw;refine wpAny_getItem_heap (tupleKind_room_in1 hu) (oY I.hok eb) dd hp ?_;rw[hp2];exact h w' _ (I.tok _) rw'
theorem Sk(hu:A.units+1<cLine)(I:Inv X gV σ H s)(g:jb H a y o)(ry:RelV y u)(h:∀ s',Inv X gV σ H s'->Q (.bool o.isSome) s') :
  wpAny (model X.prog X.w) A (compareOp .In u (.ref a)) Q E s:=by
 rcases g with⟨kvs,k,e,ey,l⟩ |⟨kvs,k,b,e,ey,eb,l⟩
 ·subst ey;obtain⟨z,hd,vs,rel,dd⟩:=mW I.hok e;refine wpAny_in_of (mV ry) hd dd.mapOf ?_;rw[<- (rel.val k).gm,<- l];exact h _ (I.tok _)
 ·subst ey
  cases(show u=Value.ref b from ry)
  obtain⟨z,hd,xs,rel,dd⟩:=wo I.hok e;refine wpAny_in_heap (tupleKind_room_in1 hu) (oY I.hok eb) hd dd ?_;have q:=(rel.val k).gm;rw[UX]at q;rw[<- q,<- l];exact h _ (I.tok _)
theorem Ja(hu:A.units+1<cLine)(I:Inv X gV σ H s)(g:jb H a y o)(ry:RelV y u)(h:∀ s',Inv X gV σ H s'->Q (.bool (!o.isSome)) s') :
  wpAny (model X.prog X.w) A (compareOp .NotIn u (.ref a)) Q E s:=by
 rcases g with⟨kvs,k,e,ey,l⟩ |⟨kvs,k,b,e,ey,eb,l⟩
 ·subst ey;obtain⟨z,hd,vs,rel,dd⟩:=mW I.hok e;refine wpAny_notIn_of (mV ry) hd dd.mapOf ?_;rw[<- (rel.val k).gm,<- l];exact h _ (I.tok _)
 ·subst ey
  cases(show u=Value.ref b from ry)
  obtain⟨z,hd,xs,rel,dd⟩:=wo I.hok e;refine wpAny_notIn_heap (tupleKind_room_in1 hu) (oY I.hok eb) hd dd ?_;have q:=(rel.val k).gm;rw[UX]at q;rw[<- q,<- l];exact h _ (I.tok _)
theorem uv{ob:HO}(I:Inv X gV σ H s)(mu:Mut (H a))(hs:T7 a s.heap h')(he:∃ q,h'.get? a=some q)(new:a5 X.prog X.w (upd H a ob) h' a ob) :
  Inv X gV σ (upd H a ob) { s with heap:=h',toks:=t' } :=
 I.write (x:=a) (e:=a) mu (.inl rfl) (fun b q hb z=>(hs.2 b hb).trans z) he new
theorem pJ{w:World}{vs:List (Key×Value)}(z:kvs.length<=S4)(hd:(a==sysModules)=false)(rel:KV kvs vs)(dd:h'.DictOf (bh P w) a vs) :
  a5 P w H' h' a (.dK kvs):=⟨z,hd,vs,rel,dd⟩
theorem BY{Q:Unit->Shared->Prop}(hu:A.units+1<cLine)(I:Inv X gV σ H s)(g:vd H a y v H')(ry:RelV y u)(rv:RelV v r)(h:∀ s',Inv X gV σ H' s'->Q () s') :
  wpAny (model X.prog X.w) A (setItem (.ref a) u r) Q E s:=by
 rcases g with⟨kvs,k,e,ey,l,eH⟩ |⟨kvs,k,b,e,ey,eb,l,eH⟩
 ·subst ey eH;obtain⟨z,hd,vs,rel,dd⟩:=Fb I.hok e;have hz:vs.length<=S4:=by rw[<- rel.length];exact z
  have hl:(putK kvs k v).length<=S4:=by have:=iM kvs k v;omega
  refine wpAny_setItem_pairs (hsz:=hz) (mV ry) dd fun h' dd' hs=>h _ ?_
  have he:∃ q,h'.get? a=some q:=let⟨q,_,_,hq,_⟩:=dd';⟨q,hq⟩
  exact uv I (by rw[e];exact True.intro) hs he (pJ hl hd (rel.put k rv) dd')
 ·subst ey eH
  cases(show u=Value.ref b from ry)
  obtain⟨z,hd,xs,rel,dd⟩:=O7 I.hok e;have hz:xs.length<=S4:=by rw[<- Paired.length rel];exact z
  have hl:(putK kvs k v).length<=S4:=by have:=iM kvs k v;omega
  refine wpAny_setItem_heap (hsz:=hz) (tupleKind_room_in1 hu) (oY I.hok eb) dd fun h' dd' hs=>h _ ?_
  obtain⟨q,es,ep,hq,h2,h3,h4,_,h5⟩:=dd';refine uv I (by rw[e];exact True.intro) hs ⟨q,hq⟩ ⟨hl,hd,_,(rel.put k eb rv).keeps fun c ys ec=>?_,q,es,ep,hq,h2,h3,h4,h5⟩
  rw[ao (iJ ec e (fun z=>nomatch z))]
  exact ec
end
section
variable{gV:List (Addr×Obj)}{σ:St}{s:Shared}{k:Key}{E:Value->Shared->Prop}
theorem Ph(I:Inv X gV σ H s)(e:Rd H a (.dK kvs))(h:∀ t s',Inv X gV σ H s'->Q (.int kvs.length t) s'):wpAny (model X.prog X.w) A (call (.builtin "len") [.ref a]) Q E s:=by
 obtain⟨z,hd,vs,rel,dd⟩:=mW I.hok e;refine call_len_dict hd dd (by rw[<- rel.length];rw[UZ]at z;omega) ?_
 rw[<- rel.length];exact h _ _ (I.tok _)
end
def PY(i:Expr):Prop:=∀ ov iv,subscripted i false ov iv=operate [ov,iv] (getItem ov iv)
variable{prog:Program}{E:Value->Shared->Prop}{env:Env}{value:Expr}
theorem GB{w:World}{s:Shared}{slice:Expr}{pos:Pos}{T id:String}
  (hl:typeLookup (.type T) "__getitem__" = pure (some (.builtin id))) (hs:PY slice)
  (h:wpAny (model prog w) A (eval value env) (fun o s₁=>wpAny (model prog w) A (eval slice env) (fun i s₂=>s₂.TypeIs o T/\wpAny (model prog w) A (getItem o i) Q E s₂) E s₁) E s) :
  wpAny (model prog w) A (eval (.Subscript value slice pos) env) Q E s:=by
 refine Subscript_ (Uk h (fun o s₁ h₁=>Uk h₁ (fun i s₂ h₂=>?_) fun _ _ x=>x) fun _ _ x=>x)
 obtain⟨hT,h₂⟩:=h₂;unfold subscriptTail;refine j0 ?_;rw[getitemInPython_of_ne hT.not_modules];refine j0 (UL hT hl ?_);have fin:wpAny (model prog w) A (subscripted slice false o i) (fun r s₃=>wpAny (model prog w) A (letTemporaryGo value o r >>= fun _=>pure r) Q E s₃) E s₂:=by
  rw[hs o i];exact wpAny_operating (Uk h₂ (fun r s₃ h₃=>j0 (wpAny_letTemporaryGo (M7 h₃))) fun _ _ x=>x)
 first
  | exact M7 (j0 fin)
  | exact j0 (M7 (j0 fin))
  | exact j0 fin
variable{gV:List (Addr×Obj)}
theorem wq{σ:St}{s:Shared}{o:Option V}(I:Inv X gV σ H s)(g:jb H a y o):s.TypeIs (.ref a) "dict":=by
 rcases g with⟨kvs,k,e,_,_⟩ |⟨kvs,k,b,e,_,_,_⟩
 ·obtain⟨_,_,vs,_,dd⟩:=mW I.hok e;exact dd.typeIs
 ·obtain⟨_,_,xs,_,dd⟩:=wo I.hok e;exact dd.typeIs
def M5(td ty:TE):TE:=fun σ H Q=>td σ H fun x H1=>ty σ H1 fun y H2=>∃ a v,x = .ref a/\jb H2 a y (some v)/\Q v H2
def C2(td ty tv:TE):TS:=fun D σ H=>tv σ H fun v H1=>td σ H1 fun x H2=>ty σ H2 fun y H3=>∃ a H4,x = .ref a/\vd H3 a y v H4/\D.nx σ H4
section
variable{o i e:Expr}{pos pos' Rh:Pos}{td ty tv:TE}
theorem gL(hu:X.A.units+1<cLine)(ho:PE X o td)(hi:PE X i ty)(hs:PY i):PE X (.Subscript o i pos) (M5 td ty):=by
 intro gV s σ H Q I h;refine GB PySem.F.slot_dict_getitem.lookup hs (thn (ho gV s σ H _ I h) fun u s1 ⟨x,H1,I1,rx,q1⟩=>thn (hi gV s1 σ H1 _ I1 q1) fun iv s2 hPP=>?_)
 obtain⟨y,H2,I2,ry,a,v,ex,g,q2⟩:=hPP;subst ex;obtain rfl:u=Value.ref a:=rx;exact⟨wq I2 g,BZ hu I2 g ry fun w' s3 I3 rw'=>⟨v,H2,I3,rw',q2⟩⟩
theorem nH(hu:X.A.units+1<cLine)(ho:PE X o td)(hi:PE X i ty)(hv:PE X value tv)(hs:swapsWith value (some (.Subscript o i pos')) pos.line X.env=pure false) :
  PS X (.Assign [.Subscript o i pos'] value pos) (C2 td ty tv):=by
 intro gV s σ H D I h;refine wpAny_Assign_Subscript (thn (hv gV s σ H _ I h) fun r s1 ⟨v,H1,I1,rv,q1⟩=>thn (ho gV s1 σ H1 _ I1 q1) fun u s2 ⟨x,H2,I2,rx,q2⟩=>thn (hi gV s2 σ H2 _ I2 q2) fun iv s3 hPP=>?_) hs
 obtain⟨y,H3,I3,ry,a,H4,ex,g,q3⟩:=hPP;subst ex;obtain rfl:u=Value.ref a:=rx;exact BY hu I3 g ry rv fun s4 I4=>⟨σ,H4,I4,q3⟩
end
theorem Fc{w:World}(h:Heap)(hb:sysModules<h.objs.size):a5 P w H (h.push { cls:=.type "dict",data:=.dict #[] }) h.objs.size (.dK []) :=
 ⟨TX _,beq_eq_false_iff_ne.mpr (Ne.symm (Tf hb)),[],.nil,Heap.DictOf.new h⟩
def wX:List (TE×TE)->St->Hp ->(List (V×V)->Hp->Prop)->Prop
 | [],_,H,Q=>Q [] H
 | (tk,tv)::r,σ,H,Q=>tk σ H fun x H1=>tv σ H1 fun y H2=>wX r σ H2 fun ps H3=>Q ((x,y)::ps) H3
abbrev VV:List (V×V)->List (Value×Value)->Prop:=Paired fun p q=>RelV p.1 q.1/\RelV p.2 q.2
def PPs(X:Cx)(pos:Pos)(keys:List (Option Expr))(values:List Expr)(trs:List (TE×TE)):Prop :=
 ∀(gV:List (Addr×Obj))(s:Shared)(σ:St)(H:Hp)(Q:List (V×V)->Hp->Prop),Inv X gV σ H s->wX trs σ H Q ->
  wpAny (model X.prog X.w) X.A (evalPairs (pairTrees keys values X.env pos)) (fun vs s'=>∃ ps H',Inv X gV σ H' s'/\VV ps vs/\Q ps H') X.xe s
theorem zy{pos:Pos}:PPs X pos [] [] []:=fun gV s σ H Q I h=>pairTrees_nil_walk ⟨[],H,I,.nil,h⟩
variable{tk:TE}{tv:TE}
theorem kL{pos:Pos}{k v:Expr}{ks:List (Option Expr)}{vs:List Expr}{trs:List (TE×TE)}(hk:PE X k tk)(hv:PE X v tv)(hr:PPs X pos ks vs trs) :
  PPs X pos (some k::ks) (v::vs) ((tk,tv)::trs):=fun gV s σ H Q I h =>
 pairTrees_cons_walk (thn (hk gV s σ H _ I h) fun u s1 ⟨x,H1,I1,rx,q1⟩=>thn (hv gV s1 σ H1 _ I1 q1) fun w2 s2 ⟨y,H2,I2,ry,q2⟩ =>
  thn (hr gV s2 σ H2 _ I2 q2) fun ws s3 ⟨ps,H3,I3,rel,q3⟩=>⟨(x,y)::ps,H3,I3,.cons ⟨rx,ry⟩ rel,q3⟩)
def da(kvs more:List (Key×V)):List (Key×V):=more.foldl (fun acc kv=>putK acc kv.1 kv.2) kvs
theorem KV.merge:∀{more:List (Key×V)}{rs:List (Key×Value)}{kvs:List (Key×V)}{vs:List (Key×Value)},KV more rs->KV kvs vs->KV (da kvs more) (merged vs rs):=by
 intro more rs kvs vs r;unfold KV at r
 induction r generalizing kvs vs with
 | nil=>intro q;exact q
 | @cons p q ps qs h t ih =>
  intro r0;have e:KV (putK kvs p.1 p.2) (stored vs q.1 q.2):=by
   have:=r0.put p.1 h.2
   rw[<- h.1];exact this
  exact ih e
theorem dI:∀(more kvs:List (Key×V)),(da kvs more).length<=kvs.length+more.length
 | [],kvs=>by show kvs.length<=kvs.length+0;omega
 | p::r,kvs=>by
  have h1:=dI r (putK kvs p.1 p.2);have h2:=iM kvs p.1 p.2;show(da (putK kvs p.1 p.2) r).length<=_;rw[Te];omega
theorem pS{P:Program}{w:World}:∀{kvs:List (Key×V)}{ws:List (Value×Value)},VV (kvs.map fun kv=>(kV kv.1,kv.2)) ws->∃ rs,Carries (bh P w) ws rs/\KV kvs rs
 | [],_,r=>by rw[Vm]at r;cases r;exact⟨[],True.intro,.nil⟩
 | p::kvs,_,r=>by
  rw[Tx]at r;cases r with
  | @cons a b as bs h t =>
   obtain⟨rs,c,q⟩:=pS (P:=P) (w:=w) t;obtain⟨b1,b2⟩:=b;exact⟨(p.1,b2)::rs,⟨mV h.1,rfl,c⟩,.cons ⟨rfl,h.2⟩ q⟩
def JG(trs:List (TE×TE)):TE:=fun σ H Q=>∀ p,H p=none->wX trs σ (upd H p (.dK [])) fun ps H2=>H2 p=some (.dK [])/\∃ kvs:List (Key×V),ps=kvs.map (fun kv=>(kV kv.1,kv.2))/\kvs.length<=15/\Q (.ref p) (upd H2 p (.dK (da [] kvs)))
theorem zA{pos:Pos}{keys:List (Option Expr)}{values:List Expr}{trs:List (TE×TE)}(h:PPs X pos keys values trs)(Mf:keys.all (·.isSome)=true)(hl:keys.length=values.length)(h0:keys ≠ [])
  (h15:keys.length<=15):PE X (.Dict keys values pos) (JG trs):=by
 intro gV s σ H Q I q;have hn:=I.hok.fresh (S3 s.heap.objs.size);have I1:=I.laid (a:=s.heap.objs.size) (o:=.dK []) (h':=s.heap.push { cls:=.type "dict",data:=.dict #[] }) (t':=s.toks) (fun _ _ q=>j5 _ q) (S3 _) (Fc s.heap I.big)
 refine wpAny_Dict_walk (knd:=bh X.prog X.w) Mf hl h0 h15 (thn (h gV _ σ _ _ I1 (q _ hn)) fun ws s2 hPP=>?_)
 obtain⟨ps,H2,I2,rel,e,kvs,ep,lk,q2⟩:=hPP;subst ep;obtain⟨rs,c,rk⟩:=pS (P:=X.prog) (w:=X.w) rel;obtain⟨z,hd,vs0,r0,dd⟩:=Fb I2.hok e;cases r0;refine⟨rs,c,dd,fun h' dd' hs=>⟨.ref s.heap.objs.size,_,?_,rfl,q2⟩⟩
 have hz:(da [] kvs).length<=S4:=by
  have h1:=dI kvs [];rw[Ur]at h1;rw[UZ];omega
 have he:∃ q,h'.get? s.heap.objs.size=some q:=let⟨q,_,_,hq,_⟩:=dd';⟨q,hq⟩
 exact uv I2 (by rw[e];exact True.intro) hs he (pJ hz hd (rk.merge .nil) dd')
section
theorem B8:cI X (.builtin "len") (fun xs H Q=>∃ a kvs,xs = [V.ref a]/\H a=some (.dK kvs)/\Q (.int kvs.length) H):=by
 intro gV s σ H xs us Q I r h;obtain⟨a,kvs,rfl,ha,q⟩:=h;obtain⟨u,rfl,ru⟩:=vals1 r;cases ru;exact Ph I (.inl ha) fun t s' I'=>⟨.int kvs.length,H,I',⟨t,rfl⟩,q⟩
end
end L2
set_option maxHeartbeats 4000000
namespace L2
open PySem PySem.Spec PyProof.Rows
theorem oR{h:Heap}{a:Nat}{o:Obj}(e:h.get? a=some o):@LT.lt Nat _ a h.objs.size:=Sy e
theorem Ai{h:Heap}{a:Nat}{v:Option Value}(e:h.IsCell a v):@LT.lt Nat _ a h.objs.size:=e.lt
theorem kU{a b:Nat}(h:a<b):@Ne Addr a b:=Tf h
theorem Ov{a b:Nat}(h:b<a):@Ne Addr a b:=T8 h
theorem iW{env:Env}{body:Str×NameKind->List (Str×Addr)->Sem (ForInStep (List (Str×Addr)))}
  (hb:∀ n k c,body (n,k) c=if(k==NameKind.free)=true then(cellOf env n >>= fun a=>pure (.yield ((n,a)::c)))else pure (.yield c)) :
  ∀(l:List (Str×NameKind))(cs:List (Str×Addr)),(∀ p∈l,p.2=NameKind.free->∃ c,env.cells.lookup p.1=some c) ->
   ∃ cl,forIn l cs body=pure cl/\(∀ x c,cl.lookup x=some c->env.cells.lookup x=some c\/cs.lookup x=some c)/\(∀ x,(x,NameKind.free)∈l->∃ c,cl.lookup x=some c)/\∀ x c,cs.lookup x=some c->∃ c',cl.lookup x=some c'
 | [],cs,_=>⟨cs,rfl,fun _ _ h=>.inr h,fun _ h=>(nomatch h),fun _ c h=>⟨c,h⟩⟩
 | (n,k)::r,cs,h=>by
  have hr:∀ p∈r,p.2=NameKind.free->∃ c,env.cells.lookup p.1=some c:=fun p hp=>h p (SK _ hp)
  rw[U5,hb];by_cases hk:(k==NameKind.free)=true
  ·rw[if_pos hk];have hk':k = .free:=by simpa using hk
   obtain⟨c,hc⟩:=h (n,k) SG hk';have e1:cellOf env n=pure c:=by unfold cellOf;rw[hc]
   rw[e1];obtain⟨cl,e,h1,h2,h3⟩:=iW hb r ((n,c)::cs) hr;refine⟨cl,e,fun x c' hx=>?_,fun x hx=>?_,fun x c' hx=>?_⟩
   ·rcases h1 x c' hx with z|z
    ·exact .inl z
    ·by_cases e2:(x==n)=true
     ·have e3:x=n:=by simpa using e2
      subst e3;rw[Tv,e2]at z;cases z;exact .inl hc
     ·rw[Tv,Wb.mpr e2]at z;exact .inr z
   ·rcases S1.mp hx with z|z
    ·have e2:x=n:=congrArg Prod.fst z;exact h3 x c (by rw[Tv,e2,beq_self_eq_true])
    ·exact h2 x z
   ·by_cases e2:(x==n)=true
    ·exact h3 x c (by rw[Tv,e2])
    ·exact h3 x c' (by rw[Tv,Wb.mpr e2];exact hx)
  ·rw[if_neg hk];obtain⟨cl,e,h1,h2,h3⟩:=iW hb r cs hr;refine⟨cl,e,h1,fun x hx=>?_,h3⟩
   rcases S1.mp hx with z|z
   ·cases z;exact absurd rfl hk
   ·exact h2 x z
variable{scope:Scope}{env:Env}
theorem yt(h:∀ p∈scope.names,p.2=NameKind.free->∃ c,env.cells.lookup p.1=some c) :
  ∃ cl:List (Str×Addr),closureFor scope env=pure cl/\(∀ x c,cl.lookup x=some c->env.cells.lookup x=some c)/\∀ x,(x,NameKind.free)∈scope.names->∃ c,cl.lookup x=some c:=by
 obtain⟨cl,e,h1,h2,_⟩:=iW (env:=env) (body:=fun x c=>if(x.2==NameKind.free)=true then(cellOf env x.1 >>= fun a=>pure (.yield ((x.1,a)::c)))else pure (.yield c)) (fun _ _ _=>rfl) scope.names [] h
 refine⟨cl,?_,fun x c hx=>(h1 x c hx).elim id fun z=>by simp at z,h2⟩
 have e2:closureFor scope env =(forIn scope.names ([]:List (Str×Addr)) (fun x c=>if(x.2==NameKind.free)=true then(cellOf env x.1 >>= fun a=>pure (.yield ((x.1,a)::c)))else pure (.yield c)) >>= fun r=>pure r):=by
  simp only[closureFor]
 rw[e2,e];rfl
theorem fI{env:Env}:∀{names:List (Str×NameKind)}{x:Str}{k:NameKind},
  (names.map fun(n,k)=>if(k==NameKind.free&&env.scope.kind == .function&&env.kindOf n==some .cell)then(n,NameKind.cell)else(n,k)).lookup x=some k ->
   names.lookup x=some k\/(names.lookup x=some .free/\k = .cell)
 | [],_,_,h=>by simp at h
 | (n,k0)::r,x,k,h=>by
  have ih:=@fI env r x k
  replace h:UN x ((if(k0==NameKind.free&&env.scope.kind == .function&&env.kindOf n==some .cell)=true then(n,NameKind.cell)else(n,k0)) ::(r.map fun(n,k)=>if(k==NameKind.free&&env.scope.kind == .function&&env.kindOf n==some .cell)then(n,NameKind.cell)else(n,k)))=some k:=h
  cases hx:x==n with
  | true =>
   by_cases hc:(k0==NameKind.free&&env.scope.kind == .function&&env.kindOf n==some .cell)=true
   ·rw[if_pos hc]at h;simp only[Tv,hx]at h;cases h
    have:k0 = .free:=by
     simp only[To]at hc;simpa using hc.1.1
    subst this;exact .inr ⟨by simp only[Tv,hx],rfl⟩
   ·rw[if_neg hc]at h;simp only[Tv,hx]at h;exact .inl (by simp only[Tv,hx];exact h)
  | false =>
   have h':(r.map fun(n,k)=>if(k==NameKind.free&&env.scope.kind == .function&&env.kindOf n==some .cell)then(n,NameKind.cell)else(n,k)).lookup x=some k:=by
    by_cases hc:(k0==NameKind.free&&env.scope.kind == .function&&env.kindOf n==some .cell)=true
    ·rw[if_pos hc]at h;simpa only[Tv,hx]using h
    ·rw[if_neg hc]at h;simpa only[Tv,hx]using h
   rcases ih h' with z|z
   ·exact .inl (by simp only[Tv,hx];exact z)
   ·exact .inr (by simp only[Tv,hx];exact z)
theorem kE{env:Env}:∀{names:List (Str×NameKind)}{x:Str},names.lookup x=some .free ->
  (names.map fun(n,k)=>if(k==NameKind.free&&env.scope.kind == .function&&env.kindOf n==some .cell)then(n,NameKind.cell)else(n,k)).lookup x=some .free \/
  (names.map fun(n,k)=>if(k==NameKind.free&&env.scope.kind == .function&&env.kindOf n==some .cell)then(n,NameKind.cell)else(n,k)).lookup x=some .cell
 | [],_,h=>by simp at h
 | (n,k0)::r,x,h=>by
  have ih:=@kE env r x;show UN x ((if(k0==NameKind.free&&env.scope.kind == .function&&env.kindOf n==some .cell)=true then(n,NameKind.cell)else(n,k0))::_)=_\/UN x ((if(k0==NameKind.free&&env.scope.kind == .function&&env.kindOf n==some .cell)=true then(n,NameKind.cell)else(n,k0))::_)=_
  cases hx:x==n with
  | true =>
   simp only[Tv,hx]at h;cases h;by_cases hc:(NameKind.free==NameKind.free&&env.scope.kind == .function&&env.kindOf n==some .cell)=true
   ·rw[if_pos hc];simp only[Tv,hx];exact .inr trivial
   ·rw[if_neg hc];simp only[Tv,hx];exact .inl trivial
  | false =>
   simp only[Tv,hx]at h;by_cases hc:(k0==NameKind.free&&env.scope.kind == .function&&env.kindOf n==some .cell)=true
   ·rw[if_pos hc];simp only[Tv,hx];exact ih h
   ·rw[if_neg hc];simp only[Tv,hx];exact ih h
inductive lE(X:Cx)(sc:Scope):List Str->List (Option Nat)->Prop
 | nil:lE X sc [] []
 | own{x:Str}{N:List Str}{c:List (Option Nat)}:sc.names.lookup x=some .local->lE X sc N c->lE X sc (x::N) (none::c)
 | got{x:Str}{i:Nat}{N:List Str}{c:List (Option Nat)}:X.N[i]? = some x->sc.names.lookup x=some .free ->(X.env.kindOf x=some .cell\/X.env.kindOf x=some .free)->lE X sc N c->lE X sc (x::N) (some i::c)
def lg(c:List (Option Nat))(σ:St):St:=c.map fun o=>o.bind fun(i:Nat)=>(σ[i]?).join
variable{X:Cx}{sc:Scope}{N:List Str}
theorem lE.len{c:List (Option Nat)}{σ:St}(h:lE X sc N c):(lg c σ).length=N.length:=by
 unfold lg;rw[j3]
 induction h with
 | nil=>rfl
 | own _ _ ih=>simp[ih]
 | got _ _ _ _ ih=>simp[ih]
theorem lE.at{X:Cx}{sc:Scope}{N:List Str}{c:List (Option Nat)}{σ:St}(h:lE X sc N c):∀{j:Nat}{x:Str}{v:V},N[j]? = some x ->(lg c σ)[j]? = some (some v) ->
  ∃ i:Nat,X.N[i]? = some x/\σ[i]? = some (some v)/\sc.names.lookup x=some .free/\(X.env.kindOf x=some .cell\/X.env.kindOf x=some .free):=by
 induction h with
 | nil=>intro j x v h1;simp at h1
 | own _ _ ih =>
  intro j x v h1 h2;cases j with
  | zero=>simp[lg]at h2
  | succ j=>exact ih (by simpa using h1) (by simpa [lg]using h2)
 | @got y i N c g1 g2 g3 _ ih =>
  intro j x v h1 h2;cases j with
  | zero =>
   have e:y=x:=by simpa using h1
   subst e;refine⟨i,g1,?_,g2,g3⟩;have h2':(σ[i]?).join=some v:=by simpa [lg]using h2
   cases q:σ[i]? with
   | none=>rw[q]at h2';cases h2'
   | some o =>
    rw[q]at h2'
    have:o=some v:=h2'
    rw[this]
  | succ j=>exact ih (by simpa using h1) (by simpa [lg]using h2)
def blk(X:Cx)(N':List Str)(sc:Scope)(cl:List (Str×Addr))(C:Addr)(s₂:Shared)(H₂:Hp)(fp:List Addr):Cx :=
 { X with N:=N',s₀:=s₂,H₀:=H₂,env:=compEnvC sc cl C X.env,outer:=X.stack,ex:=fp,fn:=fun _=>false,pn:=[],xe:=fun _ _=>False }
def PTs(X:Cx)(ifs:List Expr)(t:TT):Prop :=
 ∀(gV:List (Addr×Obj))(s:Shared)(σ:St)(H:Hp)(Q:Bool->Hp->Prop),Inv X gV σ H s->t σ H Q ->
  wpAny (model X.prog X.w) X.A (forIn ifs true fun c r=>if r=true then do let ok <- isTrue c X.env (eval c X.env);pure (ForInStep.yield ok)else pure (ForInStep.yield r)) (TP X gV σ Q) X.xe s
def y0:TT:=fun _ H Q=>Q true H
theorem zv:PTs X [] y0:=fun _ _ _ H _ I h=>wpAny_tests_nil ⟨H,I,h⟩
theorem zu{c:Expr}{t:TT}(h:PT X c t):PTs X [c] t:=fun gV s σ H Q I q=>wpAny_tests_one (h gV s σ H Q I q)
def Kl(g:TG)(tst:TT)(te:TE)(σ0:St)(Q:VK)(J:It)(H1:Hp):Prop :=
 ∃ W:Nat->Nat->List V->St->Hp->Prop,(∃ m,W 0 m [] σ0 H1)/\∀ i m ys σ' H',W i m ys σ' H' ->
  (J.stop i H'/\ys.length<=S4/\∀ D,H' D=none->Q (.ref D) (upd H' D (.lst ys))) \/
  (J.go i H'/\ys.length<S4/\∃ N:List V->St->Hp->Prop,(∀ ys2 σ2 H2,N ys2 σ2 H2->∃ m',m'<m/\W (i+1) m' ys2 σ2 H2)/\∀ x H2,J.yld i H' x H2->g x σ' H2 fun σ2 H3=>tst σ2 H3 fun b H4 =>
   if b=true then te σ2 H4 fun y H5=>N (ys ++ [y]) σ2 H5 else N ys σ2 H4)
def q9(cap:List (Option Nat))(wi:TI)(g:TG)(tst:TT)(te:TE):TE:=fun σ H Q=>wi σ H (Kl g tst te (lg cap σ) Q)
variable{prog:Program}{A:Around}{R:Result->Shared->Prop}{elt:Expr}{iter:Expr}{ifs:List Expr}
theorem B4{w:World}{s:Shared}{target:Expr}{pos:Pos}{it acc:Value}(I:Nat->Shared->Prop)
  (turn:∀ n s,I n s->wpAny (model prog w) A (pyNext it) (fun r s₁=>match r with
   | none=>R (.ok .next) s₁
   | some v=>wpAny (model prog w) A (letOwnedTupleGo target it v) (fun _ s₁'=>wpAny (model prog w) A (assign target env v) (fun _ s₂ =>
     wpAny (model prog w) A (forIn ifs true fun c r=>if r=true then do let ok <- isTrue c env (eval c env);pure (ForInStep.yield ok)else pure (ForInStep.yield r)) (fun ok s₃ =>
      if ok=true then wpAny (model prog w) A (eval elt env) (fun x s₄ =>
       wpAny (model prog w) A (call (.builtin "list.append") [acc,x]) (fun _ s₅=>∃ m,m<n/\I m s₅) (fun _ _=>False) s₄) (fun _ _=>False) s₃
      else ∃ m,m<n/\I m s₃) (fun _ _=>False) s₂) (fun _ _=>False) s₁') (fun _ _=>False) s₁) (fun _ _=>False) s)
  (n:Nat) (h:I n s) :
  codeAny (model prog w) A (.compLoop (.ListComp elt [⟨target,iter,ifs,0⟩] scope pos) 0 it acc env) R s:=by
 refine codeAny_loop rfl I (fun n s hI=>?_) n h
 show wpAny _ A ((compTurn (.ListComp elt [⟨target,iter,ifs,0⟩] scope pos) 0 it acc env).onRaise (fun x=>do noteFrame x env;theTreesLotGoes x)) _ _ s
 refine wpAny_noted ?_;rw[compTurn_list];refine j0 (wpAny_standAt (j0 (Uk (turn n s hI) (fun r s₁ h₁=>?_) fun _ _ h'=>h'.elim)))
 cases r with
 | none=>exact M7 h₁
 | some v =>
  refine j0 (Uk h₁ (fun _ s₁' h₁'=>?_) fun _ _ h'=>h'.elim)
  refine j0 (Uk h₁' (fun _ s₂ h₂=>j0 (Uk h₂ (fun ok s₃ h₃=>?_) fun _ _ h'=>h'.elim)) fun _ _ h'=>h'.elim)
  cases ok with
  | false=>exact M7 ⟨rfl,h₃⟩
  | true =>
   exact j0 (j0 (Uk h₃ (fun x s₄ h₄=>j0 (Uk h₄ (fun _ s₅ h₅=>M7 (M7 ⟨rfl,h₅⟩)) fun _ _ h'=>h'.elim)) fun _ _ h'=>h'.elim))
variable{gV:List (Addr×Obj)}{H:Hp}{tg:Expr}{N':List Str}{cap:List (Option Nat)}{tst:TT}{te:TE}
theorem wz{σ:St}{s:Shared}{Q:VK}{p pos:Pos}{wi:TI}{g:TG}{use:Option (Value->Sem Unit)}{Q':Value->Shared->Prop}
  (hc:X.calm=true) (hi:PI X tg iter wi) (gn:sc.kind = .function) (gp:∀ y∈sc.names,y.2 ≠ .cell) (gS:∀ y∈sc.names,y.2 = .local->sc.names.lookup y.1=some .local)
  (g6:∀ y∈sc.names,y.2 = .free->X.env.kindOf y.1=some .cell\/X.env.kindOf y.1=some .free) (qK:lE X sc N' cap)
  (hb:∀ cl C s₂ H₂ fp,PG (blk X N' sc cl C s₂ H₂ fp) tg g/\PTs (blk X N' sc cl C s₂ H₂ fp) ifs tst/\PE (blk X N' sc cl C s₂ H₂ fp) elt te)
  (I:Inv X gV σ H s) (h:q9 cap wi g tst te σ H Q)
  (fin:∀ D C m H' s',Inv X gV σ H' s'->qj X gV H' C->s'.heap.Ns C m->Q (.ref D) H'->compPost (model X.prog X.w) X.A X.xe use Q' (.ref D) C (.ok .next) s')
  (hs:∀ x,foldedSetIterable iter X.env x=pure x) :
  wpAny (model X.prog X.w) X.A (comprehension (.ListComp elt [⟨tg,iter,ifs,0⟩] sc pos) sc X.env p (newList []) false (eval iter X.env) use) Q' X.xe s:=by
 obtain⟨cl,OY,wj,OZ⟩:=yt (scope:=sc) (env:=X.env) fun q hq e=>I.ok.has q.1 (g6 q hq e)
 refine wpAny_comprehension_free rfl hs OY gn gS (thn (hi gV s σ H _ I h) fun v s1 h1=>thn h1 fun itv s2 h2=>?_)
 obtain⟨it,fp,tn,J,H2,e,I2,T,st2,f2,W,⟨m0,w0⟩,turn⟩:=h2;subst e;refine TK (wpAny_newFunctionEnv gp (by intro y hy;simp at hy) (fun h₁ IE ET=>?_) gn)
 dsimp only at IE ET ⊢
 generalize hHP:s2.heap.push { cls:=.type "list",dict:=none,data:=.seq ([]:List Value).toArray }=HP at IE ET ⊢
 have hC:HP.objs.size=s2.heap.objs.size+1:=by rw[<- hHP,Tw]
 obtain⟨D,hDn⟩:∃ D:Nat,s2.heap.objs.size=D:=⟨_,rfl⟩
 obtain⟨C,hCn⟩:∃ C:Nat,HP.objs.size=C:=⟨_,rfl⟩
 rw[hDn]at hC;rw[hCn]at hC IE ET ⊢;rw[hDn];have hDC:@Ne Addr D C:=kU (by omega)
 have old:∀ b o,s2.heap.get? b=some o->h₁.get? b=some o:=fun b o e =>
  ET.extBut b o (kU (by have:=oR e;omega)) (j5 _ (hHP▸j5 _ e))
 have fk:h₁.get? D=some { cls:=.type "list",data:=.seq ([]:List Value).toArray 0 } :=
  ET.extBut _ _ hDC (j5 _ (by rw[<- hHP,<- hDn];exact S2 _ rfl))
 have okB:(blk X N' sc cl C s2 H2 fp).Ok:=by
  refine⟨I.ok.mod,gn,I.ok.glob,I.ok.blt,(by show s2.heap.objs.size<=C;omega),fun x y c h1 h2=>I.ok.inj x y c (wj x c h1) (wj y c h2),fun x hx=>?_,fun x c hx=>(nomatch hx),I.ok.hd,I.ok.frames,.inl rfl,fun b hb=>?_,
   fun b o e=>I2.bs b o e,Tn I2.ok.bsz I2.sz,fun b o e hb=>?_,fun b hb=>?_,I2.stack,I2.y8⟩
  ·have hx':sc.names.lookup x=some .free:=by
    rcases hx with hx|hx
    ·rcases fI hx with z|z
     ·exact absurd rfl (gp _ (PySem.mem_of_lookup z))
     ·exact z.1
    ·rcases fI hx with z|z
     ·exact z
     ·exact z.1
   exact OZ x (PySem.mem_of_lookup hx')
  ·obtain⟨o,ho,_⟩:=T.obj _ _ st2 b hb;refine⟨?_,fun x c e=>(f2 b hb).2.2.2.2.1 x c (wj x c e)⟩
   show @Ne Addr b C
   have:=oR ho
   exact kU (by omega)
  ·obtain⟨_,_,_,z,_⟩:=f2 b hb;rcases z with z|z
   ·exact I2.ok.Eo b o e z
   ·have:=oR (show X.base.get? b=some o from e)
    have:=I2.ok.bsz
    omega
  ·intro hb';rcases S1.mp (I2.se b hb')with z|z
   ·exact(f2 b hb).2.1 z
   ·exact(f2 b hb).2.2.1 z
 have nD:H2 D=none:=I2.hok.fresh (by rw[hDn];exact S3 _)
 have hb0:=hb cl C s2 H2 fp
 generalize hXB:blk X N' sc cl C s2 H2 fp=XB at okB hb0
 have eP:XB.prog=X.prog:=by rw[<- hXB];rfl
 have eW:XB.w=X.w:=by rw[<- hXB];rfl
 have eK:XB.K=X.K:=by rw[<- hXB];rfl
 have eA:XB.A=X.A:=by rw[<- hXB];rfl
 have eE:XB.env=compEnvC sc cl C X.env:=by rw[<- hXB];rfl
 have eX:XB.xe=fun _ _=>False:=by rw[<- hXB];rfl
 have eFs:XB.fs=frs X.stack:=by rw[<- hXB];rfl
 have eEx:XB.ex=fp:=by rw[<- hXB];rfl
 have eS:XB.s₀=s2:=by rw[<- hXB];rfl
 have eH:XB.H₀=H2:=by rw[<- hXB];rfl
 have ePn:XB.pn = []:=by rw[<- hXB];rfl
 have eCa:XB.calm=true:=by rw[<- hXB];exact hc
 have eN:XB.N=N':=by rw[<- hXB];rfl
 have eL:XB.env.locals=C:=by rw[eE];rfl
 have eCl:XB.env.cells=cl:=by rw[eE];rfl
 have Sn:∀(x:Str)(c:Nat),cl.lookup x=some c->c<D:=fun x c e=>by
  obtain⟨v,z⟩:=I2.cell x c (wj x c e)
  have:=Ai z
  omega
 have nfs:∀(b:Nat),D<=b->b ∉ XB.fs:=fun b hb z=>by
  rw[eFs]at z;obtain⟨_,o,ho,_⟩:=I2.stack.mem z
  have:=oR ho
  omega
 have fpD:∀(b:Nat),b∈fp->b<D:=fun b hb=>by
  obtain⟨o,ho,_⟩:=T.obj _ _ st2 b hb
  have:=oR ho
  omega
 have loop:∀ s3:Shared,s3 ={ s2 with heap:=h₁,toks:=s2.toks+([]:List (Str×Value)).length } ->
   codeAny (model X.prog X.w) X.A (.compLoop (.ListComp elt [⟨tg,iter,ifs,0⟩] sc pos) 0 (.ref it) (.ref D) (compEnvC sc cl C X.env)) (compPost (model X.prog X.w) X.A X.xe use Q' (.ref D) C) s3:=by
  rintro s3 rfl
  refine B4 (fun n s'=>∃ i ys σ' H' its k,Inv XB [] σ' H' s'/\tn i s'.heap/\(∀ b∈fp,H' b=none)/\H' D=none/\s'.heap.get? D=some { cls:=.type "list",data:=.seq (its:List Value).toArray k }/\Vals ys its/\W i n ys σ' H') ?_ m0
   ⟨0,[],lg cap σ,H2,[],0,?_,T.keep _ _ _ st2 fun b hb o e=>old b o e,fun b hb=>(f2 b hb).1,nD,fk,.nil,w0⟩
  ·rintro n s4 ⟨i,ys,σ4,H4,its,k,I4,st4,fr4,d4,o4,v4,w4⟩
   have fpk:∀{H':Hp}{pl:List (Addr×Obj)},(∀ b∈fp,H' b=none) ->(∀ q∈pl,q.1 ∉ fp)->∀ b∈fp,qj XB pl H' b:=fun{H' pl} hn hpl b hb=>by
    refine⟨hn b hb,?_,?_,.inl (by rw[eEx];exact hb),fun x c e=>?_,fun q hq=>?_⟩
    ·rw[eL];have:=fpD b hb;exact kU (by omega)
    ·rw[eFs];intro z;rcases S1.mp (I2.se b z)with z|z
     ·exact(f2 b hb).2.1 z
     ·exact(f2 b hb).2.2.1 z
    ·rw[eCl]at e;exact(f2 b hb).2.2.2.2.1 x c (wj x c e)
    ·rw[ePn]at hq;intro z;exact hpl q (by simpa using hq) (z▸hb)
   have pD:∀ q ∈ [(D,({ cls:=.type "list",data:=.seq its.toArray k }:Obj))],q.1 ∉ fp:=fun q hq=>by
    have e:q=_:=qr.mp hq;subst e;intro z
    have:=fpD _ z
    omega
   have I4':Inv XB [(D,{ cls:=.type "list",data:=.seq its.toArray k })] σ4 H4 s4:=I4.kM fun q hq=>by
    have e:q=_:=qr.mp hq;subst e;refine⟨o4,d4,?_,nfs _ (S3 _),fun v=>by simp⟩
    rw[eL];exact hDC
   have S0:=I4';rw[<- eA,<- eP,<- eW];rcases turn i n ys σ4 H4 w4 with⟨stop,hz,qn⟩ |⟨go,hz,N,hN,step⟩
   ·rw[<- eP,<- eW,<- eK]at T;refine Uk (T.done XB rfl rfl rfl eCa i _ s4 σ4 H4 (fun _ _=>False) I4' (fpk fr4 pD) st4 stop) (fun r s5 ⟨hr,I5⟩=>?_) fun _ _ z=>z
    subst hr;rw[eP,eW,eA];obtain⟨o5,n5,_⟩:=I5.pin (D,{ cls:=.type "list",data:=.seq its.toArray k }) (Tc _ (qr.mpr rfl));have u5:Un (frs X.stack) fp H2 H4 s2.heap s5.heap:=by
     have z:=I5.base;rw[eFs,eEx,eH,eS]at z;exact z
    have lt2:∀ b o,s2.heap.get? b=some o -> @Ne Addr b D:=fun b o e=>kU (by have:=oR e;omega)
    have ne5:∀ b u,H4 b=some u->b≠D:=fun b u e z=>by rw[z,d4]at e;cases e
    have hk5:HOk X.prog X.w H4 s5.heap:=by
     have z:=I5.hok;rw[eP,eW]at z;exact z
    have Si:=fin D C;obtain⟨mC,hNs,_⟩:=id I5.loc;rw[eL]at hNs;have IX:Inv X gV σ (upd H4 D (.lst ys)) s5:=by
     refine I2.Pu (s':=s5) (ch:=fp) ?_ ⟨u5.keep,u5.slot,fun b o e n hx=>?_,u5.there,fun b xs e=>?_,fun b o u e=>?_,fun b ps e=>?_⟩ ?_ I5.bare fun b hb=>⟨(f2 b hb).2.2.2.1,(f2 b hb).2.1,(f2 b hb).2.2.2.2.1,(f2 b hb).2.2.2.2.2⟩
     ·have z:=I5.os;rw[eS]at z;exact z
     ·rw[ao (lt2 b o e)];exact u5.free b o e n hx
     ·have z:=u5.nV b xs e;rw[ao (ne5 b _ z)];exact z
     ·have z:=u5.j9 b o u e;rw[ao (ne5 b _ z)];exact z
     ·obtain⟨more,z⟩:=u5.nW b ps e;exact⟨more,by rw[ao (ne5 b _ z)];exact z⟩
     ·intro a o e;by_cases ha:a=D
      ·subst ha;rw[ax]at e;cases e;exact⟨hz,its,k,v4,o5⟩
      ·rw[ao ha]at e;exact(hk5 a o e).cY (fun _ _ _ q=>q) (fun b q=>by rw[ao (ne5 b _ q)];exact q) fun b xs q=>by rw[ao (ne5 b _ q)];exact q
    refine Si mC _ s5 IX ?_ hNs (qn D d4);have hCN:H4 C=none:=by
     have z:=I5.free;rw[eL]at z;exact z
    refine⟨by rw[ao (Ne.symm hDC)];exact hCN,?_,?_,.inr ?_,fun x c e=>?_,fun q hq=>?_⟩
    ·have:@LT.lt Nat _ X.env.locals s2.heap.objs.size:=I2.lt
     exact Ov (by omega)
    ·exact I2.Ou (by rw[hDn];omega)
    ·have:=I2.sz;omega
    ·obtain⟨v,z⟩:=I2.cell x c e
     have:=Ai z
     exact kU (by omega)
    ·have:=oR (I2.pin q hq).1
     exact kU (by omega)
   ·have T':=T;rw[<- eP,<- eW,<- eK]at T';refine Uk (T'.item XB rfl rfl rfl eCa i _ s4 σ4 H4 (fun _ _=>False) I4' (fpk fr4 pD) st4 go) (fun r s5 ⟨u,hr,h5⟩=>?_) fun _ _ z=>z
    subst hr;refine thn h5 fun _ s6 hPP=>?_
    obtain⟨x,H6,I6,r6,y6,st6,fr6⟩:=hPP;have I6':=I6.pinned (fpk fr6 pD) (T.obj _ _ st6);obtain⟨hg0,ht0,he0⟩:=hb0;rw[<- eE];have hgo:=hg0 _ s6 σ4 H6 x u _ I6' r6 (step x H6 y6);rw[eX]at hgo;refine thn hgo fun _ s7 hPP=>?_
    obtain⟨σ7,H7,I7,q7⟩:=hPP;have hto:=ht0 _ s7 σ7 H7 _ I7 q7;rw[eX]at hto;refine thn hto fun b s8 hPP=>?_
    obtain⟨H8,I8,q8⟩:=hPP;have back:∀{σ9:St}{H9:Hp}{s9:Shared},Inv XB ([(D,{ cls:=.type "list",data:=.seq its.toArray k })]++oG fp s6.heap) σ9 H9 s9->tn (i+1) s9.heap/\(∀ b∈fp,H9 b=none)/\H9 D=none/\s9.heap.get? D=some { cls:=.type "list",data:=.seq its.toArray k }:=fun{σ9 H9 s9} I9=>by
     have z:=I9.pin (D,{ cls:=.type "list",data:=.seq its.toArray k }) (Tc _ (Tj _ (qr.mpr rfl)));refine⟨T.keep _ _ _ st6 fun b hb o e=>(I9.pin (b,o) (Tc _ (Tc _ (fe hb e)))).1,fun b hb=>?_,z.2.1,z.1⟩
     obtain⟨o,e,_⟩:=T.obj _ _ st6 b hb;exact(I9.pin (b,o) (Tc _ (Tc _ (fe hb e)))).2.1
    cases b with
    | false =>
     rw[if_neg Ta]at q8 ⊢;obtain⟨m',hm,w8⟩:=hN _ _ _ q8;obtain⟨t1,t2,t3,t4⟩:=back I8;exact⟨m',hm,i+1,ys,σ7,H8,its,k,I8.kM (fun q hq=>nomatch hq),t1,t2,t3,t4,v4,w8⟩
    | true =>
     rw[if_pos rfl]at q8 ⊢;have heo:=he0 _ s8 σ7 H8 _ I8 q8;rw[eX]at heo;refine thn heo fun yv s9 hPP=>?_
     obtain⟨y,H9,I9,r9,n9⟩:=hPP;obtain⟨m',hm,w9⟩:=hN _ _ _ n9;obtain⟨t1,t2,t3,t4⟩:=back I9;have hsz:its.toArray.size<=S4:=by
      have e:=v4.length;have e2:its.toArray.size=its.length:=by simp
      omega
     refine append_at (hsz:=hsz) t4 fun h' hs' hD'=>?_
     ·refine⟨m',hm,i+1,ys ++ [y],σ7,H9,its ++ [yv],k+1,?_,T.keep _ _ _ t1 fun b hb o e=>hs'.extBut b o (kU (fpD b hb)) e,t2,t3,?_,v4.append (.cons r9 .nil),w9⟩
      ·refine(I9.kM (pins':=[]) (fun q hq=>nomatch hq)).turned (t':=s9.toks) (it:=D) (fun b o hb e=>hs'.extBut b o hb e) t3 ?_ (.inr ?_) (fun x c e=>?_) fun q hq=>?_
       ·rw[eL];exact hDC
       ·rw[eS];omega
       ·rw[eCl]at e;exact kU (Sn x c e)
       ·rw[ePn]at hq;exact nomatch hq
      ·rw[hD'];simp
  ·
   refine⟨okB,by rw[eS],I2.bare,by rw[eFs,eEx,eH,eS];exact Un.kept old,⟨_,by rw[eL];exact IE,fun j x v h1 h2 h3=>?_⟩,fun x c e=>?_,?_,fun x c e=>?_,fun q hq=>?_,by rw[eP,eW];exact I2.hok.kept old,by rw[eN];exact qK.len⟩
   ·rw[eN]at h1;obtain⟨i,g1,g2,g3,g4⟩:=qK.at h1 h2;obtain⟨m,hn,hl⟩:=I2.loc;have hv:Vis X.env.scope x:=by
     rcases g4 with z|z
     ·exact .inr (.inl z)
     ·exact .inr (.inr z)
    obtain⟨u,r,l⟩:=hl i x v g1 g2 hv;refine⟨u,r,.inr ⟨?_,?_⟩⟩
    ·rw[eE];exact(kE g3).symm
    ·rcases l with⟨hk,_⟩ |⟨_,c,e,z⟩
     ·rcases g4 with y|y
      ·rw[y]at hk;cases hk
      ·rw[y]at hk;cases hk
     ·obtain⟨c',e'⟩:=OZ x (PySem.mem_of_lookup g3)
      have:=wj x c' e'
      rw[e]at this;cases this;obtain⟨o,ho,hd⟩:=z;exact⟨c,by rw[eCl];exact e',o,old c o ho,hd⟩
   ·rw[eCl]at e;obtain⟨v,o,ho,hd⟩:=I2.cell x c (wj x c e);exact⟨v,o,old c o ho,hd⟩
   ·rw[eL];exact I2.hok.fresh (by rw[hDn];omega)
   ·rw[eCl]at e;exact I2.eQ x c (wj x c e)
   ·rw[ePn]at hq;exact nomatch hq
 exact codeAny_compStart_list (loop _ rfl) (T.self X.A 0 _ _ _ (T.keep _ _ _ st2 fun b hb o e=>old b o e) (loop _ rfl))
theorem zY(h:(sc.names.all fun y=>y.2 != .free ||(X.env.kindOf y.1==some .cell||X.env.kindOf y.1==some .free))=true) :
  ∀ y∈sc.names,y.2 = .free->X.env.kindOf y.1=some .cell\/X.env.kindOf y.1=some .free:=fun y hy e=>by
 have z:=T9.mp h y hy;rw[e]at z;simpa using z
theorem zB{pos:Pos}{wi:TI}{g:TG}
  (hc:X.calm=true) (hi:PI X tg iter wi) (qK:lE X sc N' cap)
  (hb:∀ cl C s₂ H₂ fp,PG (blk X N' sc cl C s₂ H₂ fp) tg g/\PTs (blk X N' sc cl C s₂ H₂ fp) ifs tst/\PE (blk X N' sc cl C s₂ H₂ fp) elt te)
  (gn:sc.kind = .function:=by rfl) (gp:∀ y∈sc.names,y.2 ≠ .cell:=by decide) (gS:∀ y∈sc.names,y.2 = .local->sc.names.lookup y.1=some .local:=by decide)
  (g6:(sc.names.all fun y=>y.2 != .free ||(X.env.kindOf y.1==some .cell||X.env.kindOf y.1==some .free))=true:=by rfl)
  (hs:∀ x,foldedSetIterable iter X.env x=pure x:=by intro _;rfl):PE X (.ListComp elt [⟨tg,iter,ifs,0⟩] sc pos) (q9 cap wi g tst te):=by
 intro gV s σ H Q I h;rw[eval_ListComp];refine wz (use:=none) hc hi gn gp gS (zY g6) qK hb I h (fun D C m H' s' I' f' hn q=>?_) hs
 refine⟨m,hn,fun h' hs'=>⟨.ref D,H',?_,rfl,q⟩⟩
 exact I'.turned (t':=s'.toks) (it:=C) (fun b o hb e=>hs'.extBut b o hb e) f'.1 f'.2.1.symm.symm f'.2.2.2.1 f'.2.2.2.2.1 f'.2.2.2.2.2
variable{fE:Pos}{py:Pos}
theorem zx{i:Nat}{y:Str}{pos:Pos}{wi:TI}{g:TG}
  (hN:X.N.Nodup) (hi':X.N[i]? = some y) (hy:Loc X.env.scope y)
  (hc:X.calm=true) (hi:PI X tg iter wi) (qK:lE X sc N' cap)
  (hb:∀ cl C s₂ H₂ fp,PG (blk X N' sc cl C s₂ H₂ fp) tg g/\PTs (blk X N' sc cl C s₂ H₂ fp) ifs tst/\PE (blk X N' sc cl C s₂ H₂ fp) elt te)
  (hsw:swapsWith (.ListComp elt [⟨tg,iter,ifs,0⟩] sc pos) (some (.Name y py)) fE.line X.env=pure true:=by rfl)
  (hf:X.fn y=true\/X.env.scope.names.lookup y=some .local:=by first|exact .inl rfl|exact .inr rfl|assumption)
  (gn:sc.kind = .function:=by rfl) (gp:∀ y∈sc.names,y.2 ≠ .cell:=by decide) (gS:∀ y∈sc.names,y.2 = .local->sc.names.lookup y.1=some .local:=by decide)
  (g6:(sc.names.all fun y=>y.2 != .free ||(X.env.kindOf y.1==some .cell||X.env.kindOf y.1==some .free))=true:=by rfl)
  (hs:∀ x,foldedSetIterable iter X.env x=pure x:=by intro _;rfl):PS X (.Assign [.Name y py] (.ListComp elt [⟨tg,iter,ifs,0⟩] sc pos) fE) (gD (q9 cap wi g tst te) (fA i)):=by
 intro gV s σ H Dn I h;rw[exec_Assign_Name_used _ _ _ _ hsw];refine j0 (wpAny_standAt (j0 ?_));show wpAny _ X.A (do let _ <- comprehension (.ListComp elt [⟨tg,iter,ifs,0⟩] sc pos) sc X.env _ (newList []) false (eval iter X.env) (some (assign (.Name y py) X.env))) _ _ s
 refine j0 (Uk (wz (use:=some (assign (.Name y py) X.env)) (Q:=fun x H1=>Dn.nx (σ.set i (some x)) H1) (Q':=fun _ s'=>SP X gV Dn .next s') hc hi gn gp gS (zY g6) qK hb I h (fun D C m H' s' I' f' hn q=>?_) hs)
  (fun _ s' hq=>M7 (M7 hq)) fun _ _ e=>e)
 obtain⟨o,es,ep,ho,hd,hr⟩:=id hn;have I2:=I'.pinned (fp:=[C]) (fun b hb=>by rw[qr.mp hb];exact f') fun b hb=>by
  rw[qr.mp hb];exact⟨o,ho,fun v=>by rw[hd];simp⟩
 refine wpAny_assign_Name (iu I2 hN hi' hy (v:=.ref D) rfl (fun s2 I3=>?_) hf)
 have z:=(I3.pin (C,o) (Tc _ (Tc _ (fe (qr.mpr rfl) ho)))).1;refine⟨m,⟨o,es,ep,z,hd,hr⟩,fun h' hs'=>⟨_,H',?_,q⟩⟩
 exact I3.kA.turned (t':=s2.toks) (it:=C) (fun b o hb e=>hs'.extBut b o hb e) f'.1 f'.2.1 f'.2.2.2.1 f'.2.2.2.2.1 f'.2.2.2.2.2
variable{a:Addr}
section
theorem rM{K:W.Frag}{xs:List V}{g:TG}{σ:St}{Q:VK}(Pv:Nat->List V->St->Hp->Prop)(h0:Pv 0 [] σ H)
  (hl:∀ i ys σ H,i<=xs.length->Pv i ys σ H->SqL K H a xs/\ys.length<S4)
  (hs:∀ i x ys σ H,xs[i]? = some x->Pv i ys σ H->g x σ H fun σ2 H3=>tst σ2 H3 fun b H4=>if b=true then te σ2 H4 fun y H5=>Pv (i+1) (ys ++ [y]) σ2 H5 else Pv (i+1) ys σ2 H4)
  (hd:∀ ys σ H,Pv xs.length ys σ H->∀ D,H D=none->Q (.ref D) (upd H D (.lst ys))) :
  Kl g tst te σ Q (Itl K a) H:=by
 refine⟨fun i m ys σ H=>m=xs.length - i/\i<=xs.length/\Pv i ys σ H,⟨xs.length,by simp,TX _,h0⟩,?_⟩
 rintro i m ys σ H ⟨rfl,hi,p⟩
 obtain⟨q,hz⟩:=hl i ys σ H hi p;by_cases hlt:i<xs.length
 ·refine .inr ⟨⟨xs,xs[i],q,by simp[hlt]⟩,hz,Pv (i+1),fun ys' σ' H' p'=>⟨xs.length - (i+1),by omega,rfl,hlt,p'⟩,fun x H' y=>?_⟩
  obtain⟨e,y⟩:=y;subst e;exact hs i x ys σ _ (y xs q) p
 ·have e:i=xs.length:=by omega
  subst e;exact .inl ⟨⟨xs,q,S3 _⟩,Tr hz,hd ys σ H p⟩
def Nl:V->Option Int->Option Int->Hp->VK->Prop:=fun x lo hi H Q=>∃ z,x = .str z/\z.length<=S4/\Q (.str (Txt.slice z lo hi)) H
theorem Kz:SlR X Nl:=by
 intro gV s σ H x v vl vu lo hi sl Q I rx hs pl pu h;obtain⟨z,rfl,hz,q⟩:=h;obtain⟨t,rfl⟩:=rx;refine⟨"str",_,PySem.F.slot_str_getitem.lookup,typeIs_str s z t,?_⟩;obtain⟨o,h1,h2,h3⟩:=hs;have fin:∀(y:Str)(t' k:Nat),y=Txt.slice z lo hi->EP X gV σ Q (.str y t') { s with toks:=k }:=fun y t' k e=>by subst e;exact⟨.str _,H,I.tok k,⟨_,rfl⟩,q⟩
 cases pl with
 | none =>
  cases pu with
  | none=>exact wpAny_getItem_str_slice (l:=none) (u:=none) (st:=none) ⟨o,h1,h2,h3⟩ rfl (post_val_or_str ⟨Tn (Txt.slice_le z _ _) hz,fun t' k=>fin _ t' k rfl⟩)
  | int j uj=>exact wpAny_getItem_str_slice (l:=none) (u:=some (j,uj)) (st:=none) ⟨o,h1,h2,h3⟩ rfl (post_val_or_str ⟨Tn (Txt.slice_le z _ _) hz,fun t' k=>fin _ t' k rfl⟩)
 | int i ui =>
  cases pu with
  | none=>exact wpAny_getItem_str_slice (l:=some (i,ui)) (u:=none) (st:=none) ⟨o,h1,h2,h3⟩ rfl (post_val_or_str ⟨Tn (Txt.slice_le z _ _) hz,fun t' k=>fin _ t' k rfl⟩)
  | int j uj=>exact wpAny_getItem_str_slice (l:=some (i,ui)) (u:=some (j,uj)) (st:=none) ⟨o,h1,h2,h3⟩ rfl (post_val_or_str ⟨Tn (Txt.slice_le z _ _) hz,fun t' k=>fin _ t' k rfl⟩)
theorem wZ{ys:List Str}:∀{us:List Value},Vals (ys.map V.str) us->StrsAre us ys:=by
 induction ys with
 | nil=>intro us r;rw[Vm]at r;cases r;exact .nil
 | cons n ns ih =>
  intro us r;rw[Tx]at r;cases r with
  | cons r1 r2 =>
   obtain⟨t,e⟩:=r1;subst e;exact .cons n t (ih r2)
def rJoin(K:W.Frag):V->List V->Hp->VK->Prop:=fun x xs H Q=>∃ sep l ys,x = .str sep/\xs = [.ref l]/\SqL K H l (ys.map V.str)/\(ys.map (·.length)).sum+ys.length*sep.length<=16777216/\Q (.str (Txt.join sep ys)) H
theorem Ij:MtR X "str.join" (rJoin X.K):=by
 intro gV s σ H x xs v us Q I rx rs h;obtain⟨sep,l,ys,rfl,rfl,hl,hw,q⟩:=h;obtain⟨t,rfl⟩:=rx;obtain⟨u,rfl,ru⟩:=Vals.one rs;cases ru;obtain⟨its,r,pl,hz⟩:=I.list hl;exact join_list pl.isList (by simpa using wZ r) hw fun t' k=>⟨.str _,H,I.tok k,⟨_,rfl⟩,q⟩
theorem FN:cI X (.builtin "isinstance") (fun xs H Q=>∃ x T t b,xs = [x,.ty T]/\jz X.K H x t/\W.kitOne X.K t (.type T)=some b/\Q (.bl b) H):=by
 intro gV s σ H xs us Q I r h;obtain⟨x,T,t,b,rfl,ty,e,q⟩:=h;obtain⟨u,w',rfl,ru,rw'⟩:=vals2 r;cases rw';exact BI I ru ty e fun tk=>⟨.bl b,H,I.tok tk,rfl,q⟩
end
variable{I:Addr}{fp:List Addr}{wr:List Addr}{n:Nat}
section
variable{w:World}{E:Value->Shared->Prop}{s:Shared}
theorem Bv:typeLookup (.type "list_reverseiterator") "__len__" = pure none:=by rw[typeLookup_type,builtinLookup_eq_fast];kernel_rfl
theorem EV:typeLookup (.type "list_reverseiterator") "__length_hint__" = pure (some (.builtin "list_reverseiterator.__length_hint__")):=by rw[typeLookup_type,builtinLookup_eq_fast];kernel_rfl
theorem yn{R:Result->Shared->Prop}{P:Nat->Value->Prop}{St:Nat->Heap->Prop}(W:Walks prog w A.in1 I fp wr n P St)(hT:∀ i (s:Shared),St i s.heap->s.TypeIs (.ref I) "list_reverseiterator")(S:Addr)(res:Value)(c₀:Nat)(hst:St 0 s.heap)(hSf:S ∉ fp)(hI:I∈fp)
  (hS:s.heap.get? S=some { cls:=.type "list",data:=.seq #[] c₀ })
  (hR:∀ s' ic c',Moved (S::wr) (fun g g'=>g'=g) s s'->s'.heap.get? S=some { cls:=.type "list",dict:=none,data:=.seq ic c',slots:=#[] }->ItemsOf P ic n->R (.ok (.ret res)) s') (hn:n<=S4) :
  wpAny (model prog w) A.in1 (Builtin.List.listExtendWith (.ref S) (.ref I) res)
   (fun fin s'=>match fin with | .done f=>R (.ok f) s' | .again c'=>c'.quiet=true/\codeAny (model prog w) A c' R s') (fun e s'=>R (.error e) s') s:=by
 have hSI:S≠I:=fun e=>hSf (e▸hI)
 have h1:Builtin.List.listSameRef (.ref S) (.ref I)=false:=by simp[Builtin.List.listSameRef,hSI]
 unfold Builtin.List.listExtendWith;refine j0 (Uo (hT 0 _ hst) ?_);rw[if_neg (by rw[h1];decide)]
 refine j0 (W.self 0 _ _ _ hst ?_);refine j0 (TY ?_);unfold Builtin.List.listLengthHint;refine j0 (UL (hT 0 _ hst) Bv ?_);show wpAny _ A.in1 (specialOf (Value.ref I) (Str.ofString "__length_hint__") >>= _) _ _ _;refine j0 (UL (hT 0 _ hst) EV ?_)
 generalize hid:("list_reverseiterator.__length_hint__":String)=id0
 wp_delta
 rw[show splitId id0=some ("list_reverseiterator","__length_hint__")from by subst hid;decide +kernel]
 subst hid;refine j0 (Uu (b:=true) (hT 0 _ hst) (by rw[Vu];kernel_rfl) ?_)
 refine M7 ?_;rw[if_neg (by decide)]
 exact M7 ⟨Uv F.plain_extend_loop _,codeAny_extend_loopS W.toS hn _ hSf _ n 0 _ _ _ rfl (TX _) hst hS (ItemsOf.nil P) fun s' ic c' hm hS' fk=>hR s' ic c' hm hS' fk⟩
theorem EM{R:Result->Shared->Prop}{P:Nat->Value->Prop}{St:Nat->Heap->Prop}(W:Walks prog w A.in1 I fp wr n P St)(hT:∀ i (s:Shared),St i s.heap->s.TypeIs (.ref I) "list_reverseiterator")(S:Addr)(hst:St 0 s.heap)(hSf:S ∉ fp)(hI:I∈fp)
  (hS:s.heap.get? S=some { cls:=.type "list",data:=.seq #[] })
  (hR:∀ s' ic c',Moved (S::wr) (fun g g'=>g'=g) s s'->s'.heap.get? S=some { cls:=.type "list",dict:=none,data:=.seq ic c',slots:=#[] }->ItemsOf P ic n->R (.ok (.ret .none)) s') (hn:n<=S4) :
  wpAny (model prog w) A.in1 (Builtin.«list.__init__» ⟨[.ref S,.ref I],[]⟩)
   (fun fin s'=>match fin with | .done f=>R (.ok f) s' | .again c'=>c'.quiet=true/\codeAny (model prog w) A c' R s') (fun e s'=>R (.error e) s') s:=by
 show wpAny _ A.in1 (do let old <- Builtin.List.listItems (.ref S);Builtin.List.listUpdate (.ref S) (fun _=>#[]);letGo old.toList.reverse;Builtin.List.listExtendWith (.ref S) (.ref I) .none) _ _ s
 refine j0 ?_;unfold Builtin.List.listItems;refine j0 (wpAny_seqItems hS rfl (M7 ?_));show wpAny _ A.in1 (updateSeq S (fun _=>#[]) >>= fun _=>letGo (#[]:Array Value).toList.reverse >>= fun _=>Builtin.List.listExtendWith (.ref S) (.ref I) .none) _ _ s
 refine j0 (UM hS rfl ?_);have hS₂:=Tt (T3 (fun _=>(#[]:Array Value))) hS rfl
 have oth:∀ b o,b≠S->s.heap.get? b=some o ->(s.heap.update S (T3 (fun _=>(#[]:Array Value)))).get? b=some o :=
  fun b o hb e=>(T5 _ _ (Ne.symm hb)).trans e
 refine j0 (wpAny_letGo ?_);refine yn (hn:=hn) W hT S .none _ (W.frame 0 s.heap _ hst fun b hb o e=>oth b o (fun h=>hSf (h▸hb)) e) hSf hI hS₂ fun s' ic c' hm hS' fk=>?_
 exact hR s' ic c' (Moved.trans (fun _ _ _ h1 h2=>h2.trans h1) ((Moved.refl (wr:=S::wr) (G:=fun g g'=>g'=g) (fun _=>rfl)).then_heap (S3 _) fun b o hb e=>oth b o (fun h=>hb (by rw[h];exact SG)) e) hm) hS' fk
theorem qP{Q:Value->Shared->Prop}{P:Nat->Value->Prop}{St:Nat->Heap->Prop}(W:Walks prog w A.in1.in1 I fp wr n P St)(hT:∀ i (s:Shared),St i s.heap->s.TypeIs (.ref I) "list_reverseiterator")(hst:St 0 s.heap)(hfp:∀ b∈fp,b<s.heap.objs.size)(hI:I∈fp)
  (hQ:∀ s' ic c',Moved (s.heap.objs.size::wr) (fun g g'=>g'=g) { s with heap:=s.heap.push { cls:=.type "list",data:=.seq #[] } } s' ->
   s'.heap.get? s.heap.objs.size=some { cls:=.type "list",dict:=none,data:=.seq ic c',slots:=#[] }->ItemsOf P ic n->Q (.ref s.heap.objs.size) s') (hn:n<=S4) :
  wpAny (model prog w) A (call (.type "list") [.ref I]) Q E s:=by
 have hSf:s.heap.objs.size ∉ fp:=fun hm=>Um _ (hfp _ hm)
 refine callType_codes (Q₁:=fun obj s₁=>obj = .ref s.heap.objs.size/\s₁ ={ s with heap:=s.heap.push { cls:=.type "list",data:=.seq #[] } }) F.called_list (F.typeCall_list_1 _) F.entry_list_init
  (code_list_new _ ⟨rfl,rfl⟩) fun obj s₁ h₁=>?_
 obtain⟨rfl,rfl⟩:=h₁;have hS:(s.heap.push { cls:=.type "list",data:=.seq #[] }).get? s.heap.objs.size=some { cls:=.type "list",data:=.seq #[] }:=S2 _ rfl;refine⟨⟨_,hS,rfl⟩,F.args_list_init_2 _ _,EM (hn:=hn) W hT _ (W.frame 0 s.heap _ hst fun b _ o e=>j5 _ e) hSf hI hS fun s' ic c' hm hS' fk=>?_⟩
 exact⟨rfl,hQ s' ic c' hm hS' fk⟩
end
def nZ(K:W.Frag)(te:TE):TE:=fun σ H Q=>te σ H fun x H1=>∃ l ys,x = .ref l/\SqL K H1 l ys/\∀ q,H1 q=none->Q (.ref q) (upd H1 q (.lst ys.reverse))
theorem Cn{its:Array Value}{acc:Array Value}{ys:List V}(r:Vals ys its.toList)(h:ItemsOf (fun i v=>its[its.size - 1 - i]? = some v) acc its.size):Vals ys.reverse acc.toList:=by
 have e:acc.toList=its.toList.reverse:=by
  apply Wc
  intro i;by_cases hi:i<its.size
  ·have h1:i<acc.size:=by rw[h.1];exact hi
   have h2:=h.2 i acc[i] (by simp[h1])
   rw[List.getElem?_reverse (by simpa using hi)]
   simp only[Ug,UH];rw[h2];simp[h1]
  ·have h1:¬ i<acc.size:=by rw[h.1];exact hi
   rw[Uh (by simpa using h1),Uh (by simpa using hi)]
 rw[e];exact Vals.reverse r
variable{e:Expr}
theorem oH{p1 p2 b9 pos:Pos}(hc:X.calm=true)(hg1:Gl X "list")(hm1:X.mg "list" = none)(hg2:Gl X "reversed")(hm2:X.mg "reversed" = none)(he:PE X e te)
  (hs1:SN [e] X.env = [(false,eval e X.env)]:=by rfl) (hs2:SN [.Call (.Name "reversed" p2) [e] [] b9] X.env = [(false,eval (.Call (.Name "reversed" p2) [e] [] b9) X.env)]:=by rfl) :
  PE X (.Call (.Name "list" p1) [.Call (.Name "reversed" p2) [e] [] b9] [] pos) (nZ X.K te):=by
 intro gV s σ H Q I h;refine Ul (dY I hg1 hm1 boot_list ?_);refine PyProof.Rows.callWith_type1 ?_ hs2 rfl;rw[hs2];show wpAny _ _ (spliced ((false,eval (.Call (.Name "reversed" p2) [e] [] b9) X.env)::backTo pos (SN [] X.env))) _ _ s;refine Calls.spliced_cons ?_;refine Ul (dY I hg2 hm2 boot_reversed ?_);refine PyProof.Rows.callWith_type1 ?_ hs1 rfl;rw[hs1];show wpAny _ _ (spliced ((false,eval e X.env)::backTo b9 (SN [] X.env))) _ _ s;refine Calls.spliced_cons (thn (he gV s σ H _ I h) fun u s1 hPP=>?_)
 obtain⟨x,H1,I1,r1,l,ys,ex,hl,q⟩:=hPP;subst ex;cases r1;refine Calls.spliced_nil ?_;obtain⟨its,rv,pl,hz⟩:=I1.list hl;have hlt:l<s1.heap.objs.size:=by obtain⟨_,e,_⟩:=pl.isList;exact Sy e
 refine call_reversed_list pl.isList (Calls.spliced_nil ?_);have W:=Walks.listRev (prog:=X.prog) (w:=X.w) (A:=X.A.in1.in1) (show X.A.in1.in1.handled=none from I.ok.hd hc) s1.heap.objs.size l (Tf hlt) its.toArray;refine qP (s:={ s1 with heap:=s1.heap.push (revObj l ((its.toArray.size:Int) - 1)) }) W (fun i s' st=>st.2.1.typeIs) ⟨TX _,⟨_,S2 _ rfl,rfl,by simp[revObj]⟩,pl.isList.push _⟩ (fun b hb=>?_) (by simp) (fun s' ic c' hm hS' fk=>?_) ?_
 ·show b<(s1.heap.push _).objs.size;rw[Tw];rcases S1.mp hb with z|z
  ·rw[z];exact UC _
  ·rw[qr.mp z];exact UQ hlt
 ·rw[Moved.eq_with hm];have kp:∀ b o,s1.heap.get? b=some o->s'.heap.get? b=some o:=fun b o e=>hm.heap b o (fun z=>by
   have hb:@LT.lt Nat _ b s1.heap.objs.size:=Sy e;rcases S1.mp z with z|z
   ·rw[z]at hb;simp only[Tw]at hb;omega
   ·rw[qr.mp z]at hb;omega) (j5 _ (j5 _ e))
  have hv:Vals ys.reverse ic.toList:=Cn (its:=its.toArray) (by simpa using rv) fk
  have hf:H1 ((s1.heap.push (revObj l ((its.toArray.size:Int) - 1))).objs.size)=none:=I1.hok.fresh (by rw[Tw];omega)
  refine⟨.ref _,_,I1.laid (t':=s'.toks) (h':=s'.heap) (o:=.lst ys.reverse) kp (by rw[Tw];omega) ⟨by rw[VY];exact hz,ic.toList,c',hv,by simpa using hS'⟩,rfl,q _ hf⟩
 ·have e:=rv.length;rw[S7];omega
section
def Gi(_ j:Int):Prop:=0<j/\j<18446744073709551616
theorem vR:OpR X (binaryOp .FloorDiv) (rI Gi fun i j=>.int (i / j)):=opI fun i j _ _ _ _ _ hc q=>by
 obtain⟨h1,h2⟩:=hc;have e:i.fdiv j=i / j:=Int.fdiv_eq_ediv_of_nonneg _ (by omega)
 refine floordiv_int (by omega) (by rw[e];exact q) (.inl (PyProof.noPylong_of_log2 ?_))
 have h3:j.natAbs<2 ^ 64:=by omega
 have h4:j.natAbs≠0:=by omega
 exact Wa ((Nat.log2_lt h4).mpr h3) (by decide)
end
def dk(s n:Int)(l:Addr):List (Key×V):=[(.inr "seed",.int s),(.inr "number",.int n),(.inr "left",.ref l)]
variable{l:Addr}
theorem IS{s n:Int}:dR (dk s n l) (.inr "seed":Key)=some (.int s):=by kernel_rfl
theorem BS{s n:Int}:dR (dk s n l) (.inr "number":Key)=some (.int n):=by kernel_rfl
theorem z6{s n:Int}:dR (dk s n l) (.inr "left":Key)=some (.ref l):=by kernel_rfl
variable{m:Int}
theorem xC{s n:Int}:putK (dk s n l) (.inr "number":Key) (.int m)=dk s m l:=by kernel_rfl
theorem DP{s n:Int}:putK (dk s n l) (.inr "seed":Key) (.int m)=dk m n l:=by kernel_rfl
structure cz(H:Hp)(d l:Addr)(s n:Int)(ls:List Int):Prop where
 hd:H d=some (.dK (dk s n l))
 hl:H l=some (.lst (ls.map V.int))
 s0:0<=s
 s1:s<2147483647
 n0:0<=n
 l0:∀ x∈ls,0<=x
def ku(H:Hp)(d l:Addr):Prop:=∃ s n ls,cz H d l s n ls
def Kp(d l:Addr)(H H':Hp):Prop:=∀ b o,H b=some o->b≠d->b≠l->H' b=some o
variable{d:Addr}
theorem Kp.refl:Kp d l H H:=fun _ _ h _ _=>h
variable{ls:List Int}
theorem cz.ne{s n:Int}(D:cz H d l s n ls):d≠l:=iJ D.hd D.hl (by intro z;cases z)
theorem cz.num{s n:Int}(D:cz H d l s n ls)(h:0<=m):cz (upd H d (.dK (putK (dk s n l) (.inr "number":Key) (.int m)))) d l s m ls :=
 ⟨by rw[ax,xC],by rw[ao D.ne.symm];exact D.hl,D.s0,D.s1,h,D.l0⟩
theorem cz.Rk{s n:Int}(D:cz H d l s n ls)(h:0<=m)(h2:m<2147483647):cz (upd H d (.dK (putK (dk s n l) (.inr "seed":Key) (.int m)))) d l m n ls :=
 ⟨by rw[ax,DP],by rw[ao D.ne.symm];exact D.hl,h,h2,D.n0,D.l0⟩
theorem cz.list{s n:Int}{ls':List Int}(D:cz H d l s n ls)(h:∀ x∈ls',0<=x):cz (upd H l (.lst (ls'.map V.int))) d l s n ls' :=
 ⟨by rw[ao D.ne];exact D.hd,ax,D.s0,D.s1,D.n0,h⟩
variable{H1:Hp}
theorem Kp.Kn{o:HO}(a:Kp d l H H1):Kp d l H (upd H1 d o):=fun c u h h1 h2=>by rw[ao h1];exact a c u h h1 h2
theorem Kp.Rf{o:HO}(a:Kp d l H H1):Kp d l H (upd H1 l o):=fun c u h h1 h2=>by rw[ao h2];exact a c u h h1 h2
theorem ko.new{p:Addr}{o:HO}(a:ko H H1)(hp:H1 p=none):ko H (upd H1 p o):=fun c u h=>by
 have z:=a c u h;rw[ao (aS z hp)];exact z
theorem ku.new{p:Addr}{o:HO}(D:ku H d l)(hp:H p=none):ku (upd H p o) d l:=by
 obtain⟨s,n,ls,D⟩:=D;exact⟨s,n,ls,by rw[ao (aS D.hd hp)];exact D.hd,by rw[ao (aS D.hl hp)];exact D.hl,D.s0,D.s1,D.n0,D.l0⟩
def CB:Sp:=fun vs H Q _=>∃(d l:Addr)(m:Int),vs = [.ref d,.int m]/\ku H d l/\0<m/\m<18446744073709551616 /\
 ∀(r:Int)(H':Hp),0<=r->r<m->ku H' d l->Kp d l H H'->Q (.int r) H'
def sf(K:W.Frag):Sp:=fun vs H Q _=>∃(a:Addr)(ns:List Int)(b:Int),vs = [.ref a,.int b]/\SqL K H a (ns.map V.int)/\ns.length<=63/\0<=b/\b<=63 /\
 ∀(d l:Addr)(H':Hp),H d=none->H l=none->ku H' d l->ko H H'->Q (.ref d) H'
variable{D:Ends}
theorem AK{c:TT}{tb:TS}{σ:St}(I:Nat->St->Hp->Prop){m:Nat}(h0:I m σ H)(pB:∀ m σ H,I m σ H->D.nx σ H)
  (hs:∀ m σ H,I m σ H->D.nx σ H->c σ H fun b H1=>if b=true then ∃ N:St->Hp->Prop,(∀ σ' H',N σ' H'->∃ m',m'<m/\I m' σ' H')/\tb { D with nx:=N,ct:=N,bk:=D.nx } σ H1 else D.nx σ H1):wW c tb D σ H :=
 ⟨I,⟨m,h0⟩,fun m σ H h=>hs m σ H h (pB m σ H h)⟩
theorem cz.EZ{s n:Int}(D:cz H d l s n ls):jb H d (.str "seed") (some (.int s)):=by
 have z:=jb.k (k:=(Sum.inr "seed":Key)) D.hd;rw[IS]at z;exact z
theorem cz.O3{s n:Int}(D:cz H d l s n ls):jb H d (.str "number") (some (.int n)):=by
 have z:=jb.k (k:=(Sum.inr "number":Key)) D.hd;rw[BS]at z;exact z
theorem cz.Ka{s n:Int}(D:cz H d l s n ls):jb H d (.str "left") (some (.ref l)):=by
 have z:=jb.k (k:=(Sum.inr "left":Key)) D.hd;rw[z6]at z;exact z
theorem cz.NN{s n:Int}(D:cz H d l s n ls):vd H d (.str "number") (.int m) (upd H d (.dK (putK (dk s n l) (.inr "number":Key) (.int m)))) :=
 vd.k (k:=(Sum.inr "number":Key)) D.hd (ay (by show 3<=1000;decide))
theorem cz.NL{s n:Int}(D:cz H d l s n ls):vd H d (.str "seed") (.int m) (upd H d (.dK (putK (dk s n l) (.inr "seed":Key) (.int m)))) :=
 vd.k (k:=(Sum.inr "seed":Key)) D.hd (ay (by show 3<=1000;decide))
theorem mod_lt{x:Int}(h:0<m):0<=x % m/\x % m<m:=⟨Int.emod_nonneg _ (by omega),Int.emod_lt_of_pos _ h⟩
end L2
namespace L2
theorem Fx(ns:List Int)(lo hi:Option Int):∃ cs:List Int,jy (ns.map V.int) lo hi=cs.map V.int/\cs.length<=ns.length:=by
 refine⟨(ns.drop (HT.sIx ns.length 0 lo)).take (HT.sIx ns.length ns.length hi - HT.sIx ns.length 0 lo),?_,?_⟩
 ·unfold jy;rw[j3,<- VD,<- Vg]
 ·rw[Ti,UD];exact Tn (Vc _ _) (Wn _ _)
theorem int_at{ns:List Int}{i:Nat}{x:V}(h:(ns.map V.int)[i]? = some x):∃ z,x = .int z:=by
 rw[L7]at h;cases e:ns[i]? with
 | none=>rw[e]at h;cases h
 | some z=>rw[e]at h;exact⟨z,(Option.some.inj h).symm⟩
theorem IB{ns:List Int}{i:Nat}{x:V}(h:(ns.map V.int)[i]? = some x):∃ z,x = .int z/\z∈ns:=by
 rw[L7]at h;cases e:ns[i]? with
 | none=>rw[e]at h;cases h
 | some z=>rw[e]at h;exact⟨z,(Option.some.inj h).symm,RB e⟩
end L2
namespace L2
open PySem
theorem Mv{α:Type}{xs:List α}{i:Int}(h0:0<=i)(h1:i<xs.length):∃ v,atI xs i=some v/\v∈xs:=by
 obtain⟨n,rfl⟩:∃ n:Nat,i=n:=⟨i.toNat,by omega⟩
 have h2:n<xs.length:=by omega
 refine⟨xs[n],?_,US h2⟩;unfold atI ixN;rw[if_pos h0,if_pos h1];simp[h2]
variable{n:Nat}
theorem bo(h:n<=10000):n<=S4:=by
 have:(10000:Nat)<=S4:=by decide
 omega
end L2
namespace L2
end L2
namespace L2
open PySem PySem.Spec PyProof.Rows
def strsOf:List Expr->Option (List Str)
 | []=>some []
 | .Constant (.str x) _ _::r=>(strsOf r).map (x :: ·)
 | _=>none
theorem zD{X:Cx}:∀{es:List Expr}{ws:List Str},strsOf es=some ws->PA X es (fun _ H Q=>Q (ws.map V.str) H)
 | [],ws,h=>by
  cases h;exact c9
 | e::es,ws,h=>by
  unfold strsOf at h
  split at h
  ·rename_i h1;cases h1
  ·rename_i x j pos r h1;cases h1;cases e1:strsOf es with
   | none=>rw[e1]at h;cases h
   | some ws' =>
    rw[e1]at h;cases h;exact a9 cO (zD e1)
  ·cases h
end L2
namespace L2
variable{H:Hp}
theorem IK{i:Nat}{x:V}{σ:St}{A B:St->Hp->Prop}(h:A (σ.set i (some x)) H):fA i x σ H fun σ2 H3=>y0 σ2 H3 fun b H4=>if b=true then A σ2 H4 else B σ2 H4:=by
 show if true=true then A (σ.set i (some x)) H else B (σ.set i (some x)) H
 rw[if_pos rfl];exact h
end L2
namespace L2
end L2
namespace L2
open PySem PySem.Spec PyProof.Rows
section
variable{X:Cx}
def iE(z:Str)(n:Nat):Str:=⟨(TJ n z.cps).foldl (· ++ ·) #[]⟩
theorem vx(c:Array Nat):∀(n:Nat)(acc:Array Nat),((TJ n c).foldl (· ++ ·) acc).size=acc.size+n*c.size
 | 0,acc=>by simp
 | n+1,acc=>by
  rw[Vl,List.foldl_cons,vx c n,Array.size_append,Nat.add_mul];omega
theorem gj(z:Str)(n:Nat):(iE z n).length=n*z.length:=by
 have h:=vx z.cps n #[];simpa [iE,Str.length]using h
theorem xM:OpR X (binaryOp .Mult) (fun x y H Q=>∃ z n,x = .str z/\y = .int n/\0<=n/\n<=1000/\z.length<=1000/\Q (.str (iE z n.toNat)) H):=by
 intro gV s σ H x y v u Q I rx ry h;obtain⟨z,n,rfl,rfl,n0,n1,hz,q⟩:=h;obtain⟨t,rfl⟩:=rx;obtain⟨t',rfl⟩:=ry;have fin:∀(y:Str)(t' k:Nat),y=iE z n.toNat->EP X gV σ Q (.str y t') { s with toks:=k }:=fun y t' k e=>by subst e;exact⟨.str _,H,I.tok k,⟨_,rfl⟩,q⟩
 have hp:((z.length:Int)*n)<=1000000:=by
  have h1:(z.length:Int)*n<=1000*n:=Int.mul_le_mul_of_nonneg_right (by omega) n0
  omega
 refine P.mul_str ?_ (fun h1 _=>?_) (fun h1 _=>?_) ?_
 ·rw[decide_eq_false (by omega),decide_eq_false (by omega)];rfl
 ·have h2:(1000:Int) <=(2 ^ 63 - 1) / n:=by
   rw[Int.le_ediv_iff_mul_le (by omega)]
   omega
  omega
 ·unfold Builtin.Str.tooLong;have h2:z.length*n.toNat<=1000000:=by
   have e:((z.length*n.toNat:Nat):Int) =(z.length:Int)*n:=by rw[VM,Up n0]
   omega
  have:S4=16777216:=UZ
  exact decide_eq_false (by omega)
 ·by_cases h1:n<1
  ·rw[if_pos h1];have e:n.toNat=0:=by omega
   exact⟨by decide,fin _ _ _ (by rw[e];rfl)⟩
  ·rw[if_neg h1];by_cases h2:(n==1||z.length==0)=true
   ·rw[if_pos h2];refine fin z t s.toks ?_;have h3:n=1\/z.length=0:=by simpa using h2
    rcases h3 with h3|h3
    ·subst h3;show z =⟨#[]++z.cps⟩;simp
    ·have e1:z.cps = #[]:=by simpa [Str.length]using h3
     have e2:=gj z n.toNat;rw[h3]at e2;have e3:(iE z n.toNat).cps = #[]:=by simpa [Str.length]using e2
     exact Str.ext' (by rw[e1,e3])
   ·rw[if_neg h2];refine⟨?_,fin _ _ _ rfl⟩;have e:=gj z n.toNat;have h3:n.toNat*z.length<=1000000:=by
     have e:((n.toNat*z.length:Nat):Int) =(z.length:Int)*n:=by rw[VM,Up n0,Int.mul_comm]
     omega
    have:S4=16777216:=UZ
    show(iE z n.toNat).length<=S4;omega
end
end L2
namespace L2
open PySem
def m9(n:Nat):Nat:=97+n % 26
def cy(c1 c2:Str)(turn k:Nat):Str:=c1++⟨#[m9 (turn+7*k)]⟩++c2++iE "x" (k % 2)++iE "y" (k / 26)
theorem pW(c1 c2:Str)(turn k:Nat):(cy c1 c2 turn k).cps.toList=c1.cps.toList++m9 (turn+7*k) ::(c2.cps.toList++(iE "x" (k % 2)).cps.toList++(iE "y" (k / 26)).cps.toList):=by
 simp[cy,Str.cps_append]
theorem jv(c1 c2:Str)(turn k:Nat):(cy c1 c2 turn k).length=c1.length+1+c2.length+k % 2+k / 26:=by
 unfold cy;rw[Str.length_append,Str.length_append,Str.length_append,Str.length_append,gj,gj,show(⟨#[m9 (turn+7*k)]⟩:Str).length=1 from rfl,show(Str.ofString "x").length=1 from by decide +kernel,show(Str.ofString "y").length=1 from by decide +kernel]
 omega
theorem Px{a:List Nat}{x y:Nat}{b c:List Nat}(h:a++x::b=a++y::c):x=y:=by
 have:=UT h
 exact(List.cons.inj this).1
variable{turn:Nat}{j:Nat}
theorem BA{k:Nat}(hk:k<52)(hj:j<52)(h:m9 (turn+7*k)=m9 (turn+7*j)):k % 26=j % 26:=by
 unfold m9 at h;omega
theorem zd:(iE "y" 1).cps.toList = [121]:=by decide +kernel
theorem vw(z:Str):(iE z 0).cps.toList = []:=by simp[iE]
variable{c1:Str}{c2:Str}
theorem rZ{k:Nat}(hk:k<52)(hj:j<52)(hne:k≠j){e f:Str}(he:e=Str.empty\/e = "q")(hf:f=Str.empty\/f = "q"):cy c1 c2 turn k++e≠cy c1 c2 turn j++f:=by
 intro h;have hc:(cy c1 c2 turn k).cps.toList++e.cps.toList =(cy c1 c2 turn j).cps.toList++f.cps.toList:=by
  have:=congrArg (fun z:Str=>z.cps.toList) h
  simpa [Str.cps_append]using this
 have hl:(cy c1 c2 turn k).length+e.length =(cy c1 c2 turn j).length+f.length:=by
  rw[<- Str.length_append,h,Str.length_append]
 rw[pW,pW]at hc;simp only[Tp,VF]at hc;have hm:=BA hk hj (Px hc);have h1:k % 2=j % 2:=by rw[<- V2 k (by decide:2∣26),hm,V2 j (by decide:2∣26)]
 have hd:(k / 26=0/\j / 26=1)\/(k / 26=1/\j / 26=0):=by omega
 rw[jv,jv]at hl;have l0:Str.empty.length=0:=rfl;have lq:(Str.ofString "q").length=1:=by decide +kernel
 have tail:=(List.cons.inj (UT hc)).2;rw[h1]at tail;have jA:=UT (UT tail);have eq:(Str.ofString "q").cps.toList = [113]:=by decide +kernel
 have ee:Str.empty.cps.toList = []:=rfl;rcases hd with⟨d1,d2⟩ |⟨d1,d2⟩
 ·rw[d1,d2,vw,zd]at jA;rcases he with rfl|rfl
  ·rw[ee]at jA;simp at jA
  ·rw[eq]at jA
   have:=congrArg List.head? jA
   simp at this
 ·rw[d1,d2,vw,zd]at jA;rcases hf with rfl|rfl
  ·rw[ee]at jA;simp at jA
  ·rw[eq]at jA
   have:=congrArg List.head? jA
   simp at this
theorem nodup_range{f:Nat->Str}{n:Nat}(h:∀ i j,i<n->j<n->i≠j->f i≠f j):((TR n).map f).Nodup:=by
 rw[Vo,UY];refine List.Pairwise.imp_of_mem ?_ (Vo.mp Wk);intro i j hi hj hne;exact h i j (Ux.mp hi) (Ux.mp hj) hne
variable{ws:List Str}
theorem Bw{i:Nat}{w:Str}(h:ws.Nodup)(hw:w ∉ ws):(ws.set i w).Nodup:=by
 induction ws generalizing i with
 | nil=>simp
 | cons a r ih =>
  obtain⟨h1,h2⟩:=TB.mp h;have hw1:w≠a:=fun z=>hw (by simp[z])
  have hw2:w ∉ r:=fun z=>hw (SK _ z)
  cases i with
  | zero=>exact TB.mpr ⟨hw2,h2⟩
  | succ i =>
   refine TB.mpr ⟨fun z=>?_,ih h2 hw2⟩
   rcases Vv z with z|z
   ·exact h1 z
   ·exact hw1 z.symm
end L2
namespace L2
open PySem
variable{ws:List Str}
theorem IC{w:Str}(h:inV (.str w) (ws.map V.str)=false):w ∉ ws:=fun hm=>by
 unfold inV at h;rw[V7]at h;exact h (.str w) (S5.mpr ⟨w,hm,rfl⟩) (show(w==w)=true from beq_self_eq_true w)
def wordOf(kept:List Str)(c1 c2:Str)(turn k:Nat):Str:=cy c1 c2 turn k++(if inV (.str (cy c1 c2 turn k)) (kept.map V.str)=true then("q":Str)else Str.empty)
variable{c1:Str}{c2:Str}{turn:Nat}{j:Nat}
theorem AJ{kept:List Str}{k:Nat}(hk:k<52)(hj:j<52)(hne:k≠j):wordOf kept c1 c2 turn k≠wordOf kept c1 c2 turn j:=by
 unfold wordOf;refine rZ hk hj hne ?_ ?_
 ·split
  ·exact .inr rfl
  ·exact .inl rfl
 ·split
  ·exact .inr rfl
  ·exact .inl rfl
theorem wO{kept:List Str}{k:Nat}(h1:c1.length<=5)(h2:c2.length<=5)(hk:k<52):1 <=(wordOf kept c1 c2 turn k).length/\(wordOf kept c1 c2 turn k).length<=20:=by
 unfold wordOf;rw[Str.length_append,jv];have l0:Str.empty.length=0:=rfl;have lq:(Str.ofString "q").length=1:=by decide +kernel
 split <;> omega
end L2
namespace L2
open PySem PySem.Spec PyProof.Rows
abbrev Mk1:=Str×List Str
abbrev Kd:=Str×List Mk1
def ft(ks:List Kd)(k:Str):List Mk1:=match ks.find? (fun x=>decide (x.1=k))with
 | some x=>x.2
 | none=>[]
variable{ks:List Kd}
theorem zL{k:Str}{i:Nat}{x:Kd}(h:ks[i]? = some x)(hx:x.1=k)(hn:∀(j:Nat)(y:Kd),j<i->ks[j]? = some y->y.1≠k):ft ks k=x.2:=by
 induction ks generalizing i with
 | nil=>simp at h
 | cons a r ih =>
  cases i with
  | zero =>
   simp at h;subst h;simp[ft,hx]
  | succ i =>
   have h0:a.1≠k:=hn 0 a (by omega) (by simp)
   have z:=ih (i:=i) (by simpa using h) fun j y hj hy=>hn (j+1) y (by omega) (by simpa using hy)
   unfold ft at z ⊢;rw[TN,decide_eq_false h0];exact z
theorem Ik{k:Str}(hn:∀(j:Nat)(y:Kd),ks[j]? = some y->y.1≠k):ft ks k = []:=by
 unfold ft;rw[V3.mpr];intro x hx;obtain⟨j,hj,rfl⟩:=List.mem_iff_getElem.mp hx
 have:=hn j ks[j] (by simp)
 simpa using this
variable{it:Addr}{items:Array Value}{Q:Value->Shared->Prop}{h':Heap}{tp:Bool}{l:Addr}{z:Addr}{i1:Addr}{i2:Addr}{l1:Addr}{l2:Addr}{t1:Bool}{t2:Bool}{k1:Nat}{k2:Nat}{xs:Array Value}{ys:Array Value}
section
variable{prog:Program}{w:World}{A:Around}{E:Value->Shared->Prop}{s:Shared}
theorem qH{t:Addr}{i:Nat}{x:Value}(hit:s.heap.IsTupleIter it t i)(ht:s.heap.IsTuple t items)(hx:items[i]? = some x)
  (hQ:∀ h',h'.IsTupleIter it t (i+1)->T7 it s.heap h'->Q x { s with heap:=h' }):wpAny (model prog w) A (Builtin.SmallTypes.nextOf (.ref it)) Q E s:=by
 obtain⟨o,ho,hc,hd⟩:=id hit;obtain⟨ol,hol,_,nl,hdl⟩:=ht;unfold Builtin.SmallTypes.nextOf;refine j0 (wpAny_callSpecial?_slot (name:=Str.ofString "__next__") hit.typeIs F.slot_tuple_iterator_next
  (TL F.slot_tuple_iterator_next hit.typeIs F.entry_tuple_iterator_next ?_ (F.args_tuple_iterator_next_1 _)))
 show wpAny _ _ (field (.ref it) 0 >>= _) _ _ s;refine j0 (wpAny_field ho hd (x:=.ref t) rfl ?_);show wpAny _ _ (if(Value.ref t==Value.none)=true then _ else _) _ _ s
 rw[if_neg (show ¬((Value.ref t==Value.none)=true)from Ta)];show wpAny _ _ (field (.ref it) 1 >>= _) _ _ s;refine j0 (wpAny_field ho hd (x:=.int i 0) rfl ?_);show wpAny _ _ (seqItems? (.ref t) >>= _) _ _ s;refine j0 (wpAny_seqItems hol hdl ?_);simp only[UP,hx];refine j0 (UG ho hd (by simp) (M7 ⟨x,rfl,M7 (hQ _ ?_ (Heap.SameBut.update ..))⟩))
 exact⟨_,Tt _ ho (UI (T2 hd _)),(U9 ..).trans hc,by
  rw[T2 hd];simp[rawInt]⟩
theorem tJ{t:Addr}{i:Nat}(hh:A.handled=none)(hit:s.heap.IsTupleIter it t i)(ht:s.heap.IsTuple t items)(hx:items[i]? = none)
  (hE:∀ h' e,Vy it s.heap h' ->(∃ o,h'.get? e=some o/\o.cls = .type "StopIteration")->E (.ref e) { s with heap:=h' }):wpAny (model prog w) A (Builtin.SmallTypes.nextOf (.ref it)) Q E s:=by
 obtain⟨o,ho,hc,hd⟩:=id hit;obtain⟨ol,hol,_,nl,hdl⟩:=ht;unfold Builtin.SmallTypes.nextOf;refine j0 (wpAny_callSpecial?_slot (name:=Str.ofString "__next__") hit.typeIs F.slot_tuple_iterator_next
  (TL F.slot_tuple_iterator_next hit.typeIs F.entry_tuple_iterator_next ?_ (F.args_tuple_iterator_next_1 _)))
 show wpAny _ _ (field (.ref it) 0 >>= _) _ _ s;refine j0 (wpAny_field ho hd (x:=.ref t) rfl ?_);show wpAny _ _ (if(Value.ref t==Value.none)=true then _ else _) _ _ s
 rw[if_neg (show ¬((Value.ref t==Value.none)=true)from Ta)];show wpAny _ _ (field (.ref it) 1 >>= _) _ _ s;refine j0 (wpAny_field ho hd (x:=.int i 0) rfl ?_);show wpAny _ _ (seqItems? (.ref t) >>= _) _ _ s;refine j0 (wpAny_seqItems hol hdl ?_);simp only[UP,hx];refine j0 (Uz (j0 (UG ho hd (by simp) ?_)))
 show wpAny _ _ (newExc (.type "StopIteration") [] >>= _) _ _ _;refine j0 ?_;simp only[newExc,newTuple];refine j0 (TK ?_ (by size_fits))
 refine j0 (m:=firstArgMember _ _) (VX (a:=Value.none) (by first|rfl |(simp only[firstArgMember];rfl)) ?_)
 refine TK ?_ (by size_fits)
 simp only[raiseNew];refine j0 (wpAny_handled ?_)
 first|rw[show A.in1.handled=none from hh]|rw[hh]
 refine j0 (M7 (wpAny_throw ?_));exact hE _ _ (((Heap.SameBut.update ..).extBut.push _).push _) ⟨_,S2 _ rfl,rfl⟩
def aF(h:Heap)(tp:Bool)(it l:Addr)(k:Nat):Prop:=if tp=true then h.IsTupleIter it l k else h.IsListIter it l k
def aR(h:Heap)(tp:Bool)(l:Addr)(items:Array Value):Prop:=if tp=true then h.IsTuple l items else h.IsList l items
theorem aF.at{h:Heap}{k:Nat}(x:aF h tp it l k)(e:∀ o,h.get? it=some o->h'.get? it=some o):aF h' tp it l k:=by
 cases tp with
 | true=>obtain⟨o,ho,r⟩:=(show h.IsTupleIter it l k from x);exact(show h'.IsTupleIter it l k from⟨o,e o ho,r⟩)
 | false=>obtain⟨o,ho,r⟩:=(show h.IsListIter it l k from x);exact(show h'.IsListIter it l k from⟨o,e o ho,r⟩)
theorem aR.at{h:Heap}(x:aR h tp l items)(e:∀ o,h.get? l=some o->h'.get? l=some o):aR h' tp l items:=by
 cases tp with
 | true=>obtain⟨o,ho,r⟩:=(show h.IsTuple l items from x);exact(show h'.IsTuple l items from⟨o,e o ho,r⟩)
 | false=>obtain⟨o,ho,r⟩:=(show h.IsList l items from x);exact(show h'.IsList l items from⟨o,e o ho,r⟩)
theorem aF.obj{h:Heap}{k:Nat}(x:aF h tp it l k):∃ o,h.get? it=some o/\∀ v,o.data ≠ .cell v:=by
 cases tp with
 | true=>obtain⟨o,ho,_,hd⟩:=(show h.IsTupleIter it l k from x);exact⟨o,ho,fun v=>by rw[hd];simp⟩
 | false=>obtain⟨o,ho,_,hd⟩:=(show h.IsListIter it l k from x);exact⟨o,ho,fun v=>by rw[hd];simp⟩
theorem next_item{i:Nat}{x:Value}(hit:aF s.heap tp it l i)(hl:aR s.heap tp l items)(hx:items[i]? = some x)
  (hQ:∀ h',aF h' tp it l (i+1)->T7 it s.heap h'->Q x { s with heap:=h' }):wpAny (model prog w) A (Builtin.SmallTypes.nextOf (.ref it)) Q E s:=by
 cases tp with
 | true=>exact qH hit hl hx hQ
 | false=>exact wpAny_nextOf_list_item hit hl hx hQ
theorem next_end{i:Nat}(hh:A.handled=none)(hit:aF s.heap tp it l i)(hl:aR s.heap tp l items)(hx:items[i]? = none)
  (hE:∀ h' e,Vy it s.heap h' ->(∃ o,h'.get? e=some o/\o.cls = .type "StopIteration")->E (.ref e) { s with heap:=h' }):wpAny (model prog w) A (Builtin.SmallTypes.nextOf (.ref it)) Q E s:=by
 cases tp with
 | true=>exact tJ hh hit hl hx hE
 | false=>exact wpAny_nextOf_list_end hh hit hl hx hE
theorem vg{TI TO:Addr}{x y a b:Value}{Q:Option Value->Shared->Prop}(D:ZipApart z TI TO i1 i2 l1 l2)
  (hz:IsZip s.heap z TI TO .none) (hTI:IsPair s.heap TI (.ref i1) (.ref i2)) (hTO:IsPair s.heap TO a b)
  (h1:aF s.heap t1 i1 l1 k1) (h2:aF s.heap t2 i2 l2 k2) (hl1:aR s.heap t1 l1 xs) (hl2:aR s.heap t2 l2 ys) (hx:xs[k1]? = some x) (hy:ys[k2]? = some y)
  (hQ:∀ h',IsZip h' z TI TO (rawInt s.heap.objs.size)->IsPair h' TO x y->aF h' t1 i1 l1 (k1+1)->aF h' t2 i2 l2 (k2+1)->IsPair h' s.heap.objs.size x y->h'.objs.size=s.heap.objs.size+1 ->
   (∀ c o,c≠z->c≠TO->c≠i1->c≠i2->s.heap.get? c=some o->h'.get? c=some o)->Q (some (.ref s.heap.objs.size)) { s with heap:=h' }) :
  wpAny (model prog w) A (pyNext (.ref z)) Q E s:=by
 have hT:s.TypeIs (.ref z) "zip":=⟨_,hz,rfl⟩;unfold pyNext;refine j0 (Uw (wpAny_callSpecial?_slot (name:=Str.ofString "__next__") hT F.slot_zip_next
  (TL F.slot_zip_next hT F.entry_zip_next ?_ (F.args_zip_next_1 _))))
 show wpAny _ _ (field (.ref z) 2 >>= _) _ _ _;refine j0 (wpAny_field hz rfl (x:=.bool false) rfl ?_);show wpAny _ _ (field (.ref z) 3 >>= _) _ _ _;refine j0 (wpAny_field hz rfl (x:=.ref TI) rfl ?_);refine j0 (wpAny_seqItems hTI rfl ?_);show wpAny _ _ (Builtin.SmallTypes.ownedTupleIsFree (.ref z) >>= _) _ _ _;refine j0 ?_;unfold Builtin.SmallTypes.ownedTupleIsFree;refine j0 (wpAny_field hz rfl (x:=.none) rfl (M7 ?_));simp only[if_true];refine j0 (Uz ?_);refine j0 (wpAny_field hz rfl (x:=.ref TO) rfl ?_);refine j0 (wpAny_setField_rec hz (by simp) fun h₁ hz₁ hs₁=>?_)
 replace hz₁:IsZip h₁ z TI TO .ellipsis:=hz₁
 refine j0 ?_;simp only[Wl,List.zipIdx_nil,U5,Vp];refine j0 (j0 (wpAny_onRaise ?_));show wpAny _ _ (Builtin.SmallTypes.nextOf (.ref i1) >>= _) _ _ _;refine j0 (next_item (h1.at fun o e=>hs₁.extBut _ o D.i1z e) (hl1.at fun o e=>hs₁.extBut _ o D.l1z e) hx fun h₂ h1₂ hs₂=>M7 ?_)
 have EY:IsPair h₂ TO a b:=hs₂.extBut _ _ D.TOi1 (hs₁.extBut _ _ D.TOz hTO);refine j0 (wpAny_seqItems EY rfl ?_);refine j0 (wpAny_updateSeq_pair EY fun h₃ II hs₃=>?_)
 replace II:IsPair h₃ TO x b:=II
 refine j0 (wpAny_letGo (M7 ?_));refine j0 (j0 (wpAny_onRaise ?_));show wpAny _ _ (Builtin.SmallTypes.nextOf (.ref i2) >>= _) _ _ _;refine j0 (next_item (h2.at fun o e=>hs₃.extBut _ o D.TOi2.symm (hs₂.extBut _ o D.i12.symm (hs₁.extBut _ o D.i2z e)))
  (hl2.at fun o e=>hs₃.extBut _ o D.l2TO (hs₂.extBut _ o D.l2i1 (hs₁.extBut _ o D.l2z e))) hy fun h₄ h2₄ hs₄=>M7 ?_)
 have O1:IsPair h₄ TO x b:=hs₄.extBut _ _ D.TOi2 II;refine j0 (wpAny_seqItems O1 rfl ?_);refine j0 (wpAny_updateSeq_pair O1 fun h₅ IH hs₅=>?_)
 replace IH:IsPair h₅ TO x y:=IH
 refine j0 (wpAny_letGo (M7 (M7 ?_)));refine j0 (wpAny_seqItems IH rfl ?_);refine j0 (wpAny_newTuple ?_);have hsz:h₅.objs.size=s.heap.objs.size:=by rw[hs₅.1,hs₄.1,hs₃.1,hs₂.1,hs₁.1]
 have hz₅:IsZip h₅ z TI TO .ellipsis:=hs₅.extBut _ _ D.TOz.symm (hs₄.extBut _ _ D.i2z.symm (hs₃.extBut _ _ D.TOz.symm (hs₂.extBut _ _ D.i1z.symm hz₁)));have hk₅:∀ c o,c≠z->c≠TO->c≠i1->c≠i2->s.heap.get? c=some o->h₅.get? c=some o:=fun c o c1 c2 c3 c4 e =>
  hs₅.extBut _ _ c2 (hs₄.extBut _ _ c4 (hs₃.extBut _ _ c2 (hs₂.extBut _ _ c3 (hs₁.extBut _ _ c1 e))))
 have h1₅:aF h₅ t1 i1 l1 (k1+1):=h1₂.at fun o e=>hs₅.extBut _ o D.TOi1.symm (hs₄.extBut _ o D.i12 (hs₃.extBut _ o D.TOi1.symm e))
 have h2₅:aF h₅ t2 i2 l2 (k2+1):=h2₄.at fun o e=>hs₅.extBut _ o D.TOi2.symm e
 have OR:z<h₅.objs.size:=Sy hz₅;show wpAny _ _ (Builtin.SmallTypes.ownedTupleHandOut (.ref z) (.ref h₅.objs.size) >>= _) _ _ _;refine j0 ?_;unfold Builtin.SmallTypes.ownedTupleHandOut;have hz₆:IsZip (h₅.push { cls:=.type "tuple",data:=.seq #[x,y] }) z TI TO .ellipsis:=j5 _ hz₅;refine j0 (wpAny_setField_rec hz₆ (by simp) fun h₇ hz₇ hs₇=>?_)
 replace hz₇:IsZip h₇ z TI TO (rawInt h₅.objs.size):=hz₇
 refine wpAny_setField_rec hz₇ (by simp) fun h₈ hz₈ hs₈=>?_
 replace hz₈:IsZip h₈ z TI TO (rawInt h₅.objs.size):=hz₈
 have up:∀ c o,c≠z->h₅.get? c=some o->h₈.get? c=some o:=fun c o c1 e=>hs₈.extBut _ _ c1 (hs₇.extBut _ _ c1 (j5 _ e))
 have hT₈:IsPair h₈ h₅.objs.size x y:=hs₈.extBut _ _ (T8 OR) (hs₇.extBut _ _ (T8 OR) (S2 _ rfl));have hz8:h₈.objs.size=h₅.objs.size+1:=by rw[hs₈.1,hs₇.1,Tw]
 rw[hsz]at hz₈ hT₈ hz8;refine M7 ⟨_,rfl,M7 ?_⟩;show Q (some (.ref h₅.objs.size)) _;rw[hsz];exact hQ h₈ hz₈ (up _ _ D.TOz IH) (h1₅.at fun o e=>up _ o D.i1z e) (h2₅.at fun o e=>up _ o D.i2z e) hT₈ hz8 fun c o c1 c2 c3 c4 e=>up c o c1 (hk₅ c o c1 c2 c3 c4 e)
theorem yU{TI TO:Addr}{a b:Value}{Q:Option Value->Shared->Prop}(hh:A.handled=none)(D:ZipApart z TI TO i1 i2 l1 l2)
  (hz:IsZip s.heap z TI TO .none) (hTI:IsPair s.heap TI (.ref i1) (.ref i2)) (hTO:IsPair s.heap TO a b)
  (h1:aF s.heap t1 i1 l1 k1) (h2:aF s.heap t2 i2 l2 k2) (hl1:aR s.heap t1 l1 xs) (hl2:aR s.heap t2 l2 ys) (pB:xs[k1]? = none\/ys[k2]? = none)
  (hQ:∀ h',(∀ c o,c≠z->c≠TO->c≠i1->c≠i2->s.heap.get? c=some o->h'.get? c=some o)->Q none { s with heap:=h' }):wpAny (model prog w) A (pyNext (.ref z)) Q E s:=by
 have hT:s.TypeIs (.ref z) "zip":=⟨_,hz,rfl⟩;have fin:∀ h' e,(∀ c o,c≠z->c≠TO->c≠i1->c≠i2->s.heap.get? c=some o->h'.get? c=some o) ->(∃ o,h'.get? e=some o/\o.cls = .type "StopIteration") ->
   wpAny (model prog w) A (do if <- isInstance (.ref e) (.type "StopIteration")then pure none else throw (.ref e)) Q E { s with heap:=h' }:=fun h' e hk he=>by
  obtain⟨o,ho,hc⟩:=he;refine j0 (Uu (T:="StopIteration") (b:=true) ⟨o,ho,hc⟩ isSubtype_stop ?_);exact M7 (hQ _ hk)
 unfold pyNext;refine j0 (Uw (wpAny_callSpecial?_slot (name:=Str.ofString "__next__") hT F.slot_zip_next
  (TL F.slot_zip_next hT F.entry_zip_next ?_ (F.args_zip_next_1 _))))
 show wpAny _ _ (field (.ref z) 2 >>= _) _ _ _;refine j0 (wpAny_field hz rfl (x:=.bool false) rfl ?_);show wpAny _ _ (field (.ref z) 3 >>= _) _ _ _;refine j0 (wpAny_field hz rfl (x:=.ref TI) rfl ?_);refine j0 (wpAny_seqItems hTI rfl ?_);show wpAny _ _ (Builtin.SmallTypes.ownedTupleIsFree (.ref z) >>= _) _ _ _;refine j0 ?_;unfold Builtin.SmallTypes.ownedTupleIsFree;refine j0 (wpAny_field hz rfl (x:=.none) rfl (M7 ?_));simp only[if_true];refine j0 (Uz ?_);refine j0 (wpAny_field hz rfl (x:=.ref TO) rfl ?_);refine j0 (wpAny_setField_rec hz (by simp) fun h₁ hz₁ hs₁=>?_)
 replace hz₁:IsZip h₁ z TI TO .ellipsis:=hz₁
 refine j0 ?_;simp only[Wl,List.zipIdx_nil,U5,Vp];refine j0 (j0 (wpAny_onRaise ?_));show wpAny _ _ (Builtin.SmallTypes.nextOf (.ref i1) >>= _) _ _ _;cases hx:xs[k1]? with
 | none =>
  refine j0 (next_end hh (h1.at fun o e=>hs₁.extBut _ o D.i1z e) (hl1.at fun o e=>hs₁.extBut _ o D.l1z e) hx fun h₂ e hs₂ he=>?_)
  obtain⟨oe,hoe,hce⟩:=he;have hz₂:IsZip h₂ z TI TO .ellipsis:=hs₂ _ _ D.i1z.symm hz₁;have hez:e≠z:=fun x=>by subst x;rw[hz₂]at hoe;cases hoe;simp at hce
  refine wpAny_setField_rec hz₂ (by simp) fun h₃ _ hs₃=>fin h₃ e (fun c o c1 _ c3 _ x=>hs₃.extBut _ _ c1 (hs₂ _ _ c3 (hs₁.extBut _ _ c1 x))) ⟨oe,hs₃.extBut _ _ hez hoe,hce⟩
 | some x =>
  have hy:ys[k2]? = none:=by rcases pB with h|h;rw[hx]at h;cases h;exact h
  refine j0 (next_item (h1.at fun o e=>hs₁.extBut _ o D.i1z e) (hl1.at fun o e=>hs₁.extBut _ o D.l1z e) hx fun h₂ h1₂ hs₂=>M7 ?_)
  have EY:IsPair h₂ TO a b:=hs₂.extBut _ _ D.TOi1 (hs₁.extBut _ _ D.TOz hTO);refine j0 (wpAny_seqItems EY rfl ?_);refine j0 (wpAny_updateSeq_pair EY fun h₃ II hs₃=>?_)
  refine j0 (wpAny_letGo (M7 ?_));refine j0 (j0 (wpAny_onRaise ?_));show wpAny _ _ (Builtin.SmallTypes.nextOf (.ref i2) >>= _) _ _ _;refine j0 (next_end hh (h2.at fun o e=>hs₃.extBut _ o D.TOi2.symm (hs₂.extBut _ o D.i12.symm (hs₁.extBut _ o D.i2z e)))
   (hl2.at fun o e=>hs₃.extBut _ o D.l2TO (hs₂.extBut _ o D.l2i1 (hs₁.extBut _ o D.l2z e))) hy fun h₄ e hs₄ he=>?_)
  obtain⟨oe,hoe,hce⟩:=he;have hz₄:IsZip h₄ z TI TO .ellipsis:=hs₄ _ _ D.i2z.symm (hs₃.extBut _ _ D.TOz.symm (hs₂.extBut _ _ D.i1z.symm hz₁));have hez:e≠z:=fun x=>by subst x;rw[hz₄]at hoe;cases hoe;simp at hce
  refine wpAny_setField_rec hz₄ (by simp) fun h₅ _ hs₅=>fin h₅ e (fun c o c1 c2 c3 c4 x=>hs₅.extBut _ _ c1 (hs₄ _ _ c4 (hs₃.extBut _ _ c2 (hs₂.extBut _ _ c3 (hs₁.extBut _ _ c1 x))))) ⟨oe,hs₅.extBut _ _ hez hoe,hce⟩
end
def kindOf(ks:List Kd)(m:Str):V:=match ks.find? (fun x=>decide (m∈x.2.map (·.1)))with
 | some x=>.str x.1
 | none=>.non
def kh(ks:List Kd):List Str:=ks.flatMap fun k=>k.2.flatMap (·.2)
def pC(ks:List Kd)(k:Str):List Str:=(ft ks k).flatMap (·.2)
inductive Reach(ks:List Kd)(a:Str):Str->Prop where
 | here:Reach ks a a
 | step{b c:Str}:Reach ks a b->c∈pC ks b->Reach ks a c
variable{ws:List Str}
theorem nL{w:Str}:inV (.str w) (ws.map V.str)=true ↔ w∈ws:=by
 constructor
 ·intro h;by_cases hm:w∈ws
  ·exact hm
  ·exfalso
   unfold inV at h;rw[Vd]at h;obtain⟨x,hx,e⟩:=h;obtain⟨z,hz,rfl⟩:=S5.mp hx
   have:z=w:=eq_of_beq (show(z==w)=true from e)
   exact hm (this▸hz)
 ·intro h;unfold inV;rw[Vd];exact⟨.str w,S5.mpr ⟨w,h,rfl⟩,show(w==w)=true from beq_self_eq_true w⟩
theorem EA{k:Str}:ft ks k = []\/∃ x∈ks,ft ks k=x.2/\x.1=k:=by
 unfold ft;cases e:ks.find? (fun x=>decide (x.1=k))with
 | none=>exact .inl rfl
 | some x=>exact .inr ⟨x,List.mem_of_find?_eq_some e,rfl,by have z:=List.find?_some e;simpa using z⟩
theorem wk{k f:Str}(h:f∈pC ks k):f∈kh ks:=by
 unfold pC at h;rcases EA (ks:=ks) (k:=k)with e |⟨x,hx,e,_⟩
 ·rw[e]at h;simp at h
 ·rw[e]at h;exact U0.mpr ⟨x,hx,h⟩
def un(U rs:List Str):Nat:=(U.filter fun u=>decide (u ∉ rs)).length
variable{rs:List Str}
theorem MW{U:List Str}:un U rs<=U.length:=VN _ _
theorem z5{p q:Str->Bool}(hpq:∀ x,q x=true->p x=true):∀ U:List Str,(U.filter q).length <=(U.filter p).length
 | []=>S3 _
 | u::U=>by
  have z:=z5 hpq U;cases hq:q u with
  | true =>
   rw[Ua hq,Ua (hpq u hq)];simp only[Te];omega
  | false =>
   rw[Uy (by rw[hq];decide)]
   cases hp:p u with
   | true=>rw[Ua hp];simp only[Te];omega
   | false=>rw[Uy (by rw[hp];decide)];exact z
theorem zZ{p q:Str->Bool}{f:Str}(hpq:∀ x,q x=true->p x=true)(hp:p f=true)(hq:q f=false):∀ U:List Str,f∈U ->(U.filter q).length+1 <=(U.filter p).length
 | [],h=>by simp at h
 | u::U,h=>by
  by_cases e:u=f
  ·subst e;have z:=z5 hpq U;rw[Uy (by rw[hq];decide),Ua hp]
   simp only[Te];omega
  ·have z:=zZ hpq hp hq U (by
    rcases S1.mp h with h|h
    ·exact absurd h.symm e
    ·exact h)
   cases hq2:q u with
   | true =>
    rw[Ua hq2,Ua (hpq u hq2)];simp only[Te];omega
   | false =>
    rw[Uy (by rw[hq2];decide)]
    cases hp2:p u with
    | true=>rw[Ua hp2];simp only[Te];omega
    | false=>rw[Uy (by rw[hp2];decide)];exact z
theorem yZ{U:List Str}{f:Str}(hf:f∈U)(hn:f ∉ rs):un U (rs ++ [f])+1<=un U rs:=by
 refine zZ (fun x hx=>?_) (decide_eq_true hn) (decide_eq_false (by simp)) U hf
 have hx:=of_decide_eq_true hx;exact decide_eq_true fun z=>hx (SY.mpr (.inl z))
def marks(rs:List Str):List (Key×V):=rs.map fun s=>(.inr s,.bl true)
structure RS(ks:List Kd)(k here:Str)(done rs W:List Str)(c:Nat):Prop where
 ki:k∈rs
 w:∀ r∈W,r∈rs
 hi:here∈rs
 re:∀ r∈rs,Reach ks k r
 cl:∀ r∈rs,r ∉ W->r=here\/∀ f∈pC ks r,f∈rs
 dn:∀ f∈done,f∈rs
 sz:rs.length+un (kh ks) rs <=(kh ks).length+1
 sw:W.length<=rs.length
 m:2*un (kh ks) rs+W.length<c
variable{here:Str}{done:List Str}
theorem RS.old{k f:Str}{W:List Str}{c:Nat}(R:RS ks k here done rs W c)(hf:f∈rs):RS ks k here (done ++ [f]) rs W c :=
 ⟨R.ki,R.w,R.hi,R.re,R.cl,fun g hg=>(SY.mp hg).elim (R.dn g) fun h=>by rw[qr.mp h];exact hf,R.sz,R.sw,R.m⟩
theorem RS.new{k f:Str}{W:List Str}{c:Nat}(R:RS ks k here done rs W c)(hn:f ∉ rs)(hf:f∈pC ks here):RS ks k here (done ++ [f]) (rs ++ [f]) (W ++ [f]) c where
 ki:=SY.mpr (.inl R.ki)
 w:=fun r hr=>by
  rcases SY.mp hr with h|h
  ·exact SY.mpr (.inl (R.w r h))
  ·exact SY.mpr (.inr h)
 hi:=SY.mpr (.inl R.hi)
 re:=fun r hr=>by
  rcases SY.mp hr with h|h
  ·exact R.re r h
  ·rw[qr.mp h];exact .step (R.re _ R.hi) hf
 cl:=fun r hr hw=>by
  rcases SY.mp hr with h|h
  ·rcases R.cl r h (fun z=>hw (SY.mpr (.inl z)))with e|e
   ·exact .inl e
   ·exact .inr fun g hg=>SY.mpr (.inl (e g hg))
  ·exact absurd (SY.mpr (.inr h)) hw
 dn:=fun g hg=>by
  rcases SY.mp hg with h|h
  ·exact SY.mpr (.inl (R.dn g h))
  ·exact SY.mpr (.inr h)
 sz:=by
  have:=yZ (wk hf) hn
  have:=R.sz
  simp only[RM,TH];omega
 sw:=by
  have:=R.sw
  simp only[RM,TH];omega
 m:=by
  have:=yZ (wk hf) hn
  have:=R.m
  simp only[RM,TH];omega
structure RWt(ks:List Kd)(k:Str)(rs W:List Str):Prop where
 ki:k∈rs
 w:∀ r∈W,r∈rs
 re:∀ r∈rs,Reach ks k r
 cl:∀ r∈rs,r ∉ W->∀ f∈pC ks r,f∈rs
 sz:rs.length+un (kh ks) rs <=(kh ks).length+1
 sw:W.length<=rs.length
theorem RWt.pop{k:Str}{W:List Str}(R:RWt ks k rs (W ++ [here])):RS ks k here [] rs W (2*un (kh ks) rs+(W ++ [here]).length) where
 ki:=R.ki
 w:=fun r hr=>R.w r (SY.mpr (.inl hr))
 hi:=R.w _ (by simp)
 re:=R.re
 cl:=fun r hr hw=>by
  by_cases e:r=here
  ·exact .inl e
  ·exact .inr (R.cl r hr (by simp[hw,e]))
 dn:=fun f hf=>by simp at hf
 sz:=R.sz
 sw:=by
  have:=R.sw
  simp only[RM,TH]at this;omega
 m:=by simp
theorem RS.fin{k:Str}{W:List Str}{c:Nat}(R:RS ks k here done rs W c)(hd:done=pC ks here):RWt ks k rs W where
 ki:=R.ki
 w:=R.w
 re:=R.re
 sz:=R.sz
 sw:=R.sw
 cl:=fun r hr hw=>by
  rcases R.cl r hr hw with e|e
  ·subst e;subst hd;exact R.dn
  ·exact e
theorem RWt.all{k:Str}(R:RWt ks k rs []){s:Str}:s∈rs ↔ Reach ks k s:=by
 refine⟨R.re s,fun h=>?_⟩
 induction h with
 | here=>exact R.ki
 | step _ hc ih=>exact R.cl _ ih (by simp) _ hc
theorem RWt.start{k:Str}:RWt ks k [k] [k] where
 ki:=by simp
 w:=fun r h=>h
 re:=fun r h=>by rw[qr.mp h];exact .here
 cl:=fun r h n=>absurd h n
 sz:=by have:=MW (U:=kh ks) (rs:=[k]);simp;omega
 sw:=S3 _
theorem jd{α:Type}{β:Type}{xs:List α}{f:α->List β}{i:Nat}{c:α}(h:xs[i]? = some c):(xs.take i).flatMap f++f c =(xs.take (i+1)).flatMap f:=by
 rw[S8,h];simp
open Classical in
noncomputable def e7(ks:List Kd)(k:Str)(xs:List Kd):List Str:=xs.flatMap fun x=>if Reach ks k x.1 then x.2.map (·.1)else []
theorem vh{k:Str}{xs:List Kd}{i:Nat}{x:Kd}(h:xs[i]? = some x)(hr:Reach ks k x.1):e7 ks k (xs.take (i+1))=e7 ks k (xs.take i)++x.2.map (·.1):=by
 unfold e7;rw[<- jd h,if_pos hr]
theorem yV{k:Str}{xs:List Kd}{i:Nat}{x:Kd}(h:xs[i]? = some x)(hr:¬ Reach ks k x.1):e7 ks k (xs.take (i+1))=e7 ks k (xs.take i):=by
 unfold e7;rw[<- jd h,if_neg hr,Td]
variable{X:Cx}{gV:List (Addr×Obj)}{H:Hp}{t':Nat}{fp:List Addr}
theorem Inv.ny{σ:St}{s:Shared}(I:Inv X gV σ H s)(k:∀ b o,b ∉ fp->s.heap.get? b=some o->h'.get? b=some o)(hf:∀ b∈fp,qj X gV H b) :
  Inv X gV σ H { s with heap:=h',toks:=t' }:=by
 have nit:∀ b u,H b=some u->b ∉ fp:=fun b u e z=>by
  have:=(hf b z).1
  rw[e]at this;cases this
 refine I.step (g':=s.gens) (d':=s.drawn) (ch:=fp) (fun b hb=>?_) (fun b o _ _ hc e _=>k b o hc e) (fun b o _ _ hc e _=>⟨o.slots,k b o hc e⟩) (fun _ _ _ _ n=>n)
  (fun b o hc e=>⟨o,k b o hc e⟩) (fun _ _ e=>e) (fun _ _ _ e=>e) (fun b ps e=>⟨#[],by rw[e];simp⟩) (fun m hm=>?_) (fun b u e=>?_) I.bare
 ·obtain⟨f0,f1,f2,f3,f4,f5⟩:=hf b hb;exact⟨f3,f1,f4,f5⟩
 ·obtain⟨o,es,ep,ho,r⟩:=hm;exact⟨o,es,ep,k _ o (fun z=>(hf _ z).2.1 rfl) ho,r⟩
 ·refine(I.hok b u e).cY (fun c v hc q=>k c v ?_ q) (fun _ q=>q) fun _ _ q=>q
  rcases hc with z|z
  ·rw[z];exact nit b u e
  ·exact nit c _ z
def SqB(K:W.Frag)(tp:Bool)(H:Hp)(a:Addr)(xs:List V):Prop:=if tp=true then SqT K H a xs else SqL K H a xs
variable{a:Addr}
theorem Inv.oj{σ:St}{s:Shared}{xs:List V}(I:Inv X gV σ H s)(h:SqB X.K tp H a xs):∃ its:List Value,Vals xs its/\aR s.heap tp a its.toArray/\xs.length<=S4:=by
 cases tp with
 | true =>
  obtain⟨its,r,p,z⟩:=I.tuple (show SqT X.K H a xs from h);exact⟨its,r,(show s.heap.IsTuple a its.toArray from p),z⟩
 | false =>
  obtain⟨its,r,p,z⟩:=I.list (show SqL X.K H a xs from h);exact⟨its,r,p.isList,z⟩
theorem Inv.oh{σ:St}{s:Shared}{xs ys:List V}(I:Inv X gV σ H s)(h:SqB X.K tp H a xs)(h2:SqB X.K tp H a ys):xs=ys:=by
 cases tp with
 | true=>exact I.q5 (show SqT X.K H a xs from h) (show SqT X.K H a ys from h2)
 | false=>exact I.v8 (show SqL X.K H a xs from h) (show SqL X.K H a ys from h2)
def Itz(K:W.Frag)(t1 t2:Bool)(l1 l2:Addr):It :=
 ⟨fun i H=>∃ xs ys x y,SqB K t1 H l1 xs/\SqB K t2 H l2 ys/\xs[i]? = some x/\ys[i]? = some y,
   fun i H v H'=>∃(p:Addr)(x y:V),H p=none/\v = .ref p/\H'=upd H p (.tup [x,y])/\(∀ xs,SqB K t1 H l1 xs->xs[i]? = some x)/\∀ ys,SqB K t2 H l2 ys->ys[i]? = some y,
   fun i H=>∃ xs ys,SqB K t1 H l1 xs/\SqB K t2 H l2 ys/\(xs.length<=i\/ys.length<=i)⟩
variable{P:Program}{elts:List Expr}
theorem Ct{w:World}{K:W.Frag}{x1}{pos:Pos}(z TI TO i1 i2 l1 l2:Addr)(D:ZipApart z TI TO i1 i2 l1 l2) :
  Turn P w K (.Tuple elts x1 pos) (Itz K t1 t2 l1 l2) [z,TI,TO,i1,i2] z (fun i h=>IsZip h z TI TO .none/\IsPair h TI (.ref i1) (.ref i2)/\(∃ a b,IsPair h TO a b)/\aF h t1 i1 l1 i/\aF h t2 i2 l2 i) where
 mem:=by simp
 obj:=by
  rintro i h ⟨h1,h2,⟨a,b,h3⟩,h4,h5⟩ c hc
  simp only[S1,Ts,or_false]at hc;rcases hc with rfl|rfl|rfl|rfl|rfl
  ·exact⟨_,h1,fun v e=>by cases e⟩
  ·exact⟨_,h2,fun v e=>by cases e⟩
  ·exact⟨_,h3,fun v e=>by cases e⟩
  ·exact h4.obj
  ·exact h5.obj
 keep:=by
  rintro i h h' ⟨h1,h2,⟨a,b,h3⟩,h4,h5⟩ k
  exact⟨k z (by simp) _ h1,k TI (by simp) _ h2,⟨a,b,k TO (by simp) _ h3⟩,h4.at fun o e=>k i1 (by simp) o e,h5.at fun o e=>k i2 (by simp) o e⟩
 item:=by
  intro X hP hw hK hc i gV s σ H E I hf st hg;subst hP hw hK;obtain⟨h1,h2,⟨a,b,h3⟩,h4,h5⟩:=st;obtain⟨xs,ys,x,y,q1,q2,e1,e2⟩:=hg;obtain⟨IA,rv1,o1,z1⟩:=I.oj q1;obtain⟨bJ,rv2,o2,z2⟩:=I.oj q2;obtain⟨u1,hu1,ru1⟩:=rv1.get e1;obtain⟨u2,hu2,ru2⟩:=rv2.get e2;refine vg D h1 h2 h3 h4 h5 o1 o2 (x:=u1) (y:=u2) (by simpa using hu1) (by simpa using hu2) fun h' hz' O2 R7 R6 hp' RP hk'=>⟨_,rfl,?_⟩
  refine wpAny_letOwnedTupleGo_zip hz' fun h'' RN Ma=>?_
  have hn:=I.hok.fresh (S3 s.heap.objs.size);have lz:z<s.heap.objs.size:=Sy h1;have lTI:TI<s.heap.objs.size:=Sy h2;have lTO:TO<s.heap.objs.size:=Sy h3;obtain⟨oi1,Sg,_⟩:=h4.obj;obtain⟨oi2,Sf,_⟩:=h5.obj;have li1:i1<s.heap.objs.size:=Sy Sg;have li2:i2<s.heap.objs.size:=Sy Sf;have LS:∀ b ∈ [z,TI,TO,i1,i2],b≠s.heap.objs.size:=fun b hb=>by
   simp only[S1,Ts,or_false]at hb;rcases hb with rfl|rfl|rfl|rfl|rfl
   ·exact Tf lz
   ·exact Tf lTI
   ·exact Tf lTO
   ·exact Tf li1
   ·exact Tf li2
  have up:∀ c o,c≠z->h'.get? c=some o->h''.get? c=some o:=fun c o hc e=>Ma.extBut _ _ hc e
  have I1:Inv X gV σ (upd H s.heap.objs.size (.tup [x,y])) { s with heap:=s.heap.push { cls:=.type "tuple",data:=.seq #[u1,u2] } } :=
   I.laid (t':=s.toks) (fun b u e=>j5 _ e) (S3 _) ⟨by show 2<=S4;decide,[u1,u2],.cons ru1 (.cons ru2 .nil),⟨⟨_,S2 _ rfl,rfl,_,rfl⟩,_,S2 _ rfl,rfl⟩⟩
  have hf':∀ b ∈ [z,TI,TO,i1,i2],qj X gV (upd H s.heap.objs.size (.tup [x,y])) b:=fun b hb=>by
   obtain⟨f0,r⟩:=hf b hb;exact⟨by rw[ao (LS b hb)];exact f0,r⟩
  have I2:Inv X gV σ (upd H s.heap.objs.size (.tup [x,y])) { s with heap:=h'' }:=by
   refine I1.ny (h':=h'') (t':=s.toks) (fun b o hb e=>?_) hf'
   simp only[S1,Ts,or_false,not_or]at hb;obtain⟨b1,b2,b3,b4,b5⟩:=hb;rcases VR e with⟨rfl,rfl⟩|e'
   ·exact up _ _ b1 hp'
   ·exact up _ _ b1 (hk' b o b1 b3 b4 b5 e')
  refine⟨.ref s.heap.objs.size,upd H s.heap.objs.size (.tup [x,y]),I2,rfl,⟨_,x,y,hn,rfl,rfl,fun zs hz=>by rw[I.oh hz q1];exact e1,fun zs hz=>by rw[I.oh hz q2];exact e2⟩,?_,fun b hb=>(hf' b hb).1⟩
  exact⟨RN,up _ _ D.TIz (hk' TI _ D.TIz D.TITO D.TIi1 D.TIi2 h2),⟨_,_,up _ _ D.TOz O2⟩,R7.at fun o e=>up _ _ D.i1z e,R6.at fun o e=>up _ _ D.i2z e⟩
 done:=by
  intro X hP hw hK hc i gV s σ H E I hf st hg;subst hP hw hK;obtain⟨h1,h2,⟨a,b,h3⟩,h4,h5⟩:=st;obtain⟨xs,ys,q1,q2,pB⟩:=hg;obtain⟨IA,rv1,o1,z1⟩:=I.oj q1;obtain⟨bJ,rv2,o2,z2⟩:=I.oj q2;have g1:=rv1.length;have g2:=rv2.length;refine yU (I.ok.hd hc) D h1 h2 h3 h4 h5 o1 o2 ?_ fun h' k=>⟨rfl,I.ny (t':=s.toks) (fun b o hb e=>?_) hf⟩
  ·rcases pB with e|e
   ·left;simp;omega
   ·right;simp;omega
  ·simp only[S1,Ts,or_false,not_or]at hb;exact k b o hb.1 hb.2.2.1 hb.2.2.2.1 hb.2.2.2.2 e
 self:=fun _ _ _ _ _ st h=>wpAny_pyIter_zip st.1 h
def itc(tp:Bool):String:=if tp=true then "tuple_iterator" else "list_iterator"
variable{prog:Program}{A:Around}{E:Value->Shared->Prop}
theorem iS{w:World}{s:Shared}(h:aR s.heap tp l xs)
  (hQ:Q (.ref s.heap.objs.size) { s with heap:=s.heap.push { cls:=.type (itc tp),data:=.fields #[.ref l,.int 0 0] } }):wpAny (model prog w) A (pyIter (.ref l)) Q E s:=by
 cases tp with
 | true=>exact wpAny_pyIter_tuple (show s.heap.IsTuple l xs from h) hQ
 | false=>exact wpAny_pyIter_list (show s.heap.IsList l xs from h) hQ
abbrev zH1(t1:Bool)(h:Heap)(l1:Addr):Heap:=h.push { cls:=.type (itc t1),data:=.fields #[.ref l1,.int 0 0] }
abbrev zH2(t1 t2:Bool)(h:Heap)(l1 l2:Addr):Heap:=(zH1 t1 h l1).push { cls:=.type (itc t2),data:=.fields #[.ref l2,.int 0 0] }
abbrev zH3(t1 t2:Bool)(h:Heap)(l1 l2:Addr):Heap:=(zH2 t1 t2 h l1 l2).push { cls:=.type "tuple",data:=.seq #[.ref h.objs.size,.ref (zH1 t1 h l1).objs.size] }
abbrev zH4(t1 t2:Bool)(h:Heap)(l1 l2:Addr):Heap:=(zH3 t1 t2 h l1 l2).push { cls:=.type "tuple",data:=.seq #[.none,.none] }
abbrev zH5(t1 t2:Bool)(h:Heap)(l1 l2:Addr):Heap:=(zH4 t1 t2 h l1 l2).push { cls:=.type "zip",data:=.fields #[.none,.bool false,.bool false,.ref (zH2 t1 t2 h l1 l2).objs.size,.ref (zH3 t1 t2 h l1 l2).objs.size] }
theorem qJ(t1 t2:Bool)(l1 l2:Addr)(xs ys:Array Value) :
  Meets (Builtin.«zip.__new__» ⟨[.type "zip",.ref l1,.ref l2],[]⟩) (fun _ R s=>aR s.heap t1 l1 xs/\aR s.heap t2 l2 ys /\
   R (.ok (.ret (.ref (zH4 t1 t2 s.heap l1 l2).objs.size))) { s with heap:=zH5 t1 t2 s.heap l1 l2 }) :=
 .of_wp fun prog w A R s h=>by
  obtain⟨hp,g,d,tk,os⟩:=s;obtain⟨hl1,hl2,h⟩:=h;have BK:=sub_zip;have hL1:aR (Shared.heap ⟨hp,g,d,tk,os⟩) t1 l1 xs:=hl1;have hL2:aR (Shared.heap ⟨hp.push { cls:=.type (itc t1),data:=.fields #[.ref l1,.int 0 0] },g,d,tk,os⟩) t2 l2 ys:=hl2.at fun o e=>j5 _ e
  wp_walk using iS hL1,iS hL2
  exact⟨_,rfl,h⟩
theorem ix{h:Heap}(e:h.get? it=some { cls:=.type (itc tp),data:=.fields #[.ref l,.int 0 0] }):aF h tp it l 0:=by
 cases tp with
 | true=>exact(show h.IsTupleIter it l 0 from⟨_,e,rfl,rfl⟩)
 | false=>exact(show h.IsListIter it l 0 from⟨_,e,rfl,rfl⟩)
theorem lj{prog:Program}{w:World}{A:Around}{E:Value->Shared->Prop}{s:Shared}(hl1:aR s.heap t1 l1 xs)(hl2:aR s.heap t2 l2 ys)
  (h:∀ h',IsZip h' (s.heap.objs.size+4) (s.heap.objs.size+2) (s.heap.objs.size+3) .none->IsPair h' (s.heap.objs.size+2) (.ref s.heap.objs.size) (.ref (s.heap.objs.size+1)) ->
   IsPair h' (s.heap.objs.size+3) .none .none->aF h' t1 s.heap.objs.size l1 0->aF h' t2 (s.heap.objs.size+1) l2 0 ->
   (∀ c o,s.heap.get? c=some o->h'.get? c=some o)->Q (.ref (s.heap.objs.size+4)) { s with heap:=h' }) :
  wpAny (model prog w) A (call (.type "zip") [.ref l1,.ref l2]) Q E s:=by
 refine callType_new F.called_zip (by decide) (F.typeCall_zip_2 _ _) (F.newCall_zip_2 _ _) (fun obj=>F.args_object_init_3 obj _ _) F.entry_zip_new
  (qJ t1 t2 l1 l2 xs ys) ⟨hl1,hl2,?_⟩
 have z1:(zH1 t1 s.heap l1).objs.size=s.heap.objs.size+1:=Tw ..;have z2:(zH2 t1 t2 s.heap l1 l2).objs.size=s.heap.objs.size+2:=by rw[Tw,z1]
 have z3:(zH3 t1 t2 s.heap l1 l2).objs.size=s.heap.objs.size+3:=by rw[Tw,z2]
 have z4:(zH4 t1 t2 s.heap l1 l2).objs.size=s.heap.objs.size+4:=by rw[Tw,z3]
 have g5:(zH5 t1 t2 s.heap l1 l2).get? (zH4 t1 t2 s.heap l1 l2).objs.size=some _:=S2 _ rfl;have g4:(zH5 t1 t2 s.heap l1 l2).get? (zH3 t1 t2 s.heap l1 l2).objs.size=some _:=j5 _ (S2 _ rfl);have g3:(zH5 t1 t2 s.heap l1 l2).get? (zH2 t1 t2 s.heap l1 l2).objs.size=some _:=j5 _ (j5 _ (S2 _ rfl));have g2:(zH5 t1 t2 s.heap l1 l2).get? (zH1 t1 s.heap l1).objs.size=some _:=j5 _ (j5 _ (j5 _ (S2 _ rfl)));have g1:(zH5 t1 t2 s.heap l1 l2).get? s.heap.objs.size=some _:=j5 _ (j5 _ (j5 _ (j5 _ (S2 _ rfl))));show _/\_;rw[z2,z3,z4]at g5;rw[z1,z2]at g3;rw[z3]at g4;rw[z1]at g2;rw[z4];exact⟨⟨_,g5,rfl⟩,h _ g5 g3 g4 (ix g1) (ix g2) fun c o x =>
  j5 _ (j5 _ (j5 _ (j5 _ (j5 _ x))))⟩
def L8(K:W.Frag)(t1 t2:Bool)(ta:TA):TI:=fun σ H R=>ta σ H fun vs H1=>∃ l1 l2,vs = [.ref l1,.ref l2]/\(∃ xs,SqB K t1 H1 l1 xs)/\(∃ ys,SqB K t2 H1 l2 ys)/\R (Itz K t1 t2 l1 l2) H1
theorem aR.obj{h:Heap}(x:aR h tp l xs):∃ o,h.get? l=some o:=by
 cases tp with
 | true=>obtain⟨o,ho,_⟩:=(show h.IsTuple l xs from x);exact⟨o,ho⟩
 | false=>obtain⟨o,ho,_⟩:=(show h.IsList l xs from x);exact⟨o,ho⟩
variable{n:Nat}
theorem mO{l1 l2:Nat}(h1:l1<n)(h2:l2<n):ZipApart (n+4) (n+2) (n+3) n (n+1) l1 l2:=by
 constructor <;>(intro z;refine absurd (show @Eq Nat _ _ from z) ?_;omega)
variable{pos':Pos}{b:Expr}
theorem Lq{x1}{a:Expr}{ta:TA}{p pos:Pos}(hg:Gl X "zip")(hm:X.mg "zip" = none)(fj:bootBuiltins "zip" = some (.type "zip"))(ha:PA X [a,b] ta)(hs:SN [a,b] X.env = [(false,eval a X.env),(false,eval b X.env)]:=by rfl)(hs2:SN [b] X.env = [(false,eval b X.env)]:=by rfl) :
  PI X (.Tuple elts x1 pos') (.Call (.Name "zip" p) [a,b] [] pos) (L8 X.K t1 t2 ta):=by
 intro gV s σ H R I h;refine Call_ (dY I hg hm fj (PyProof.Rows.callWith_type1 (thn (ha pos gV s σ H _ I h) fun us s1 ⟨vs,H1,I1,r1,q1⟩=>?_) (by rw[hs,hs2]) (by rw[hs2];rfl)))
 obtain⟨l1,l2,e,⟨xs,q2⟩,⟨ys,q3⟩,q⟩:=q1;subst e;obtain⟨u1,u2,rfl,ru1,ru2⟩:=vals2 r1;cases ru1;cases ru2;obtain⟨IA,rv1,o1,z1⟩:=I1.oj q2;obtain⟨bJ,rv2,o2,z2⟩:=I1.oj q3;obtain⟨ob1,e1⟩:=o1.obj;obtain⟨ob2,e2⟩:=o2.obj;have g1:l1<s1.heap.objs.size:=Sy e1;have g2:l2<s1.heap.objs.size:=Sy e2;refine lj o1 o2 fun h' hz hTI hTO hi1 hi2 hk=>wpAny_pyIter_zip hz ?_
 refine⟨_,[s1.heap.objs.size+4,s1.heap.objs.size+2,s1.heap.objs.size+3,s1.heap.objs.size,s1.heap.objs.size+1],_,_,H1,rfl,I1.kept (t':=s1.toks) hk,Ct _ _ _ _ _ l1 l2 ?_,⟨hz,hTI,⟨_,_,hTO⟩,hi1,hi2⟩,fun c hc=>?_,q⟩
 ·exact mO g1 g2
 ·have hc':s1.heap.objs.size<=c:=by
   simp only[S1,Ts,or_false]at hc;rcases hc with rfl|rfl|rfl|rfl|rfl <;> first|exact Nat.le_add_right _ _|exact S3 _
  exact I1.E4 hc' (I1.hok.fresh hc')
theorem A6{t:Nat}(h:ws.Nodup):(ws.drop t++ws.take t).Nodup :=
 (List.perm_append_comm (l₁:=ws.take t) (l₂:=ws.drop t)).nodup_iff.mp (by rw[List.take_append_drop];exact h)
variable{d:Addr}
theorem ku.other{q:Addr}{o:HO}(D:ku H d l)(h1:q≠d)(h2:q≠l):ku (upd H q o) d l:=by
 obtain⟨s,n,ls,D⟩:=D;exact⟨s,n,ls,by rw[ao h1.symm];exact D.hd,by rw[ao h2.symm];exact D.hl,D.s0,D.s1,D.n0,D.l0⟩
def names(ks:List Kd):List Str:=ks.flatMap fun k=>k.2.map (·.1)
variable{x:Str}
theorem take_one{xs:List Str}{i:Nat}(h:xs[i]? = some x):xs.take i ++ [x]=xs.take (i+1):=by rw[S8,h];rfl
variable{es:List Expr}
theorem kQ{K:W.Frag}{k:Nat}{pos:Pos}{t:TGs}(hK:X.K=K)(hc:X.calm=true)(h:PGs X es t)
  (hn:(assignEach es X.env).length=n:=by rfl) (hst:(assignEach es X.env).findIdx? (·.1)=none:=by rfl):PG X (.Tuple es k pos) (IL K n t):=hK▸Ls hc h hn hst
abbrev mK(h:Heap)(z TI TO:Addr)(a:Addr)(f:Bool):Prop :=
 h.get? z=some { cls:=.type "zip",dict:=none,data:=.fields #[rawInt a,.bool f,.bool false,.ref TI,.ref TO],slots:=#[] }
variable{oa:Obj}
section
variable{w:World}{s:Shared}
theorem vV{TI TO:Addr}{f:Bool}{Q:Bool->Shared->Prop}(hz:mK s.heap z TI TO a f)(ha:s.heap.get? a=some oa)
  (hQ:∀ h',mK h' z TI TO a true->T7 z s.heap h'->Q false { s with heap:=h' }):wpAny (model prog w) A (Builtin.SmallTypes.ownedTupleIsFree (.ref z)) Q E s:=by
 unfold Builtin.SmallTypes.ownedTupleIsFree;refine j0 (wpAny_field hz rfl (x:=rawInt a) rfl ?_);show wpAny _ _ (loadIfAlive ((a:Int).toNat) >>= _) _ _ _;rw[UP];refine j0 (W.kdx_alive ha ?_);simp only[Option.isNone_some,UW,if_false];refine j0 (wpAny_field hz rfl (x:=.bool f) rfl ?_);cases f with
 | true =>
  rw[if_neg (show ¬((Value.bool true != Value.bool true)=true)from Ta)];exact M7 (hQ _ hz (Heap.SameBut.refl _ _))
 | false =>
  rw[if_pos (show(Value.bool false != Value.bool true)=true from rfl)];refine j0 (wpAny_setField_rec hz (by simp) fun h₃ he₃ hs₃=>?_)
  exact M7 (hQ _ he₃ hs₃)
theorem Gr{TI TO:Addr}{f:Bool}{x y:Value}{Q:Option Value->Shared->Prop}(D:ZipApart z TI TO i1 i2 l1 l2)
  (hz:mK s.heap z TI TO a f) (ha:s.heap.get? a=some oa) (hTI:IsPair s.heap TI (.ref i1) (.ref i2))
  (h1:aF s.heap t1 i1 l1 k1) (h2:aF s.heap t2 i2 l2 k2) (hl1:aR s.heap t1 l1 xs) (hl2:aR s.heap t2 l2 ys) (hx:xs[k1]? = some x) (hy:ys[k2]? = some y)
  (hQ:∀ h',mK h' z TI TO a true->aF h' t1 i1 l1 (k1+1)->aF h' t2 i2 l2 (k2+1)->IsPair h' s.heap.objs.size x y->h'.objs.size=s.heap.objs.size+1 ->
   (∀ c o,c≠z->c≠i1->c≠i2->s.heap.get? c=some o->h'.get? c=some o)->Q (some (.ref s.heap.objs.size)) { s with heap:=h' }) :
  wpAny (model prog w) A (pyNext (.ref z)) Q E s:=by
 have hT:s.TypeIs (.ref z) "zip":=⟨_,hz,rfl⟩;unfold pyNext;refine j0 (Uw (wpAny_callSpecial?_slot (name:=Str.ofString "__next__") hT F.slot_zip_next
  (TL F.slot_zip_next hT F.entry_zip_next ?_ (F.args_zip_next_1 _))))
 show wpAny _ _ (field (.ref z) 2 >>= _) _ _ _;refine j0 (wpAny_field hz rfl (x:=.bool false) rfl ?_);show wpAny _ _ (field (.ref z) 3 >>= _) _ _ _;refine j0 (wpAny_field hz rfl (x:=.ref TI) rfl ?_);refine j0 (wpAny_seqItems hTI rfl ?_);show wpAny _ _ (Builtin.SmallTypes.ownedTupleIsFree (.ref z) >>= _) _ _ _;refine j0 (vV hz ha fun h₁ hz₁ hs₁=>?_)
 simp only[UW,if_false];rw[<- V4];simp only[U5,Vp];refine j0 (j0 (j0 (TY ?_)));show wpAny _ _ (Builtin.SmallTypes.nextOf (.ref i1) >>= _) _ _ _;refine j0 (next_item (h1.at fun o e=>hs₁.extBut _ o D.i1z e) (hl1.at fun o e=>hs₁.extBut _ o D.l1z e) hx fun h₂ h1₂ hs₂=>M7 (M7 ?_))
 refine j0 (j0 (TY ?_));show wpAny _ _ (Builtin.SmallTypes.nextOf (.ref i2) >>= _) _ _ _;refine j0 (next_item (h2.at fun o e=>hs₂.extBut _ o D.i12.symm (hs₁.extBut _ o D.i2z e)) (hl2.at fun o e=>hs₂.extBut _ o D.l2i1 (hs₁.extBut _ o D.l2z e)) hy fun h₃ h2₃ hs₃=>M7 (M7 ?_))
 refine M7 ?_;show wpAny _ _ (newTuple [x,y] >>= _) _ _ _;refine j0 (wpAny_newTuple ?_);have hsz:h₃.objs.size=s.heap.objs.size:=by rw[hs₃.1,hs₂.1,hs₁.1]
 have up:∀ c o,c≠z->c≠i1->c≠i2->s.heap.get? c=some o ->(h₃.push { cls:=.type "tuple",data:=.seq #[x,y] }).get? c=some o:=fun c o c1 c2 c3 e =>
  j5 _ (hs₃.extBut _ _ c3 (hs₂.extBut _ _ c2 (hs₁.extBut _ _ c1 e)))
 refine M7 ⟨_,rfl,M7 ?_⟩;show Q (some (.ref h₃.objs.size)) _;rw[hsz];refine hQ _ (j5 _ (hs₃.extBut _ _ D.i2z.symm (hs₂.extBut _ _ D.i1z.symm hz₁))) ?_ ?_ ?_ ?_ up
 ·exact h1₂.at fun o e=>j5 _ (hs₃.extBut _ o D.i12 e)
 ·exact h2₃.at fun o e=>j5 _ e
 ·rw[<- hsz];exact S2 _ rfl
 ·rw[Tw,hsz]
theorem ve{TI TO:Addr}{f:Bool}{Q:Option Value->Shared->Prop}(hh:A.handled=none)(D:ZipApart z TI TO i1 i2 l1 l2)
  (hz:mK s.heap z TI TO a f) (ha:s.heap.get? a=some oa) (hTI:IsPair s.heap TI (.ref i1) (.ref i2))
  (h1:aF s.heap t1 i1 l1 k1) (h2:aF s.heap t2 i2 l2 k2) (hl1:aR s.heap t1 l1 xs) (hl2:aR s.heap t2 l2 ys) (pB:xs[k1]? = none\/ys[k2]? = none)
  (hQ:∀ h',(∀ c o,c≠z->c≠i1->c≠i2->s.heap.get? c=some o->h'.get? c=some o)->Q none { s with heap:=h' }) :
  wpAny (model prog w) A (pyNext (.ref z)) Q E s:=by
 have hT:s.TypeIs (.ref z) "zip":=⟨_,hz,rfl⟩;have fin:∀ h' e,(∀ c o,c≠z->c≠i1->c≠i2->s.heap.get? c=some o->h'.get? c=some o) ->(∃ o,h'.get? e=some o/\o.cls = .type "StopIteration") ->
   wpAny (model prog w) A (do if <- isInstance (.ref e) (.type "StopIteration")then pure none else throw (.ref e)) Q E { s with heap:=h' }:=fun h' e hk he=>by
  obtain⟨o,ho,hc⟩:=he;refine j0 (Uu (T:="StopIteration") (b:=true) ⟨o,ho,hc⟩ isSubtype_stop ?_);exact M7 (hQ _ hk)
 unfold pyNext;refine j0 (Uw (wpAny_callSpecial?_slot (name:=Str.ofString "__next__") hT F.slot_zip_next
  (TL F.slot_zip_next hT F.entry_zip_next ?_ (F.args_zip_next_1 _))))
 show wpAny _ _ (field (.ref z) 2 >>= _) _ _ _;refine j0 (wpAny_field hz rfl (x:=.bool false) rfl ?_);show wpAny _ _ (field (.ref z) 3 >>= _) _ _ _;refine j0 (wpAny_field hz rfl (x:=.ref TI) rfl ?_);refine j0 (wpAny_seqItems hTI rfl ?_);show wpAny _ _ (Builtin.SmallTypes.ownedTupleIsFree (.ref z) >>= _) _ _ _;refine j0 (vV hz ha fun h₁ hz₁ hs₁=>?_)
 simp only[UW,if_false];rw[<- V4];simp only[U5,Vp];refine j0 (j0 (j0 (TY ?_)));show wpAny _ _ (Builtin.SmallTypes.nextOf (.ref i1) >>= _) _ _ _;cases hx:xs[k1]? with
 | none =>
  refine j0 (next_end hh (h1.at fun o e=>hs₁.extBut _ o D.i1z e) (hl1.at fun o e=>hs₁.extBut _ o D.l1z e) hx fun h₂ e hs₂ he=>?_)
  exact fin h₂ e (fun c o c1 c2 _ x=>hs₂ _ _ c2 (hs₁.extBut _ _ c1 x)) he
 | some x =>
  have hy:ys[k2]? = none:=by rcases pB with h|h;rw[hx]at h;cases h;exact h
  refine j0 (next_item (h1.at fun o e=>hs₁.extBut _ o D.i1z e) (hl1.at fun o e=>hs₁.extBut _ o D.l1z e) hx fun h₂ h1₂ hs₂=>M7 (M7 ?_))
  refine j0 (j0 (TY ?_));show wpAny _ _ (Builtin.SmallTypes.nextOf (.ref i2) >>= _) _ _ _;refine j0 (next_end hh (h2.at fun o e=>hs₂.extBut _ o D.i12.symm (hs₁.extBut _ o D.i2z e)) (hl2.at fun o e=>hs₂.extBut _ o D.l2i1 (hs₁.extBut _ o D.l2z e)) hy fun h₃ e hs₃ he=>?_)
  exact fin h₃ e (fun c o c1 c2 c3 x=>hs₃ _ _ c3 (hs₂.extBut _ _ c2 (hs₁.extBut _ _ c1 x))) he
end
structure ZSt(h:Heap)(z TI TO i1 i2 l1 l2 S:Addr)(t1 t2:Bool)(i:Nat):Prop where
 ti:IsPair h TI (.ref i1) (.ref i2)
 s1:aF h t1 i1 l1 i
 s2:aF h t2 i2 l2 i
 st:(IsZip h z TI TO .none/\∃ a b,IsPair h TO a b)\/∃(a:Addr)(f:Bool)(oa:Obj),mK h z TI TO a f/\h.get? a=some oa/\a≠z/\a≠S/\a≠i1/\a≠i2
variable{S:Addr}
theorem ZSt.keep{h:Heap}{TI TO:Addr}{i:Nat}(x:ZSt h z TI TO i1 i2 l1 l2 S t1 t2 i)(k:∀ b o,b≠S->h.get? b=some o->h'.get? b=some o)(hz:z≠S)(hTI:TI≠S)(hTO:TO≠S)(h1:i1≠S)(h2:i2≠S):ZSt h' z TI TO i1 i2 l1 l2 S t1 t2 i :=
 ⟨k _ _ hTI x.ti,x.s1.at fun o e=>k _ o h1 e,x.s2.at fun o e=>k _ o h2 e,by
  rcases x.st with⟨e,a,b,e2⟩ |⟨a,f,oa,e,e2,n1,n2,n3⟩
  ·exact .inl ⟨k _ _ hz e,a,b,k _ _ hTO e2⟩
  ·exact .inr ⟨a,f,oa,k _ _ hz e,k _ _ n2 e2,n1,n2,n3⟩⟩
structure ZG(xs ys:Array Value)(lo:Nat)(h:Heap)(as:List Addr):Prop where
 rise:as.Pairwise (· < ·)
 above:∀ a∈as,lo<=a
 pairs:∀(j:Nat)(a:Addr),as[j]? = some a->∃ x y,xs[j]? = some x/\ys[j]? = some y/\IsPair h a x y
theorem ZG.there{lo:Nat}{h:Heap}{as:List Addr}(g:ZG xs ys lo h as)(ha:a∈as):a<h.objs.size:=by
 obtain⟨j,hj⟩:=List.mem_iff_getElem?.mp ha;obtain⟨_,_,_,_,e⟩:=g.pairs j a hj;exact Sy e
section
variable{w:World}{s:Shared}
theorem Gk{E:Value->Shared->Prop}{TI TO:Addr}{k:Nat}{x y:Value}{Q:Option Value->Shared->Prop}(D:ZipApart z TI TO i1 i2 l1 l2)
  (st:ZSt s.heap z TI TO i1 i2 l1 l2 S t1 t2 k) (hS:S<s.heap.objs.size) (hl1:aR s.heap t1 l1 xs) (hl2:aR s.heap t2 l2 ys) (hx:xs[k]? = some x) (hy:ys[k]? = some y)
  (hQ:∀ h',ZSt h' z TI TO i1 i2 l1 l2 S t1 t2 (k+1)->IsPair h' s.heap.objs.size x y->h'.objs.size=s.heap.objs.size+1 ->
   (∀ c o,c≠z->c≠TO->c≠i1->c≠i2->s.heap.get? c=some o->h'.get? c=some o)->Q (some (.ref s.heap.objs.size)) { s with heap:=h' }) :
  wpAny (model prog w) A (pyNext (.ref z)) Q E s:=by
 obtain⟨o1,g1,_⟩:=st.s1.obj;obtain⟨o2,g2,_⟩:=st.s2.obj;rcases st.st with⟨hz,a,b,hTO⟩ |⟨a,f,oa,hz,ha,n1,n2,n3,n4⟩
 ·refine vg D hz st.ti hTO st.s1 st.s2 hl1 hl2 hx hy fun h' hz' O2 e1 e2 hp hsz hk=>hQ h' ⟨hk _ _ D.TIz D.TITO D.TIi1 D.TIi2 st.ti,e1,e2,.inr ⟨s.heap.objs.size,false,_,hz',hp,?_,?_,?_,?_⟩⟩ hp hsz hk
  ·exact T8 (Sy hz)
  ·exact T8 hS
  ·exact T8 (Sy g1)
  ·exact T8 (Sy g2)
 ·exact Gr D hz ha st.ti st.s1 st.s2 hl1 hl2 hx hy fun h' hz' e1 e2 hp hsz hk=>hQ h' ⟨hk _ _ D.TIz D.TIi1 D.TIi2 st.ti,e1,e2,.inr ⟨a,true,oa,hz',hk a oa n1 n3 n4 ha,n1,n2,n3,n4⟩⟩ hp hsz fun c o c1 _ c3 c4 e=>hk c o c1 c3 c4 e
theorem Gm{TI TO:Addr}{k:Nat}{Q:Option Value->Shared->Prop}(hh:A.handled=none)(D:ZipApart z TI TO i1 i2 l1 l2)
  (st:ZSt s.heap z TI TO i1 i2 l1 l2 S t1 t2 k) (hl1:aR s.heap t1 l1 xs) (hl2:aR s.heap t2 l2 ys) (pB:xs[k]? = none\/ys[k]? = none)
  (hQ:∀ h',(∀ c o,c≠z->c≠TO->c≠i1->c≠i2->s.heap.get? c=some o->h'.get? c=some o)->Q none { s with heap:=h' }):wpAny (model prog w) A (pyNext (.ref z)) Q E s:=by
 rcases st.st with⟨hz,a,b,hTO⟩ |⟨a,f,oa,hz,ha,n1,n2,n3,n4⟩
 ·exact yU hh D hz st.ti hTO st.s1 st.s2 hl1 hl2 pB hQ
 ·exact ve hh D hz ha st.ti st.s1 st.s2 hl1 hl2 pB fun h' hk=>hQ h' fun c o c1 _ c3 c4 e=>hk c o c1 c3 c4 e
theorem Gn{R:Result->Shared->Prop}{TI TO:Addr}{t1 t2:Bool}{lo:Nat}(hh:A.handled=none)(D:ZipApart z TI TO i1 i2 l1 l2)(hzS:z≠S)(yk:TI≠S)(uk:TO≠S)(h1S:i1≠S)(h2S:i2≠S)(yj:l1≠S)(yi:l2≠S)
  (oS:S<lo) (oz:z<lo) (oTO:TO<lo) (o1:i1<lo) (o2:i2<lo) (en:n=min xs.size ys.size) (hn:n<=S4) (res:Value) {h₁:Heap}
  (hR:∀ h' tk acc c as,(∀ b o,b≠S->b≠z->b≠TO->b≠i1->b≠i2->h₁.get? b=some o->h'.get? b=some o)->h'.get? S=some { cls:=.type "list",dict:=none,data:=.seq acc c,slots:=#[] }->as.length=n->ZG xs ys lo h' as ->
   acc.toList=as.map Value.ref->R (.ok (.ret res)) { s with heap:=h',toks:=tk }) :
  ∀(k i:Nat)(h:Heap)(tk c:Nat)(acc:Array Value)(as:List Addr),n - i=k->i<=n->ZSt h z TI TO i1 i2 l1 l2 S t1 t2 i->aR h t1 l1 xs->aR h t2 l2 ys ->(∀ b o,b≠S->b≠z->b≠TO->b≠i1->b≠i2->h₁.get? b=some o->h.get? b=some o) ->
   h.get? S=some { cls:=.type "list",dict:=none,data:=.seq acc c,slots:=#[] }->acc.toList=as.map Value.ref->as.length=i->ZG xs ys lo h as->lo<=h.objs.size ->
   codeAny (model prog w) A (.builtin "list.extend.loop" ⟨[.ref S,.ref z,res],[]⟩) R { s with heap:=h,toks:=tk }:=by
 have ne:∀{a b:Nat},a<lo->lo<=b->b≠a:=fun h1 h2=>by omega
 intro k
 induction k with
 | zero =>
  intro i h tk c acc as hk hi hst hL1 hL2 EU hS fk hal hG hIs;have hin:i=n:=by omega
  refine Ui PySem.F.entry_extend_loop ?_;rw[T6 PySem.F.plain_extend_loop _];show wpAny _ A.in1 (pyNext (.ref z) >>= _) _ _ _;refine j0 (Gm (s:={ s with heap:=h,toks:=tk }) (A:=A.in1) hh D hst hL1 hL2 ?_ fun h' he=>?_)
  ·by_cases q:xs.size<=i
   ·exact .inl (Va q)
   ·exact .inr (Va (by omega))
  refine M7 (hR h' tk acc c as (fun b o b1 b2 b3 b4 b5 e=>he b o b2 b3 b4 b5 (EU b o b1 b2 b3 b4 b5 e)) (he S _ hzS.symm uk.symm h1S.symm h2S.symm hS) (by omega) ⟨hG.rise,hG.above,fun j a hj=>?_⟩ fk)
  obtain⟨x,y,e1,e2,e3⟩:=hG.pairs j a hj;have ab:=hG.above a (RB hj);exact⟨x,y,e1,e2,he a _ (ne oz ab) (ne oTO ab) (ne o1 ab) (ne o2 ab) e3⟩
 | succ k ih =>
  intro i h tk c acc as hk hi hst hL1 hL2 EU hS fk hal hG hIs;have hlt:i<n:=by omega
  obtain⟨x,hx⟩:∃ x,xs[i]? = some x:=⟨xs[i]'(by omega),by simp[show i<xs.size by omega]⟩
  obtain⟨y,hy⟩:∃ y,ys[i]? = some y:=⟨ys[i]'(by omega),by simp[show i<ys.size by omega]⟩
  have hsz:acc.size=i:=by rw[<- Ug,fk,j3,hal]
  refine Ui PySem.F.entry_extend_loop ?_;rw[T6 PySem.F.plain_extend_loop _];show wpAny _ A.in1 (pyNext (.ref z) >>= _) _ _ _;refine j0 (Gk (s:={ s with heap:=h,toks:=tk }) (S:=S) D hst (Sy hS) hL1 hL2 hx hy fun h' ES ht hz hkp=>?_)
  dsimp only at ht hz hkp ⊢;have hS':=hkp S _ hzS.symm uk.symm h1S.symm h2S.symm hS;have up:∀ b o,b≠S->h'.get? b=some o ->(h'.update S (T3 (·.push (Value.ref h.objs.size)))).get? b=some o:=fun b o hb e=>(T5 _ _ (Ne.symm hb)).trans e
  have hSl:S<h.objs.size:=Sy hS;show wpAny _ A.in1 (updateSeq S (·.push (Value.ref h.objs.size)) >>= _) _ _ _;refine j0 ?_;refine UM hS' rfl (M7 ⟨Uv PySem.F.plain_extend_loop _,ih (i+1) _ tk _ (acc.push (Value.ref h.objs.size)) (as ++ [h.objs.size]) (by first |(rw[Nat.sub_succ];exact congrArg Nat.pred ‹_›)|omega) hlt (ES.keep up hzS yk uk h1S h2S)
   (hL1.at fun o e=>up _ o yj (hkp _ o D.l1z D.l1TO D.l1i1 D.l1i2 e)) (hL2.at fun o e=>up _ o yi (hkp _ o D.l2z D.l2TO D.l2i1 D.l2i2 e))
   (fun b o b1 b2 b3 b4 b5 e=>up b o b1 (hkp b o b2 b3 b4 b5 (EU b o b1 b2 b3 b4 b5 e))) (Tt _ hS' rfl) (by rw[Vz,fk,S9];rfl) (by rw[RM,hal];rfl) ⟨?_,?_,?_⟩ ?_⟩) (by rw[hsz];omega) (by show(acc.push (Value.ref h.objs.size)).size<=S4+1;rw[Array.size_push,hsz];omega)
  ·refine List.pairwise_append.mpr ⟨hG.rise,List.pairwise_singleton _ _,fun a ha b hb=>?_⟩
   rw[qr.mp hb];exact hG.there ha
  ·intro a ha;rcases SY.mp ha with ha|ha
   ·exact hG.above a ha
   ·rw[qr.mp ha];exact hIs
  ·intro j b hj;rcases Nat.lt_trichotomy j as.length with h1|h1|h1
   ·rw[TC h1]at hj;obtain⟨x',y',e1,e2,e3⟩:=hG.pairs j b hj;have ab:=hG.above b (RB hj);exact⟨x',y',e1,e2,up b _ (ne oS ab) (hkp b _ (ne oz ab) (ne oTO ab) (ne o1 ab) (ne o2 ab) e3)⟩
   ·subst h1;have hb:h.objs.size=b:=by simpa using hj
    subst hb;exact⟨x,y,by rw[hal];exact hx,by rw[hal];exact hy,up _ _ (T8 hSl) ht⟩
   ·have OU:(as ++ [h.objs.size])[j]? = none:=Uh (by rw[RM,TH];omega)
    rw[OU]at hj;cases hj
  ·have e:(h'.update S (T3 (·.push (Value.ref h.objs.size)))).get? h.objs.size=_:=up _ _ (T8 hSl) ht
   have:=Sy e
   have Se:lo<=h.objs.size:=hIs;exact Tn Se (Tr this)
end
theorem wK:typeLookup (.type "zip") "__len__" = pure none:=by rw[typeLookup_type,builtinLookup_eq_fast];kernel_rfl
theorem vf:typeLookup (.type "zip") "__length_hint__" = pure none:=by rw[typeLookup_type,builtinLookup_eq_fast];kernel_rfl
section
variable{w:World}{s:Shared}
theorem AI{R:Result->Shared->Prop}{TI TO:Addr}(hh:A.handled=none)(D:ZipApart z TI TO i1 i2 l1 l2)(hzS:z≠S)(yk:TI≠S)(uk:TO≠S)(h1S:i1≠S)(h2S:i2≠S)(yj:l1≠S)(yi:l2≠S)
  (hz:IsZip s.heap z TI TO .none) {ta tb:Value} (hTO:IsPair s.heap TO ta tb) (hTI:IsPair s.heap TI (.ref i1) (.ref i2)) (hs1:aF s.heap t1 i1 l1 0) (hs2:aF s.heap t2 i2 l2 0) (hL1:aR s.heap t1 l1 xs) (hL2:aR s.heap t2 l2 ys)
  (en:n=min xs.size ys.size) (hn:n<=S4) (res:Value) (c₀:Nat) (hS:s.heap.get? S=some { cls:=.type "list",data:=.seq #[] c₀ })
  (hR:∀ h' tk acc c as,(∀ b o,b≠S->b≠z->b≠TO->b≠i1->b≠i2->s.heap.get? b=some o->h'.get? b=some o)->h'.get? S=some { cls:=.type "list",dict:=none,data:=.seq acc c,slots:=#[] }->as.length=n->ZG xs ys s.heap.objs.size h' as ->
   acc.toList=as.map Value.ref->R (.ok (.ret res)) { s with heap:=h',toks:=tk }) :
  wpAny (model prog w) A.in1 (Builtin.List.listExtendWith (.ref S) (.ref z) res)
   (fun fin s'=>match fin with | .done f=>R (.ok f) s' | .again c'=>c'.quiet=true/\codeAny (model prog w) A c' R s') (fun e s'=>R (.error e) s') s:=by
 have hT:s.TypeIs (.ref z) "zip":=⟨_,hz,rfl⟩;obtain⟨ob1,g1,_⟩:=hs1.obj;obtain⟨ob2,g2,_⟩:=hs2.obj;unfold Builtin.List.listExtendWith;refine j0 (Uo hT ?_);have e1:Builtin.List.listSameRef (.ref S) (.ref z)=false:=by simp[Builtin.List.listSameRef,hzS.symm]
 have e2:(Value.type "zip" == Value.type "list")=false:=by decide
 have e3:(Value.type "zip" == Value.type "tuple")=false:=by decide
 simp only[e1,e2,e3,Bool.or_false,UW,if_false];refine j0 (wpAny_pyIter_zip hz ?_);refine j0 (TY ?_);unfold Builtin.List.listLengthHint;refine j0 (UL hT wK ?_);show wpAny _ A.in1 (specialOf (Value.ref z) (Str.ofString "__length_hint__") >>= _) _ _ _;refine j0 (UL hT vf ?_);refine M7 ?_;show wpAny _ A.in1 (rule "list.extend.makes-room" >>= fun _=>Builtin.List.listTouch (.ref S) >>= fun _ =>
  again (.builtin "list.extend.loop" ⟨[.ref S,.ref z,res],[]⟩)) _ _ _
 refine j0 (Uz ?_);refine j0 ?_;show wpAny _ A.in1 (updateSeq S (·.push .none) >>= fun _=>updateSeq S (·.pop)) _ _ _
 refine j0 (UM hS rfl ?_);have hS₂:=Tt (T3 (·.push Value.none)) hS rfl;refine UM (hz:=by seq_fits) hS₂ rfl ?_
 have hS₃:=Tt (T3 (·.pop)) hS₂ rfl;have oth:∀ b o,b≠S->s.heap.get? b=some o ->((s.heap.update S (T3 (·.push Value.none))).update S (T3 (·.pop))).get? b=some o :=
  fun b o hb e=>(T5 _ _ (Ne.symm hb)).trans ((T5 _ _ (Ne.symm hb)).trans e)
 have hsz:((s.heap.update S (T3 (·.push Value.none))).update S (T3 (·.pop))).objs.size=s.heap.objs.size:=by
  rw[(Heap.SameBut.update (h:=s.heap.update S (T3 (·.push Value.none))) (a:=S) ..).1,(Heap.SameBut.update (h:=s.heap) (a:=S) ..).1]
 refine M7 ⟨Uv F.plain_extend_loop _,Gn (s:=s) (h₁:=s.heap) (t1:=t1) (t2:=t2) (xs:=xs) (ys:=ys) (n:=n) (lo:=s.heap.objs.size) hh D hzS yk uk h1S h2S yj yi (Sy hS) (Sy hz) (Sy hTO) (Sy g1) (Sy g2) en hn res hR n 0 _ _ _ _ [] (by omega) (TX _)
  ⟨oth _ _ yk hTI,hs1.at fun o e=>oth _ o h1S e,hs2.at fun o e=>oth _ o h2S e,.inl ⟨oth _ _ hzS hz,ta,tb,oth _ _ uk hTO⟩⟩ (hL1.at fun o e=>oth _ o yj e) (hL2.at fun o e=>oth _ o yi e) (fun b o b1 _ _ _ _ e=>oth b o b1 e) hS₃ rfl rfl ⟨List.Pairwise.nil,fun _ z=>(nomatch z),fun j a hj=>by simp at hj⟩ (by rw[hsz];exact S3 _)⟩
theorem Gp{R:Result->Shared->Prop}{TI TO:Addr}(hh:A.handled=none)(D:ZipApart z TI TO i1 i2 l1 l2)(hzS:z≠S)(yk:TI≠S)(uk:TO≠S)(h1S:i1≠S)(h2S:i2≠S)(yj:l1≠S)(yi:l2≠S)
  (hz:IsZip s.heap z TI TO .none) {ta tb:Value} (hTO:IsPair s.heap TO ta tb) (hTI:IsPair s.heap TI (.ref i1) (.ref i2)) (hs1:aF s.heap t1 i1 l1 0) (hs2:aF s.heap t2 i2 l2 0) (hL1:aR s.heap t1 l1 xs) (hL2:aR s.heap t2 l2 ys)
  (en:n=min xs.size ys.size) (hn:n<=S4) (hS:s.heap.get? S=some { cls:=.type "list",data:=.seq #[] })
  (hR:∀ h' tk acc c as,(∀ b o,b≠S->b≠z->b≠TO->b≠i1->b≠i2->s.heap.get? b=some o->h'.get? b=some o)->h'.get? S=some { cls:=.type "list",dict:=none,data:=.seq acc c,slots:=#[] }->as.length=n->ZG xs ys s.heap.objs.size h' as ->
   acc.toList=as.map Value.ref->R (.ok (.ret .none)) { s with heap:=h',toks:=tk }) :
  wpAny (model prog w) A.in1 (Builtin.«list.__init__» ⟨[.ref S,.ref z],[]⟩)
   (fun fin s'=>match fin with | .done f=>R (.ok f) s' | .again c'=>c'.quiet=true/\codeAny (model prog w) A c' R s') (fun e s'=>R (.error e) s') s:=by
 show wpAny _ _ (do let old <- Builtin.List.listItems (.ref S);Builtin.List.listUpdate (.ref S) (fun _=>#[]);letGo old.toList.reverse;Builtin.List.listExtendWith (.ref S) (.ref z) .none) _ _ s
 refine j0 ?_;unfold Builtin.List.listItems;refine j0 (wpAny_seqItems hS rfl (M7 ?_));show wpAny _ _ (updateSeq S (fun _=>#[]) >>= fun _=>letGo (#[]:Array Value).toList.reverse >>= fun _=>Builtin.List.listExtendWith (.ref S) (.ref z) .none) _ _ s
 refine j0 (UM hS rfl ?_);have hS₂:=Tt (T3 (fun _=>(#[]:Array Value))) hS rfl
 have oth:∀ b o,b≠S->s.heap.get? b=some o ->(s.heap.update S (T3 (fun _=>(#[]:Array Value)))).get? b=some o :=
  fun b o hb e=>(T5 _ _ (Ne.symm hb)).trans e
 have hsz:(s.heap.update S (T3 (fun _=>(#[]:Array Value)))).objs.size=s.heap.objs.size:=(Heap.SameBut.update (h:=s.heap) (a:=S) ..).1
 refine j0 (wpAny_letGo ?_);refine AI (xs:=xs) (ys:=ys) (n:=n) hh D hzS yk uk h1S h2S yj yi (oth _ _ hzS hz) (oth _ _ uk hTO) (oth _ _ yk hTI) (hs1.at fun o e=>oth _ o h1S e) (hs2.at fun o e=>oth _ o h2S e) (hL1.at fun o e=>oth _ o yj e) (hL2.at fun o e=>oth _ o yi e) en hn .none _ hS₂ (fun h' tk acc c as hk hS' hl hG fk=>?_)
 dsimp only at hG;rw[hsz]at hG;exact hR h' tk acc c as (fun b o b1 b2 b3 b4 b5 e=>hk b o b1 b2 b3 b4 b5 (oth b o b1 e)) hS' hl hG fk
theorem Gq{E:Value->Shared->Prop}{Q:Value->Shared->Prop}{TI TO:Addr}(hh:A.handled=none)(D:ZipApart z TI TO i1 i2 l1 l2)
  (hz:IsZip s.heap z TI TO .none) {ta tb:Value} (hTO:IsPair s.heap TO ta tb) (hTI:IsPair s.heap TI (.ref i1) (.ref i2)) (hs1:aF s.heap t1 i1 l1 0) (hs2:aF s.heap t2 i2 l2 0) (hL1:aR s.heap t1 l1 xs) (hL2:aR s.heap t2 l2 ys)
  (en:n=min xs.size ys.size) (hn:n<=S4)
  (hQ:∀ h' tk acc c as,(∀ b o,b≠z->b≠TO->b≠i1->b≠i2->s.heap.get? b=some o->h'.get? b=some o)->h'.get? s.heap.objs.size=some { cls:=.type "list",dict:=none,data:=.seq acc c,slots:=#[] }->as.length=n->ZG xs ys (s.heap.objs.size+1) h' as ->
   acc.toList=as.map Value.ref->Q (.ref s.heap.objs.size) { s with heap:=h',toks:=tk }) :
  wpAny (model prog w) A (call (.type "list") [.ref z]) Q E s:=by
 refine callType_codes (Q₁:=fun obj s₁=>obj = .ref s.heap.objs.size/\s₁ ={ s with heap:=s.heap.push { cls:=.type "list",data:=.seq #[] } }) PySem.F.called_list (PySem.F.typeCall_list_1 _) PySem.F.entry_list_init
  (code_list_new _ ⟨rfl,rfl⟩) fun obj s₁ h₁=>?_
 obtain⟨rfl,rfl⟩:=h₁;have hS:(s.heap.push { cls:=.type "list",data:=.seq #[] }).get? s.heap.objs.size=some { cls:=.type "list",data:=.seq #[] }:=S2 _ rfl;obtain⟨ob1,g1,_⟩:=hs1.obj;obtain⟨ob2,g2,_⟩:=hs2.obj;obtain⟨ob3,g3⟩:=hL1.obj;obtain⟨ob4,g4⟩:=hL2.obj;have up:∀ b o,s.heap.get? b=some o ->(s.heap.push { cls:=.type "list",data:=.seq #[] }).get? b=some o:=fun b o e=>j5 _ e
 refine⟨⟨_,hS,rfl⟩,PySem.F.args_list_init_2 _ _,Gp (A:=A.in1) (xs:=xs) (ys:=ys) (n:=n) hh D (Tf (Sy hz)) (Tf (Sy hTI)) (Tf (Sy hTO)) (Tf (Sy g1)) (Tf (Sy g2)) (Tf (Sy g3)) (Tf (Sy g4))
  (up _ _ hz) (up _ _ hTO) (up _ _ hTI) (hs1.at fun o e=>up _ o e) (hs2.at fun o e=>up _ o e) (hL1.at fun o e=>up _ o e) (hL2.at fun o e=>up _ o e) en hn hS (fun h' tk acc c as hk hS' hl hG fk=>?_)⟩
 dsimp only at hG;rw[Tw]at hG;exact⟨rfl,hQ h' tk acc c as (fun b o b2 b3 b4 b5 e=>hk b o (Tf (Sy e)) b2 b3 b4 b5 (up b o e)) hS' hl hG fk⟩
end
def pO(h:Heap)(m:Nat):Heap:={ h with objs:=h.objs.extract 0 m }
theorem la{h:Heap}{m b:Nat}(hb:b<m):(pO h m).get? b=h.get? b:=by
 unfold pO Heap.get?;have e:(h.objs.extract 0 m)[b]? = h.objs[b]?:=by
  rw[Array.getElem?_extract];by_cases q:b<h.objs.size
  ·rw[if_pos (by have:b<m:=hb;omega),UA]
  ·rw[if_neg (by omega),Va (by omega)]
 simp only[e]
theorem pN{h:Heap}{m:Nat}(hm:m<=h.objs.size):(pO h m).objs.size=m:=by
 unfold pO;rw[Array.size_extract];omega
theorem Jb{h:Heap}{m:Nat}{b:Addr}{u:Obj}(hm:m<=h.objs.size)(e:(pO h m).get? b=some u):h.get? b=some u:=by
 have:=Sy e
 rw[pN hm]at this;rw[<- la this];exact e
def jN(H:Hp):List (Addr×HO)->Hp
 | []=>H
 | p::r=>jN (upd H p.1 p.2) r
theorem lG:∀{os:List (Addr×HO)}{H:Hp}{c:Addr},c ∉ os.map (·.1)->jN H os c=H c
 | [],_,_,_=>rfl
 | p::r,H,c,h=>by
  show jN (upd H p.1 p.2) r c=H c;rw[lG (fun z=>h (SK _ z)),ao fun z=>h (by rw[z];exact SG)]
theorem lH:∀{os:List (Addr×HO)}{H:Hp}{p:Addr×HO},(os.map (·.1)).Nodup->p∈os->jN H os p.1=some p.2
 | q::r,H,p,hn,hp=>by
  have h':=TB.mp hn;show jN (upd H q.1 q.2) r p.1=some p.2;rcases S1.mp hp with rfl|hp
  ·rw[lG h'.1,ax]
  ·exact lH h'.2 hp
theorem vj:∀ as:List Addr,Vals (as.map V.ref) (as.map Value.ref)
 | []=>.nil
 | a::r=>.cons rfl (vj r)
theorem Inv.EC{X:Cx}{gV:List (Addr×Obj)}{σ:St}{s:Shared}{h':Heap}:∀{os:List (Addr×HO)}{H:Hp}{m:Nat},Inv X gV σ H { s with heap:=pO h' m }->m<=h'.objs.size ->(os.map (·.1)).Pairwise (· < ·) ->(∀ p∈os,m<=p.1/\p.1<h'.objs.size) ->
  (∀ p∈os,∀(H2:Hp)(hh:Heap),hh.get? p.1=h'.get? p.1->a5 X.prog X.w H2 hh p.1 p.2)->Inv X gV σ (jN H os) { s with heap:=h' }
 | [],H,m,I,hm,_,_,_=>I.kept (t':=s.toks) fun b u e=>Jb hm e
 | p::r,H,m,I,hm,hp,hb,ho=>by
  have hp':=V5.mp hp;obtain⟨b1,b2⟩:=hb p SG;have b2':p.1+1<=h'.objs.size:=b2;have I2:Inv X gV σ (upd H p.1 p.2) { s with heap:=pO h' (p.1+1) }:=by
   refine I.laid (t':=s.toks) (h':=pO h' (p.1+1)) (fun b u e=>?_) ?_ (ho p SG _ _ (la (UC _)))
   ·have lt:=Sy e;have lt:b<(pO h' m).objs.size:=lt;rw[pN hm]at lt;have lt2:b<p.1+1:=Tq lt (Tn b1 (Vi _));rw[la lt2,<- la lt];exact e
   ·show(pO h' m).objs.size<=p.1;rw[pN hm];exact b1
  show Inv X gV σ (jN (upd H p.1 p.2) r) _;exact Inv.EC (os:=r) (H:=upd H p.1 p.2) I2 b2' hp'.2 (fun q hq=>⟨hp'.1 q.1 (S5.mpr ⟨q,hq,rfl⟩),(hb q (SK _ hq)).2⟩) fun q hq=>ho q (SK _ hq)
def nY(K:W.Frag)(tl:TA):TE:=fun σ H R=>tl σ H fun vs H1=>∃ l1 l2 xs ys,vs = [.ref l1,.ref l2]/\SqT K H1 l1 xs/\SqT K H1 l2 ys/\∀(H2:Hp)(L:Addr)(ps:List Addr),H1 L=none->ps.length=min xs.length ys.length->ps.Nodup ->(∀ p∈ps,H1 p=none/\p≠L) ->(∀ c,c ∉ ps->c≠L->H2 c=H1 c)->H2 L=some (.lst (ps.map V.ref)) ->(∀(j:Nat) p x y,ps[j]? = some p->xs[j]? = some x->ys[j]? = some y->H2 p=some (.tup [x,y]))->R (.ref L) H2
section
variable{a:Expr}{tl:TA}{pos p b9 p2:Pos}
theorem xI(hg:Gl X "list")(hm:X.mg "list" = none)(hg2:Gl X "zip")(hm2:X.mg "zip" = none)(ha:PA X [a,b] tl)(hs:SN [a,b] X.env = [(false,eval a X.env),(false,eval b X.env)])(hs2:SN [b] X.env = [(false,eval b X.env)])
  (hs3:SN [.Call (.Name "zip" p2) [a,b] [] b9] X.env =(false,eval (.Call (.Name "zip" p2) [a,b] [] b9) X.env)::SN [] X.env) (hc:X.calm=true) :
  PE X (.Call (.Name "list" p) [.Call (.Name "zip" p2) [a,b] [] b9] [] pos) (nY X.K tl):=by
 intro gV s σ H R I h;refine Call_ (dY I hg hm (by kernel_rfl) (PyProof.Rows.callWith_type1 (T:="list") ?_ hs3 (by rfl)))
 rw[hs3];refine Calls.spliced_cons ?_;refine Call_ (dY I hg2 hm2 (by kernel_rfl) (PyProof.Rows.callWith_type1 (T:="zip") (thn (ha b9 gV s σ H _ I h) fun us s1 ⟨vs,H1,I1,r1,q1⟩=>?_) (by rw[hs,hs2]) (by rw[hs2];rfl)))
 obtain⟨l1,l2,xs,ys,e,q2,q3,q⟩:=q1;subst e;obtain⟨u1,u2,rfl,ru1,ru2⟩:=vals2 r1;cases ru1;cases ru2;obtain⟨IA,rv1,o1,z1⟩:=I1.oj (tp:=true) q2;obtain⟨bJ,rv2,o2,z2⟩:=I1.oj (tp:=true) q3;obtain⟨ob1,e1⟩:=o1.obj;obtain⟨ob2,e2⟩:=o2.obj;have g1:l1<s1.heap.objs.size:=Sy e1;have g2:l2<s1.heap.objs.size:=Sy e2;refine lj o1 o2 fun h1 hz hTI hTO hi1 hi2 hk=>?_
 refine Calls.spliced_nil ?_;have nz:s1.heap.objs.size+4<h1.objs.size:=Sy hz;have rl1:=rv1.length;have rl2:=rv2.length;refine Gq (t1:=true) (t2:=true) (xs:=IA.toArray) (ys:=bJ.toArray) (n:=min xs.length ys.length) (I1.ok.hd hc) (mO g1 g2) hz hTO hTI hi1 hi2 (o1.at fun o e=>hk _ o e) (o2.at fun o e=>hk _ o e) (by simp[rl1,rl2]) (by omega) fun h' tk acc c as hk' hS hl hG fk=>?_
 have fr:∀ b u,s1.heap.get? b=some u->h'.get? b=some u:=fun b u e=>by
  have lt:b<s1.heap.objs.size:=Sy e;have ne:∀ m:Nat,s1.heap.objs.size<=m->b≠m:=fun m hm z=>absurd (z▸lt:m<s1.heap.objs.size) (by omega)
  exact hk' b u (ne _ (by omega)) (ne _ (by omega)) (ne _ (S3 _)) (ne _ (by omega)) (hk b u e)
 have I2:Inv X gV σ H1 { s1 with heap:=pO h' s1.heap.objs.size,toks:=tk }:=I1.kept (t':=tk) fun b u e=>by rw[la (Sy e)];exact fr b u e
 have lS:h1.objs.size<h'.objs.size:=Sy hS;have keys:(((h1.objs.size,HO.lst (as.map V.ref)) ::(as.zip (xs.zip ys)).map fun p=>(p.1,HO.tup [p.2.1,p.2.2])).map (·.1))=h1.objs.size::as:=by
  rw[Tx,TQ]
  congr 1
  have:((fun x:Addr×HO=>x.1) ∘ fun p:Addr×V×V=>(p.1,HO.tup [p.2.1,p.2.2]))=Prod.fst:=rfl
  rw[this,VG (by rw[Us];omega)]
 have pw:(h1.objs.size::as).Pairwise (· < ·):=V5.mpr ⟨fun a ha=>hG.above a ha,hG.rise⟩
 have at':∀(j:Nat)(p:Addr×V×V),(as.zip (xs.zip ys))[j]? = some p->as[j]? = some p.1/\xs[j]? = some p.2.1/\ys[j]? = some p.2.2:=fun j p hp=>by
  have h1:=Ut.mp hp;have h2:=Ut.mp h1.2;exact⟨h1.1,h2.1,h2.2⟩
 have I3:=Inv.EC (X:=X) (s:={ s1 with toks:=tk }) (m:=s1.heap.objs.size) (h':=h') (os:=(h1.objs.size,HO.lst (as.map V.ref)) ::(as.zip (xs.zip ys)).map fun p=>(p.1,HO.tup [p.2.1,p.2.2])) I2 (by omega) (by rw[keys];exact pw) (fun p hp=>?_) (fun p hp H2 hh e=>?_)
 ·have nd:(h1.objs.size::as).Nodup:=pw.imp fun h=>Tf h
  have nd':=TB.mp nd;refine⟨.ref h1.objs.size,_,I3,rfl,q _ h1.objs.size as (I1.hok.fresh (by omega)) hl nd'.2 (fun p hp=>⟨I1.hok.fresh ?_,fun z=>nd'.1 (z▸hp)⟩) (fun c c1 c2=>?_) ?_ (fun j p x y hp hx hy=>?_)⟩
  ·have:=hG.above p hp
   exact Tn (show s1.heap.objs.size<=h1.objs.size+1 by omega) this
  ·exact lG (by rw[keys];exact fun z=>(S1.mp z).elim c2 c1)
  ·exact lH (p:=(h1.objs.size,HO.lst (as.map V.ref))) (by rw[keys];exact nd) SG
  ·have hz:(as.zip (xs.zip ys))[j]? = some (p,x,y):=Ut.mpr ⟨hp,Ut.mpr ⟨hx,hy⟩⟩;exact lH (p:=(p,HO.tup [x,y])) (by rw[keys];exact nd) (SK _ (S5.mpr ⟨_,RB hz,rfl⟩))
 ·have:p.1∈h1.objs.size::as:=by rw[<- keys];exact S5.mpr ⟨p,hp,rfl⟩
  rcases S1.mp this with z|z
  ·rw[z];exact⟨by omega,lS⟩
  ·have ab:=hG.above p.1 z;exact⟨Tn (show s1.heap.objs.size<=h1.objs.size+1 by omega) ab,hG.there z⟩
 ·rcases S1.mp hp with rfl|hp
  ·refine⟨by rw[j3];omega,acc.toList,c,by rw[fk];exact vj as,?_⟩
   rw[e];exact hS
  ·obtain⟨t,ht,rfl⟩:=S5.mp hp;obtain⟨j,hj⟩:=List.getElem?_of_mem ht;obtain⟨a1,a2,a3⟩:=at' j t hj;obtain⟨x,y,x1,y1,pr⟩:=hG.pairs j t.1 a1;obtain⟨u1,w1,r1⟩:=rv1.get a2;obtain⟨u2,w2,r2⟩:=rv2.get a3;rw[VO,w1]at x1;cases x1;rw[VO,w2]at y1;cases y1;have pr':hh.get? t.1=_:=e.trans pr;exact⟨by show 2<=S4;decide,[x,y],.cons r1 (.cons r2 .nil),⟨⟨_,pr',rfl,_,rfl⟩,_,pr',rfl⟩⟩
end
section
variable{w:World}{s:Shared}
theorem BR{e:Addr}{i:Nat}{x old:Value}{Q:Option Value->Shared->Prop}
  (he:IsEnum s.heap e it i old) (hit:aF s.heap tp it l i) (hl:aR s.heap tp l items) (hx:items[i]? = some x) (hne:e≠it)
  (hQ:∀ h',IsEnumOut h' e it ((i:Int)+1) x s.heap.objs.size->aF h' tp it l (i+1)->h'.get? s.heap.objs.size=some { cls:=.type "tuple",data:=.seq #[.int i s.toks,x] }->h'.objs.size=s.heap.objs.size+1 ->
   (∀ b o,b≠e->b≠it->s.heap.get? b=some o->h'.get? b=some o)->Q (some (.ref s.heap.objs.size)) { s with heap:=h',toks:=s.toks+1 }):wpAny (model prog w) A (pyNext (.ref e)) Q E s:=by
 have hT:s.TypeIs (.ref e) "enumerate":=⟨_,he,rfl⟩;obtain⟨hp,g,d,tk,os⟩:=s;unfold pyNext;refine j0 (Uw (wpAny_callSpecial?_slot (name:=Str.ofString "__next__") hT F.slot_enumerate_next (TL F.slot_enumerate_next hT F.entry_enumerate_next ?_ (F.args_enumerate_next_1 _))));show wpAny _ _ (field (.ref e) 2 >>= _) _ _ _;refine j0 (wpAny_field he rfl (x:=.ref it) rfl ?_);refine j0 (next_item hit hl hx fun h1 R5 hs1=>?_)
 have he1:IsEnum h1 e it i old:=(hs1.2 e hne).trans he;show wpAny _ _ (field (.ref e) 3 >>= _) _ _ ⟨h1,g,d,tk,os⟩;refine j0 (wpAny_field he1 rfl (x:=rawInt i) rfl ?_);show wpAny _ _ (field (.ref e) 4 >>= _) _ _ ⟨h1,g,d,tk,os⟩;refine j0 (wpAny_field he1 rfl (x:=.none) rfl ?_);show wpAny _ _ (mkInt i >>= _) _ _ ⟨h1,g,d,tk,os⟩;refine j0 (wpAny_mkInt ?_);show wpAny _ _ (setField (.ref e) 3 (rawInt ((i:Int)+1)) >>= _) _ _ ⟨h1,g,d,tk+1,os⟩;refine j0 (wpAny_setField_rec he1 (by simp) fun h2 he2 hs2=>?_)
 replace hs2:T7 e h1 h2:=hs2
 replace he2:IsEnum h2 e it ((i:Int)+1) old:=he2
 show wpAny _ _ (setField (.ref e) 4 .none >>= _) _ _ ⟨h2,g,d,tk+1,os⟩;refine j0 (wpAny_setField_rec he2 (by simp) fun h3 he3 hs3=>?_)
 replace hs3:T7 e h2 h3:=hs3
 replace he3:IsEnum h3 e it ((i:Int)+1) old:=he3
 show wpAny _ _ (newTuple [.int i tk,x] >>= _) _ _ ⟨h3,g,d,tk+1,os⟩;refine j0 (wpAny_newTuple ?_);have he4:IsEnum (h3.push { cls:=.type "tuple",data:=.seq #[.int i tk,x] }) e it ((i:Int)+1) old:=j5 _ he3;have hsz:h3.objs.size=hp.objs.size:=by rw[hs3.1,hs2.1,hs1.1]
 have hel:e<hp.objs.size:=Sy he;have ht4:(h3.push { cls:=.type "tuple",data:=.seq #[.int i tk,x] }).get? hp.objs.size=some { cls:=.type "tuple",data:=.seq #[.int i tk,x] }:=by rw[<- hsz];exact S2 _ rfl
 have hz4:(h3.push { cls:=.type "tuple",data:=.seq #[.int i tk,x] }).objs.size=hp.objs.size+1:=by rw[Tw,hsz]
 have hk4:∀ b o,b≠e->b≠it->hp.get? b=some o ->(h3.push { cls:=.type "tuple",data:=.seq #[.int i tk,x] }).get? b=some o:=fun b o hbe hbi hb=>j5 _ (hs3.extBut b o hbe (hs2.extBut b o hbe (hs1.extBut b o hbi hb)))
 have OW:aF (h3.push { cls:=.type "tuple",data:=.seq #[.int i tk,x] }) tp it l (i+1):=R5.at fun o eo=>j5 _ (hs3.extBut _ o hne.symm (hs2.extBut _ o hne.symm eo))
 generalize h3.push { cls:=.type "tuple",data:=.seq #[.int i tk,x] }=h4 at he4 ht4 hz4 hk4 OW
 show wpAny _ _ (Builtin.SmallTypes.ownedTupleIsFree (.ref e) >>= _) _ _ ⟨h4,g,d,tk+1,os⟩;rw[hsz];refine j0 ?_;unfold Builtin.SmallTypes.ownedTupleIsFree;refine j0 (wpAny_field he4 rfl (x:=.none) rfl (M7 ?_));simp only[if_true];refine j0 (Uz ?_);refine j0 (wpAny_field he4 rfl (x:=old) rfl ?_);refine j0 (wpAny_setField_rec he4 (by simp) fun h5 he5 hs5=>?_)
 replace hs5:T7 e h4 h5:=hs5
 replace he5:IsEnum h5 e it ((i:Int)+1) x:=he5
 show wpAny _ _ (Builtin.SmallTypes.ownedTupleHandOut (.ref e) (.ref hp.objs.size) >>= _) _ _ ⟨h5,g,d,tk+1,os⟩;refine j0 ?_;unfold Builtin.SmallTypes.ownedTupleHandOut;refine j0 (wpAny_setField_rec he5 (by simp) fun h6 he6 hs6=>?_)
 replace hs6:T7 e h5 h6:=hs6
 replace he6:IsEnumOut h6 e it ((i:Int)+1) x hp.objs.size:=he6
 refine wpAny_setField_rec he6 (by simp) fun h7 he7 hs7=>?_
 replace hs7:T7 e h6 h7:=hs7
 replace he7:IsEnumOut h7 e it ((i:Int)+1) x hp.objs.size:=he7
 have up:∀ c o,c≠e->h4.get? c=some o->h7.get? c=some o:=fun c o hc z=>hs7.extBut _ _ hc (hs6.extBut _ _ hc (hs5.extBut _ _ hc z))
 refine j0 (wpAny_letGo (M7 ⟨_,rfl,M7 (hQ h7 he7 (OW.at fun o eo=>up _ o hne.symm eo) (up _ _ (T8 hel) ht4) ?_ fun b o hbe hbi hb=>up b o hbe (hk4 b o hbe hbi hb))⟩))
 rw[hs7.1,hs6.1,hs5.1,hz4]
theorem E9{e:Addr}{i:Nat}{old:Value}{Q:Option Value->Shared->Prop}(hh:A.handled=none)
  (he:IsEnum s.heap e it i old) (hit:aF s.heap tp it l i) (hl:aR s.heap tp l items) (hx:items[i]? = none) (hQ:∀ h',Vy it s.heap h'->Q none { s with heap:=h' }):wpAny (model prog w) A (pyNext (.ref e)) Q E s:=by
 have hT:s.TypeIs (.ref e) "enumerate":=⟨_,he,rfl⟩;unfold pyNext;refine j0 (Uw (wpAny_callSpecial?_slot (name:=Str.ofString "__next__") hT F.slot_enumerate_next (TL F.slot_enumerate_next hT F.entry_enumerate_next ?_ (F.args_enumerate_next_1 _))));show wpAny _ _ (field (.ref e) 2 >>= _) _ _ _;refine j0 (wpAny_field he rfl (x:=.ref it) rfl ?_);refine j0 (next_end hh hit hl hx fun h' x he' hx'=>?_)
 obtain⟨o,ho,hc⟩:=hx';refine j0 (Uu (T:="StopIteration") (b:=true) ⟨o,ho,hc⟩ isSubtype_stop ?_);exact M7 (hQ _ he')
abbrev eH1(tp:Bool)(h:Heap)(l:Addr):Heap:=h.push { cls:=.type (itc tp),data:=.fields #[.ref l,.int 0 0] }
abbrev eH2(tp:Bool)(h:Heap)(l:Addr):Heap:=(eH1 tp h l).push { cls:=.type "enumerate",data:=.fields #[.none,.bool false,.ref h.objs.size,rawInt 0,.none,.none] }
theorem oQ(tp:Bool)(l:Addr)(xs:Array Value) :
  Meets (Builtin.«enumerate.__new__» ⟨[.type "enumerate",.ref l],[]⟩) (fun _ R s=>aR s.heap tp l xs/\R (.ok (.ret (.ref (eH1 tp s.heap l).objs.size))) { s with heap:=eH2 tp s.heap l }) :=
 .of_wp fun prog w A R s h=>by
  obtain⟨hp,g,d,tk,os⟩:=s;obtain⟨hl,h⟩:=h;have BK:=sub_enumerate;have hL:aR (Shared.heap ⟨hp,g,d,tk,os⟩) tp l xs:=hl
  wp_walk
  refine wpAny_stack_any fun st=>M7 ?_
  split
  ·rename_i c _ _ _ _ _
   cases(c==Value.type "enumerate")
   ·wp_walk using iS hL
    exact⟨_,rfl,h⟩
   ·wp_walk using iS hL
    exact⟨_,rfl,h⟩
  ·wp_walk using iS hL
   exact⟨_,rfl,h⟩
theorem qQ(hl:aR s.heap tp l xs)
  (h:∀ h',IsEnum h' (s.heap.objs.size+1) s.heap.objs.size 0 .none->aF h' tp s.heap.objs.size l 0 ->(∀ b o,s.heap.get? b=some o->h'.get? b=some o)->Q (.ref (s.heap.objs.size+1)) { s with heap:=h' }) :
  wpAny (model prog w) A (call (.type "enumerate") [.ref l]) Q E s:=by
 refine callType_new F.called_enumerate (by decide) (F.typeCall_enumerate_1 _) (F.newCall_enumerate_1 _) (fun obj=>F.args_object_init_2 obj _) F.entry_enumerate_new (oQ tp l xs) ⟨hl,?_⟩
 have z1:(eH1 tp s.heap l).objs.size=s.heap.objs.size+1:=Tw ..;have g2:(eH2 tp s.heap l).get? (eH1 tp s.heap l).objs.size=some _:=S2 _ rfl;have g1:(eH2 tp s.heap l).get? s.heap.objs.size=some _:=j5 _ (S2 _ rfl);show _/\_;rw[z1]at g2 ⊢;exact⟨⟨_,g2,rfl⟩,h _ g2 (ix g1) fun c o x=>j5 _ (j5 _ x)⟩
end
def Ite(K:W.Frag)(tp:Bool)(l:Addr):It :=
 ⟨fun i H=>∃ xs x,SqB K tp H l xs/\xs[i]? = some x,
   fun i H v H'=>∃(p:Addr)(x:V),H p=none/\v = .ref p/\H'=upd H p (.tup [.int i,x])/\∀ xs,SqB K tp H l xs->xs[i]? = some x,
   fun i H=>∃ xs,SqB K tp H l xs/\xs.length<=i⟩
theorem AO{w:World}{K:W.Frag}{x1}{pos:Pos}(e it l:Addr)(hne:e≠it) :
  Turn P w K (.Tuple elts x1 pos) (Ite K tp l) [e,it] e (fun i h=>(∃ old,IsEnum h e it i old)/\aF h tp it l i) where
 mem:=by simp
 obj:=by
  rintro i h ⟨⟨old,h1⟩,h2⟩ c hc
  simp only[S1,Ts,or_false]at hc;rcases hc with rfl|rfl
  ·exact⟨_,h1,fun v e=>by cases e⟩
  ·exact h2.obj
 keep:=by
  rintro i h h' ⟨⟨old,h1⟩,h2⟩ k
  exact⟨⟨old,k e (by simp) _ h1⟩,h2.at fun o z=>k it (by simp) o z⟩
 item:=by
  intro X hP hw hK hc i gV s σ H E I hf st hg;subst hP hw hK;obtain⟨⟨old,h1⟩,h2⟩:=st;obtain⟨xs,x,q1,e1⟩:=hg;obtain⟨its,rv,o1,z1⟩:=I.oj q1;obtain⟨u1,hu1,ru1⟩:=rv.get e1;refine BR h1 h2 o1 (x:=u1) (by simpa using hu1) hne fun h' ho' hi' hT' RP hk'=>⟨_,rfl,?_⟩
  refine wpAny_letOwnedTupleGo_enum ho' fun h'' R8 Ma=>?_
  have hn:=I.hok.fresh (S3 s.heap.objs.size);have le:e<s.heap.objs.size:=Sy h1;obtain⟨oi,goi,_⟩:=h2.obj;have li:it<s.heap.objs.size:=Sy goi;have LS:∀ b ∈ [e,it],b≠s.heap.objs.size:=fun b hb=>by
   simp only[S1,Ts,or_false]at hb;rcases hb with rfl|rfl
   ·exact Tf le
   ·exact Tf li
  have up:∀ c o,c≠e->h'.get? c=some o->h''.get? c=some o:=fun c o hc z=>Ma.extBut _ _ hc z
  have I1:Inv X gV σ (upd H s.heap.objs.size (.tup [.int i,x])) { s with heap:=s.heap.push { cls:=.type "tuple",data:=.seq #[.int i s.toks,u1] },toks:=s.toks+1 } :=
   I.laid (t':=s.toks+1) (fun b u z=>j5 _ z) (S3 _) ⟨by show 2<=S4;decide,[.int i s.toks,u1],.cons ⟨_,rfl⟩ (.cons ru1 .nil),⟨⟨_,S2 _ rfl,rfl,_,rfl⟩,_,S2 _ rfl,rfl⟩⟩
  have hf':∀ b ∈ [e,it],qj X gV (upd H s.heap.objs.size (.tup [.int i,x])) b:=fun b hb=>by
   obtain⟨f0,r⟩:=hf b hb;exact⟨by rw[ao (LS b hb)];exact f0,r⟩
  have I2:Inv X gV σ (upd H s.heap.objs.size (.tup [.int i,x])) { s with heap:=h'',toks:=s.toks+1 }:=by
   refine I1.ny (h':=h'') (t':=s.toks+1) (fun b o hb z=>?_) hf'
   simp only[S1,Ts,or_false,not_or]at hb;obtain⟨b1,b2⟩:=hb;rcases VR z with⟨rfl,rfl⟩|z'
   ·exact up _ _ b1 hT'
   ·exact up _ _ b1 (hk' b o b1 b2 z')
  refine⟨.ref s.heap.objs.size,upd H s.heap.objs.size (.tup [.int i,x]),I2,rfl,⟨_,x,hn,rfl,rfl,fun zs hz=>by rw[I.oh hz q1];exact e1⟩,?_,fun b hb=>(hf' b hb).1⟩
  exact⟨⟨_,by simpa using R8⟩,hi'.at fun o z=>up _ _ hne.symm z⟩
 done:=by
  intro X hP hw hK hc i gV s σ H E I hf st hg;subst hP hw hK;obtain⟨⟨old,h1⟩,h2⟩:=st;obtain⟨xs,q1,pB⟩:=hg;obtain⟨its,rv,o1,z1⟩:=I.oj q1;have g1:=rv.length;refine E9 (I.ok.hd hc) h1 h2 o1 (by simp;omega) fun h' k=>⟨rfl,I.ny (t':=s.toks) (fun b o hb z=>?_) hf⟩
  simp only[S1,Ts,or_false,not_or]at hb;exact k b o hb.2 z
 self:=fun _ _ _ _ _ st h=>let⟨⟨_,z⟩,_⟩:=st;wpAny_pyIter_enum z h
def rH(K:W.Frag)(tp:Bool)(ta:TA):TI:=fun σ H R=>ta σ H fun vs H1=>∃ l,vs = [.ref l]/\(∃ xs,SqB K tp H1 l xs)/\R (Ite K tp l) H1
theorem HG{x1}{a:Expr}{ta:TA}{p pos:Pos}(hg:Gl X "enumerate")(hm:X.mg "enumerate" = none)(fj:bootBuiltins "enumerate" = some (.type "enumerate"))(ha:PA X [a] ta)(hs:SN [a] X.env = [(false,eval a X.env)]:=by rfl) :
  PI X (.Tuple elts x1 pos') (.Call (.Name "enumerate" p) [a] [] pos) (rH X.K tp ta):=by
 intro gV s σ H R I h;refine Call_ (dY I hg hm fj (PyProof.Rows.callWith_type1 (thn (ha pos gV s σ H _ I h) fun us s1 ⟨vs,H1,I1,r1,q1⟩=>?_) hs rfl))
 obtain⟨l,e,⟨xs,q2⟩,q⟩:=q1;subst e;obtain⟨u1,rfl,ru1⟩:=vals1 r1;cases ru1;obtain⟨its,rv,o1,z1⟩:=I1.oj q2;refine qQ o1 fun h' he hi hk=>wpAny_pyIter_enum he ?_
 refine⟨_,[s1.heap.objs.size+1,s1.heap.objs.size],_,_,H1,rfl,I1.kept (t':=s1.toks) hk,AO _ _ l (fun z=>absurd (show @Eq Nat _ _ from z) (by omega)),⟨⟨_,he⟩,hi⟩,fun c hc=>?_,q⟩
 have hc':s1.heap.objs.size<=c:=by
  simp only[S1,Ts,or_false]at hc;rcases hc with rfl|rfl <;> first|exact Nat.le_add_right _ _|exact S3 _
 exact I1.E4 hc' (I1.hok.fresh hc')
end L2
namespace PySem
open Sem (wp)
end PySem
namespace L2
open PySem PySem.Spec PyProof.Rows
variable{kvs:List (Key×V)}
section
variable{X:Cx}{gV:List (Addr×Obj)}{σ:St}{H:Hp}{s:Shared}{a:Addr}{u u':HO}
theorem Inv.ze(I:Inv X gV σ H s)(ha:H a=some u)(h1:∀ xs,u ≠ .tup xs)(h2:∀ c,u ≠ .own c)(h3:∀ ps,u ≠ .tbl ps)(hz:∀ o v,X.H₀ a≠some (.frz o v))(new:a5 X.prog X.w (upd H a u') s.heap a u'):Inv X gV σ (upd H a u') s:=by
 have ne:∀{b:Addr},H b=none->b≠a:=fun{b} e z=>by rw[z,ha]at e;cases e
 refine⟨I.ok,I.os,I.bare,⟨I.base.keep,I.base.slot,fun b o e n hx=>?_,I.base.there,fun b xs e=>?_,fun b o v e=>?_,fun b ps e=>?_⟩,I.loc,I.cell,?_,fun x c e=>?_,fun p hp=>?_,fun b o e=>?_,I.len⟩
 ·have:=I.base.free b o e n hx
  rw[ao (ne this)];exact this
 ·have:=I.base.nV b xs e
  rw[ao fun z=>by rw[z,ha]at this;exact h1 xs (Option.some.inj this)]
  exact this
 ·have:=I.base.j9 b o v e
  rw[ao fun z=>by rw[z]at e;exact hz o v e]
  exact this
 ·obtain⟨more,this⟩:=I.base.nW b ps e;refine⟨more,?_⟩;rw[ao fun z=>by rw[z,ha]at this;exact h3 _ (Option.some.inj this)]
  exact this
 ·rw[ao (ne I.free)];exact I.free
 ·rw[ao (ne (I.eQ x c e))];exact I.eQ x c e
 ·obtain⟨p1,p2,p3⟩:=I.pin p hp;exact⟨p1,by rw[ao (ne p2)];exact p2,p3⟩
 ·by_cases hb:b=a
  ·subst hb;rw[ax]at e;cases e;exact new
  ·rw[ao hb]at e;refine(I.hok b o e).cY (fun _ _ _ q=>q) (fun c q=>?_) fun c xs q=>?_
   ·rw[ao fun z=>by rw[z,ha]at q;exact h2 _ (Option.some.inj q)];exact q
   ·rw[ao fun z=>by rw[z,ha]at q;exact h1 _ (Option.some.inj q)];exact q
theorem Inv.freeze(I:Inv X gV σ H s)(ha:H a=some (.dK kvs)):(∀ o v,X.H₀ a≠some (.frz o v))/\∃ o,Inv X gV σ (upd H a (.frz o (.dK kvs))) s:=by
 have hz:∀ o v,X.H₀ a≠some (.frz o v):=fun o v e=>by
  have:=I.base.j9 a o v e
  rw[ha]at this;cases this
 obtain⟨z,hs,vs,r,o,es,ep,e,c⟩:=(show a5 X.prog X.w H s.heap a (.dK kvs)from I.hok a _ ha);exact⟨hz,o,I.ze ha (fun _ z=>nomatch z) (fun _ z=>nomatch z) (fun _ z=>nomatch z) hz ⟨e,z,hs,vs,r,o,es,ep,e,c⟩⟩
end
end L2
namespace PySem
open Sem (wp)
end PySem
namespace PySem
open Sem (wp)
open Builtin Builtin.ObjectAttr
section
variable{M:Model}{prog:Program}{w:World}{A:Around}{E:Value->Shared->Prop}{h:Heap}{g:Array VW}{d:Drawn}{t:Nat}{os:OsState}
variable{nm q:Str}{C N x:Addr}{bs bm bmB:List Value}{sn:List Str}{sub:List Value}{ab Md:Bool}{col:Option Bool}{dd:Option Addr}{k0 k1 k2 k3 k5:Option Value}{B newId sa owner:String}
 {mN mA:Str->Option Value} {name:Str} {v:Value} {S:List Str}
end
end PySem
namespace PySem
open Sem (wp)
open Builtin Builtin.ObjectAttr
section
variable{prog:Program}{w:World}{A:Around}{E:Value->Shared->Prop}{h:Heap}{g:Array VW}{d:Drawn}{t:Nat}{os:OsState}
variable{nm q:Str}{C N x:Addr}{bs bm bmB:List Value}{sn:List Str}{sub:List Value}{ab Md:Bool}{col:Option Bool}{dd:Option Addr}{k0 k1 k2 k3 k5:Option Value}{B newId:String}
 {mN mA:Str->Option Value} {name:Str} {v:Value} {S:List Str} {o:Obj}
end
end PySem
namespace PySem
open Sem (wp)
def ME(h:Heap)(e:Addr)(cls:Value)(dx:Option Addr)(y:Value):Prop :=
 ∃ o vs a0,h.get? e=some o/\o.cls=cls/\o.dict=dx/\o.data = .fields vs/\vs[0]? = some a0/\vs[1]? = some y
end PySem
namespace L2
open PySem PySem.Spec PyProof.Rows
theorem any_some{α:Type}{o:Option α}{f:α->Bool}(h:o.any f=true):∃ a,o=some a/\f a=true:=by
 cases o with
 | none=>cases h
 | some a=>exact⟨a,rfl,h⟩
def XAt(a C:Addr)(dx:Option Addr)(b:Bool)(h:Heap):Prop:=∃ y,ME h a (.ref C) dx y/\(b=true->y = .none)
def XD(dx:Addr)(fs:List (Str×V))(h:Heap):Prop:=∃ mA,h.Ns1 dx mA/\(∀ f,kq (fs.lookup f) (mA f))/\PySem.Within mA (fs.map (·.1))
def ExH(H:Hp)(a C:Addr)(b:Bool)(fs:List (Str×V)):Prop:=(fs = []/\H a=some (.ext (XAt a C none b)))\/∃ dx,dx≠a/\H a=some (.ext (XAt a C (some dx) b))/\H dx=some (.ext (XD dx fs))
section
variable{P:Program}{w:World}{H H':Hp}{h h':Heap}{a C d:Addr}{dx:Option Addr}{b:Bool}{fs:List (Str×V)}
theorem XD.ok(x:XD d fs h):a5 P w H h d (.ext (XD d fs)):=by
 refine⟨x,?_,fun h1 h2 ⟨mA,⟨o,es,ep,e,r⟩,z⟩ k=>⟨mA,⟨o,es,ep,k o e,r⟩,z⟩⟩
 obtain⟨mA,⟨o,es,ep,e,r⟩,z⟩:=x;exact⟨o,e⟩
end
end L2
namespace PySem
open Sem (wp)
end PySem
namespace L2
open PySem PySem.Spec PyProof.Rows
variable{M:Model}{A:Around}{E:Value->Shared->Prop}
section
variable{X:Cx}{e o a b:Expr}{es:List Expr}{te to ta tb:TE}{t:TA}{pos aV apos:Pos}
theorem grown{α:Type}{c:Sem α}{Q Q':α->Shared->Prop}{s:Shared}(h0:0<s.toks)(h:wpAny M A c Q E s)(hQ:∀ a s',Q a s'->0<s'.toks->Q' a s'):wpAny M A c Q' E s :=
 Uk (wpAny_toks_of h0 h) (fun a s' x=>hQ a s' x.2 x.1) (fun _ _ x=>x.2)
end
theorem len0{P:List Value->Prop}(h:P [])(us:List Value)(e:us.length=0):P us:=by rw[TM.mp e];exact h
theorem OE{P:List Value->Prop}(h:∀ a,P [a])(us:List Value)(e:us.length=1):P us:=by
 cases us with
 | nil=>cases e
 | cons a r=>exact len0 (P:=fun r=>P (a::r)) (h a) r (Nat.succ.inj e)
theorem OD{P:List Value->Prop}(h:∀ a b,P [a,b])(us:List Value)(e:us.length=2):P us:=by
 cases us with
 | nil=>cases e
 | cons a r=>exact OE (P:=fun r=>P (a::r)) (h a) r (Nat.succ.inj e)
theorem OC{P:List Value->Prop}(h:∀ a b c,P [a,b,c])(us:List Value)(e:us.length=3):P us:=by
 cases us with
 | nil=>cases e
 | cons a r=>exact OD (P:=fun r=>P (a::r)) (h a) r (Nat.succ.inj e)
theorem OB{P:List Value->Prop}(h:∀ a b c d,P [a,b,c,d])(us:List Value)(e:us.length=4):P us:=by
 cases us with
 | nil=>cases e
 | cons a r=>exact OC (P:=fun r=>P (a::r)) (h a) r (Nat.succ.inj e)
theorem RG{P:List Value->Prop}(h:∀ a b c d e,P [a,b,c,d,e])(us:List Value)(e:us.length=5):P us:=by
 cases us with
 | nil=>cases e
 | cons a r=>exact OB (P:=fun r=>P (a::r)) (h a) r (Nat.succ.inj e)
inductive T where
 | n|b (x:Bool)|i (x:Int)|s (x:Str)|t (xs:List T)|l (xs:List T)|d (ks:List (Key×T))|cZ|z (ns:List Int)|ty (x:String)|k (ws:List Str)|q|fd (o:Obj) (vs:List (Key×V)) (ks:List (Key×T))|xc (C:Addr) (ns:List Str) (ts:List T)|rm (u:Int)|ob (C:Addr) (ns:List Str) (ts:List T)|dp (a:Addr) (ks:List (Key×T))|lp (a:Addr) (xs:List T)|zl (xs:List T)
abbrev Dl:=List (Addr×Addr)
def FzL(K:W.Frag)(H:Hp)(a:Addr)(xs:List V):Prop:=(∃ o,H a=some (.frz o (.lst xs))) \/
  ∃(o:Obj)(its:Array Value)(n:Nat),K.lookup a=some o/\o.cls = .type "list" /\ o.dict=none/\o.data = .seq its n/\its.size<=S4/\Vals xs its.toList
variable{H:Hp}{a:Addr}
theorem FzL.sq{K:W.Frag}{xs:List V}(h:FzL K H a xs):SqL K H a xs:=by
 rcases h with h|h
 ·exact .inl (.inr h)
 ·exact .inr h
def qS(a C dx:Addr)(h:Heap):Prop:=h.get? a=some (W.instObj C dx)
def ObH(H:Hp)(a C:Addr)(fs:List (Str×V)):Prop:=∃ dx,dx≠a/\H a=some (.ext (qS a C dx))/\H dx=some (.ext (XD dx fs))
mutual
inductive aA(K:W.Frag)(dl:Dl)(H:Hp):V->T->List Addr->Prop where
 | n:aA K dl H .non .n []
 | b(x:Bool):aA K dl H (.bl x) (.b x) []
 | i(x:Int):aA K dl H (.int x) (.i x) []
 | s(x:Str):aA K dl H (.str x) (.s x) []
 | ty(x:String):aA K dl H (.ty x) (.ty x) []
 | t{a:Addr}{vs:List V}{ts:List T}{F:List Addr}:H a=some (.tup vs)->au K dl H vs ts F->aA K dl H (.ref a) (.t ts) F
 | l{a:Addr}{vs:List V}{ts:List T}{F:List Addr}:H a=some (.lst vs)->au K dl H vs ts F->aA K dl H (.ref a) (.l ts) (a::F)
 | d{a:Addr}{vs:List (Key×V)}{ts:List (Key×T)}{F:List Addr}:H a=some (.dK vs)->aQ K dl H vs ts F->aA K dl H (.ref a) (.d ts) (a::F)
 | x{a l:Addr}:(a,l)∈dl->aA K dl H (.ref a) .cZ []
 | z{a:Addr}{ns:List Int}:FzL K H a (ns.map V.int)->aA K dl H (.ref a) (.z ns) []
 | q{a:Addr}{xs:List V}:H a=some (.lst xs)->aA K dl H (.ref a) .q []
 | fd{a:Addr}{o:Obj}{vs:List (Key×V)}{ts:List (Key×T)}:H a=some (.frz o (.dK vs))->aQ K dl H vs ts []->aA K dl H (.ref a) (.fd o vs ts) []
 | k{a:Addr}{ws:List Str}:(∀ H':Hp,SqT K H' a (ws.map V.str))->aA K dl H (.ref a) (.k ws) []
 | e{a C:Addr}{b:Bool}{ns:List Str}{vs:List V}{ts:List T}:ExH H a C b (ns.zip vs)->au K dl H vs ts []->aA K dl H (.ref a) (.xc C ns ts) []
 | rm{a:Addr}{x u:Int}:H a=some (.room x)->x<=u->aA K dl H (.ref a) (.rm u) []
 | ob{a C:Addr}{ns:List Str}{vs:List V}{ts:List T}:ObH H a C (ns.zip vs)->au K dl H vs ts []->aA K dl H (.ref a) (.ob C ns ts) []
 | dp{a:Addr}{vs:List (Key×V)}{ts:List (Key×T)}{F:List Addr}:H a=some (.dK vs)->aQ K dl H vs ts F->aA K dl H (.ref a) (.dp a ts) (a::F)
 | lp{a:Addr}{vs:List V}{ts:List T}{F:List Addr}:H a=some (.lst vs)->au K dl H vs ts F->aA K dl H (.ref a) (.lp a ts) (a::F)
 | zl{a:Addr}{o:Obj}{vs:List V}{ts:List T}:H a=some (.frz o (.lst vs))->au K dl H vs ts []->aA K dl H (.ref a) (.zl ts) []
inductive au(K:W.Frag)(dl:Dl)(H:Hp):List V->List T->List Addr->Prop where
 | nil:au K dl H [] [] []
 | cons{v:V}{x:T}{vs:List V}{ts:List T}{F G:List Addr}:aA K dl H v x F->au K dl H vs ts G->au K dl H (v::vs) (x::ts) (F++G)
inductive aQ(K:W.Frag)(dl:Dl)(H:Hp):List (Key×V)->List (Key×T)->List Addr->Prop where
 | nil:aQ K dl H [] [] []
 | cons{k:Key}{v:V}{x:T}{vs:List (Key×V)}{ts:List (Key×T)}{F G:List Addr}:aA K dl H v x F->aQ K dl H vs ts G->aQ K dl H ((k,v)::vs) ((k,x)::ts) (F++G)
end
structure TF(H H':Hp):Prop where
 t:∀ a vs,H a=some (.tup vs)->H' a=some (.tup vs)
 f:∀ a o u,H a=some (.frz o u)->H' a=some (.frz o u)
 x:∀ a φ,H a=some (.ext φ)->H' a=some (.ext φ)
 q:∀ a xs,H a=some (.lst xs)->∃ ys,H' a=some (.lst ys)
 r:∀ a x,H a=some (.room x)->∃ y,y<=x/\H' a=some (.room y)
variable{H':Hp}{C:Addr}
theorem ObH.tf{fs:List (Str×V)}(h:ObH H a C fs)(k:TF H H'):ObH H' a C fs:=by
 obtain⟨d,h1,h2,h3⟩:=h;exact⟨d,h1,k.x _ _ h2,k.x _ _ h3⟩
theorem ExH.tf{b:Bool}{fs:List (Str×V)}(h:ExH H a C b fs)(k:TF H H'):ExH H' a C b fs:=by
 rcases h with⟨h1,h2⟩ |⟨d,h1,h2,h3⟩
 ·exact .inl ⟨h1,k.x _ _ h2⟩
 ·exact .inr ⟨d,h1,k.x _ _ h2,k.x _ _ h3⟩
theorem FzL.tf{K:W.Frag}{vs:List V}(h:FzL K H a vs)(k:TF H H'):FzL K H' a vs:=by
 rcases h with⟨o,h⟩|h
 ·exact .inl ⟨o,k.f _ _ _ h⟩
 ·exact .inr h
theorem bL{α:Type}{p:α->Prop}:∀ b∈([]:List α),p b:=fun _ h=>absurd h Ts
variable{dl:Dl}{dl':Dl}
theorem aA.cY{K:W.Frag}(k:TF H H')(hd:∀ p∈dl,p∈dl'){v:V}{t:T}{F:List Addr}(h:aA K dl H v t F):(∀ b∈F,∀ o,H b=some o->H' b=some o)->aA K dl' H' v t F :=
 aA.rec (motive_1:=fun v t F _=>(∀ b∈F,∀ o,H b=some o->H' b=some o)->aA K dl' H' v t F) (motive_2:=fun v t F _=>(∀ b∈F,∀ o,H b=some o->H' b=some o)->au K dl' H' v t F) (motive_3:=fun v t F _=>(∀ b∈F,∀ o,H b=some o->H' b=some o)->aQ K dl' H' v t F)
  (fun _=>.n) (fun x _=>.b x) (fun x _=>.i x) (fun x _=>.s x) (fun x _=>.ty x) (fun h _ ih q=>.t (k.t _ _ h) (ih q))
  (fun h _ ih q=>.l (q _ SG _ h) (ih fun b hb=>q b (SK _ hb))) (fun h _ ih q=>.d (q _ SG _ h) (ih fun b hb=>q b (SK _ hb)))
  (fun h _=>.x (hd _ h)) (fun h _=>.z (h.tf k)) (fun h _=>Exists.elim (k.q _ _ h) fun _ e=>.q e) (fun h _ ih _=>.fd (k.f _ _ _ h) (ih bL)) (fun h _=>.k h) (fun h _ ih _=>.e (h.tf k) (ih bL))
  (fun h hx _=>Exists.elim (k.r _ _ h) fun _ e=>.rm e.2 (Vb e.1 hx)) (fun h _ ih _=>.ob (h.tf k) (ih bL)) (fun h _ ih q=>.dp (q _ SG _ h) (ih fun b hb=>q b (SK _ hb))) (fun h _ ih q=>.lp (q _ SG _ h) (ih fun b hb=>q b (SK _ hb))) (fun h _ ih _=>.zl (k.f _ _ _ h) (ih bL))
  (fun _=>.nil) (fun _ _ i1 i2 q=>.cons (i1 fun b hb=>q b (Tj _ hb)) (i2 fun b hb=>q b (Tc _ hb)))
  (fun _=>.nil) (fun _ _ i1 i2 q=>.cons (i1 fun b hb=>q b (Tj _ hb)) (i2 fun b hb=>q b (Tc _ hb))) h
theorem au.ind{K:W.Frag}{M:List V->List T->List Addr->Prop}(nil:M [] [] [])(cons:∀ v x vs ts F G,aA K dl H v x F->au K dl H vs ts G->M vs ts G->M (v::vs) (x::ts) (F++G)){vs:List V}{ts:List T}{F:List Addr}(h:au K dl H vs ts F):M vs ts F :=
 au.rec (motive_1:=fun _ _ _ _=>True) (motive_2:=fun v t F _=>M v t F) (motive_3:=fun _ _ _ _=>True) trivial (fun _=>trivial) (fun _=>trivial) (fun _=>trivial) (fun _=>trivial) (fun _ _ _=>trivial) (fun _ _ _=>trivial) (fun _ _ _=>trivial)
  (fun _=>trivial) (fun _=>trivial) (fun _=>trivial) (fun _ _ _=>trivial) (fun _=>trivial) (fun _ _ _=>trivial) (fun _ _=>trivial) (fun _ _ _=>trivial) (fun _ _ _=>trivial) (fun _ _ _=>trivial) (fun _ _ _=>trivial) nil (fun h r _ ih=>cons _ _ _ _ _ _ h r ih) trivial (fun _ _ _ _=>trivial) h
theorem aQ.ind{K:W.Frag}{M:List (Key×V)->List (Key×T)->List Addr->Prop}(nil:M [] [] [])(cons:∀ k v x vs ts F G,aA K dl H v x F->aQ K dl H vs ts G->M vs ts G->M ((k,v)::vs) ((k,x)::ts) (F++G)){vs:List (Key×V)}{ts:List (Key×T)}{F:List Addr}(h:aQ K dl H vs ts F):M vs ts F :=
 aQ.rec (motive_1:=fun _ _ _ _=>True) (motive_2:=fun _ _ _ _=>True) (motive_3:=fun v t F _=>M v t F) trivial (fun _=>trivial) (fun _=>trivial) (fun _=>trivial) (fun _=>trivial) (fun _ _ _=>trivial) (fun _ _ _=>trivial) (fun _ _ _=>trivial)
  (fun _=>trivial) (fun _=>trivial) (fun _=>trivial) (fun _ _ _=>trivial) (fun _=>trivial) (fun _ _ _=>trivial) (fun _ _=>trivial) (fun _ _ _=>trivial) (fun _ _ _=>trivial) (fun _ _ _=>trivial) (fun _ _ _=>trivial) trivial (fun _ _ _ _=>trivial) nil (fun h r _ ih=>cons _ _ _ _ _ _ _ h r ih) h
theorem au.cY{K:W.Frag}{dl dl':Dl}{H H':Hp}(k:TF H H')(hd:∀ p∈dl,p∈dl'){vs:List V}{ts:List T}{F:List Addr}(h:au K dl H vs ts F):(∀ b∈F,∀ o,H b=some o->H' b=some o)->au K dl' H' vs ts F :=
 h.ind (M:=fun vs ts F=>(∀ b∈F,∀ o,H b=some o->H' b=some o)->au K dl' H' vs ts F) (fun _=>.nil) (fun _ _ _ _ _ _ h _ ih q=>.cons (h.cY k hd fun b hb=>q b (Tj _ hb)) (ih fun b hb=>q b (Tc _ hb)))
theorem aQ.cY{K:W.Frag}{dl dl':Dl}{H H':Hp}(k:TF H H')(hd:∀ p∈dl,p∈dl'){vs:List (Key×V)}{ts:List (Key×T)}{F:List Addr}(h:aQ K dl H vs ts F):(∀ b∈F,∀ o,H b=some o->H' b=some o)->aQ K dl' H' vs ts F :=
 h.ind (M:=fun vs ts F=>(∀ b∈F,∀ o,H b=some o->H' b=some o)->aQ K dl' H' vs ts F) (fun _=>.nil) (fun _ _ _ _ _ _ _ h _ ih q=>.cons (h.cY k hd fun b hb=>q b (Tj _ hb)) (ih fun b hb=>q b (Tc _ hb)))
variable{G:List Addr}
theorem lI{F:List Addr}(h:∀ b∈F,(∃ xs,H b=some (.lst xs))\/∃ ks,H b=some (.dK ks))(r:∀ b∈G,(∃ xs,H b=some (.lst xs))\/∃ ks,H b=some (.dK ks)):∀ b∈F++G,(∃ xs,H b=some (.lst xs))\/∃ ks,H b=some (.dK ks):=fun b hb=>(SY.mp hb).elim (h b) (r b)
theorem aA.there{K:W.Frag}{v:V}{t:T}{F:List Addr}(h:aA K dl H v t F):∀ b∈F,(∃ xs,H b=some (.lst xs))\/∃ ks,H b=some (.dK ks) :=
 aA.rec (motive_1:=fun _ _ F _=>∀ b∈F,(∃ xs,H b=some (.lst xs))\/∃ ks,H b=some (.dK ks)) (motive_2:=fun _ _ F _=>∀ b∈F,(∃ xs,H b=some (.lst xs))\/∃ ks,H b=some (.dK ks)) (motive_3:=fun _ _ F _=>∀ b∈F,(∃ xs,H b=some (.lst xs))\/∃ ks,H b=some (.dK ks))
  bL (fun _=>bL) (fun _=>bL) (fun _=>bL) (fun _=>bL) (fun _ _ ih=>ih)
  (fun h _ ih b hb=>(S1.mp hb).elim (fun e=>by rw[e];exact .inl ⟨_,h⟩) (ih b)) (fun h _ ih b hb=>(S1.mp hb).elim (fun e=>by rw[e];exact .inr ⟨_,h⟩) (ih b))
  (fun _=>bL) (fun _=>bL) (fun _=>bL) (fun _ _ _=>bL) (fun _=>bL) (fun _ _ _=>bL)
  (fun _ _=>bL) (fun _ _ _=>bL) (fun h _ ih b hb=>(S1.mp hb).elim (fun e=>by rw[e];exact .inr ⟨_,h⟩) (ih b)) (fun h _ ih b hb=>(S1.mp hb).elim (fun e=>by rw[e];exact .inl ⟨_,h⟩) (ih b)) (fun _ _ _=>bL)
  bL (fun _ _ i1 i2=>lI i1 i2) bL (fun _ _ i1 i2=>lI i1 i2) h
theorem au.there{K:W.Frag}{dl:Dl}{H:Hp}{vs:List V}{ts:List T}{F:List Addr}(h:au K dl H vs ts F):∀ b∈F,(∃ xs,H b=some (.lst xs))\/∃ ks,H b=some (.dK ks):=h.ind (M:=fun _ _ F=>∀ b∈F,(∃ xs,H b=some (.lst xs))\/∃ ks,H b=some (.dK ks)) bL (fun _ _ _ _ _ _ h _ ih=>lI h.there ih)
def Nd(dl:Dl)(b:Addr):Prop:=∀ p∈dl,b≠p.1/\b≠p.2
def Dls(dl:Dl)(H:Hp):Prop:=∀ p∈dl,ku H p.1 p.2
theorem Dls.nd(D:Dls dl H){b:Addr}{o:HO}(h:H b=some o)(h1:∀ xs,o ≠ .lst xs)(h2:∀ ks,o ≠ .dK ks):Nd dl b:=fun p hp=>by
 obtain⟨s,n,ls,Q⟩:=D p hp;exact⟨iJ h Q.hd (h2 _),iJ h Q.hl (h1 _)⟩
theorem Dls.nd0(D:Dls dl H){b:Addr}(h:H b=none):Nd dl b:=fun p hp=>by
 obtain⟨s,n,ls,Q⟩:=D p hp;exact⟨(aS Q.hd h).symm,(aS Q.hl h).symm⟩
def NR(o:HO):Prop:=∀ x,o ≠ .room x
structure Evo(dl:Dl)(H H':Hp):Prop where
 k:∀ b o,H b=some o->Nd dl b->NR o->H' b=some o
 d:Dls dl H'
 r:∀ a x,H a=some (.room x)->∃ y,y<=x/\H' a=some (.room y)
theorem NR.of{b:Addr}{o:HO}(h:(∃ xs,H b=some (.lst xs))\/∃ ks,H b=some (.dK ks))(e:H b=some o):NR o:=fun x z=>by
 rcases h with⟨_,h⟩ |⟨_,h⟩
 ·rw[e,z]at h;cases h
 ·rw[e,z]at h;cases h
theorem Evo.refl(D:Dls dl H):Evo dl H H:=⟨fun _ _ h _ _=>h,D,fun _ x h=>⟨x,Uc _,h⟩⟩
variable{H1:Hp}{H2:Hp}
theorem Evo.trans(a:Evo dl H H1)(b:Evo dl H1 H2):Evo dl H H2:=⟨fun c o h n r=>b.k c o (a.k c o h n r) n r,b.d,fun c x h=>let⟨y,hy,e⟩:=a.r c x h;let⟨z,hz,e'⟩:=b.r c y e;⟨z,Vb hz hy,e'⟩⟩
theorem Evo.tf(e:Evo dl H H')(D:Dls dl H):TF H H' :=
 ⟨fun a vs h=>e.k a _ h (D.nd h (fun _ z=>nomatch z) fun _ z=>nomatch z) (fun _ z=>nomatch z),fun a o u h=>e.k a _ h (D.nd h (fun _ z=>nomatch z) fun _ z=>nomatch z) (fun _ z=>nomatch z),fun a φ h=>e.k a _ h (D.nd h (fun _ z=>nomatch z) fun _ z=>nomatch z) (fun _ z=>nomatch z),fun a xs h=>(by
  by_cases hn:Nd dl a
  ·exact⟨xs,e.k a _ h hn (fun _ z=>nomatch z)⟩
  ·unfold Nd at hn;obtain⟨p,hp,z⟩:∃ p∈dl,¬(a≠p.1/\a≠p.2):=Classical.byContradiction fun c=>hn fun p hp=>Classical.byContradiction fun z=>c ⟨p,hp,z⟩
   obtain⟨s,n,ls,Q⟩:=D p hp;obtain⟨s',n',ls',Q'⟩:=e.d p hp;have h1:a≠p.1:=iJ h Q.hd (fun z=>nomatch z)
   have h2:a=p.2:=Classical.byContradiction fun z'=>z ⟨h1,z'⟩
   exact⟨_,by rw[h2];exact Q'.hl⟩),e.r⟩
theorem Evo.new{p:Addr}{o:HO}(e:Evo dl H H1)(hp:H1 p=none):Evo dl H (upd H1 p o) :=
 ⟨fun c u h n r=>by rw[ao (aS (e.k c u h n r) hp)];exact e.k c u h n r,fun q hq=>(e.d q hq).new hp,fun c x h=>let⟨y,hy,e'⟩:=e.r c x h;⟨y,hy,by rw[ao (aS e' hp)];exact e'⟩⟩
theorem Evo.free(e:Evo dl H H'){p:Addr}(hp:H' p=none):H p=none:=by
 cases q:H p with
 | none=>rfl
 | some o =>
  by_cases hn:NR o
  ·rw[e.k p o q (e.d.nd0 hp) hn]at hp;cases hp
  ·obtain⟨x,hx⟩:∃ x,o = .room x:=Classical.byContradiction fun c=>hn fun x z=>c ⟨x,z⟩
   subst hx;obtain⟨y,_,e'⟩:=e.r p x q;rw[e']at hp;cases hp
structure Rp(K:W.Frag)(dl:Dl)(H:Hp)(v:V)(t:T)(F:List Addr):Prop where
 r:aA K dl H v t F
 n:∀ b∈F,Nd dl b
structure Rps(K:W.Frag)(dl:Dl)(H:Hp)(vs:List V)(ts:List T)(F:List Addr):Prop where
 r:au K dl H vs ts F
 n:∀ b∈F,Nd dl b
theorem Rp.evo{K:W.Frag}{v:V}{t:T}{F:List Addr}(h:Rp K dl H v t F)(D:Dls dl H)(e:Evo dl H H'):Rp K dl H' v t F :=
 ⟨h.r.cY (e.tf D) (fun _ q=>q) fun b hb o q=>e.k b o q (h.n b hb) (.of (h.r.there b hb) q),h.n⟩
theorem Rps.evo{K:W.Frag}{v:List V}{t:List T}{F:List Addr}(h:Rps K dl H v t F)(D:Dls dl H)(e:Evo dl H H'):Rps K dl H' v t F :=
 ⟨h.r.cY (e.tf D) (fun _ q=>q) fun b hb o q=>e.k b o q (h.n b hb) (.of (h.r.there b hb) q),h.n⟩
inductive Sl where
 | no|o (t:T)|r (t:T)
abbrev Sq:=List Sl
def Sl.get:Sl->Option T
 | .no=>none
 | .o t=>some t
 | .r t=>some t
structure RdR(K:W.Frag)(dl:Dl)(H:Hp)(σ:St)(q:Sq):Prop where
 d:Dls dl H
 g:∀(i:Nat)(x:Sl)(t:T),q[i]? = some x->x.get=some t->∃ v F,σ[i]? = some (some v)/\Rp K dl H v t F
theorem RdR.evo{K:W.Frag}{dl:Dl}{H H':Hp}{σ:St}{q:Sq}(h:RdR K dl H σ q)(e:Evo dl H H'):RdR K dl H' σ q :=
 ⟨e.d,fun i x t h1 h2=>let⟨v,F,h3,h4⟩:=h.g i x t h1 h2;⟨v,F,h3,h4.evo h.d e⟩⟩
abbrev QE:=Sq ->(T->Prop)->Prop
abbrev QT:=Sq ->(Bool->Prop)->Prop
abbrev QA:=Sq ->(List T->Prop)->Prop
def fZ(K:W.Frag)(te:TE)(tq:QE):Prop:=∀(dl:Dl)(H:Hp)(σ:St)(q:Sq)(Q:T->Prop)(R:V->Hp->Prop),RdR K dl H σ q->tq q Q ->
 (∀ v t F H',Evo dl H H'->Rp K dl H' v t F->Q t->R v H')->te σ H R
def ig(K:W.Frag)(te:TE)(tq:QE):Prop:=∀(dl:Dl)(H:Hp)(σ:St)(q:Sq)(Q:T->Prop)(R:V->Hp->Prop),RdR K dl H σ q->tq q Q ->
 (∀ v t F H',Evo dl H H'->Rp K dl H' v t F ->(∀ b∈F,H b=none)->F.Nodup->Q t->R v H')->te σ H R
def km(K:W.Frag)(te:TT)(tq:QT):Prop:=∀(dl:Dl)(H:Hp)(σ:St)(q:Sq)(Q:Bool->Prop)(R:Bool->Hp->Prop),RdR K dl H σ q->tq q Q ->
 (∀ b H',Evo dl H H'->Q b->R b H')->te σ H R
def FX(K:W.Frag)(n:Nat)(te:TA)(tq:QA):Prop:=∀(dl:Dl)(H:Hp)(σ:St)(q:Sq)(Q:List T->Prop)(R:List V->Hp->Prop),RdR K dl H σ q->tq q Q ->
 (∀ vs ts F H',Evo dl H H'->Rps K dl H' vs ts F->vs.length=n->Q ts->R vs H')->te σ H R
def PV(K:W.Frag)(n:Nat)(te:TA)(tq:QA):Prop:=∀(dl:Dl)(H:Hp)(σ:St)(q:Sq)(Q:List T->Prop)(R:List V->Hp->Prop),RdR K dl H σ q->tq q Q ->
 (∀ vs ts F H',Evo dl H H'->Rps K dl H' vs ts F->vs.length=n ->(∀ b∈F,H b=none)->F.Nodup->Q ts->R vs H')->te σ H R
structure QPE(X:Cx)(K:W.Frag)(e:Expr)(te:TE)(tq:QE):Prop where
 h:PE X e te
 s:fZ K te tq
structure QPF(X:Cx)(K:W.Frag)(e:Expr)(te:TE)(tq:QE):Prop where
 h:PE X e te
 s:ig K te tq
structure QPT(X:Cx)(K:W.Frag)(e:Expr)(te:TT)(tq:QT):Prop where
 h:PT X e te
 s:km K te tq
structure QPW(X:Cx)(K:W.Frag)(e:Expr)(te:TT)(tq:QT):Prop where
 h:PW X e te
 s:km K te tq
structure QPA(X:Cx)(K:W.Frag)(es:List Expr)(te:TA)(tq:QA):Prop where
 h:PA X es te
 s:FX K es.length te tq
structure uV(X:Cx)(K:W.Frag)(es:List Expr)(te:TA)(tq:QA):Prop where
 h:PA X es te
 s:PV K es.length te tq
variable{x:Str}
section
variable{X:Cx}{K:W.Frag}{a b c e:Expr}{es rest:List Expr}{ta tb tc te:TE}{qa qb qc qe:QE}{tA tB:TT}{qA qB:QT}{tl:TA}{ql:QA}{pos:Pos}
theorem QPF.w(h:QPF X K e te qe):QPE X K e te qe:=⟨h.h,fun dl H σ q Q R rd hq k=>h.s dl H σ q Q R rd hq fun v t F H' e r _ _ z=>k v t F H' e r z⟩
mutual
def T.im:T->Bool
 | .t xs=>T.ims xs
 | .l _=>false
 | .d _=>false
 | .dp _ _=>false
 | .lp _ _=>false
 | _=>true
def T.ims:List T->Bool
 | []=>true
 | x::r=>x.im&&T.ims r
end
theorem pz{F:List Addr}{x y:Bool}(h:x=true->F = [])(r:y=true->G = [])(q:(x&&y)=true):F++G = []:=by rw[h (To _ _▸q).1,r (To _ _▸q).2];rfl
theorem aA.im{dl:Dl}{H:Hp}{v:V}{t:T}{F:List Addr}(h:aA K dl H v t F):t.im=true->F = [] :=
 aA.rec (motive_1:=fun _ t F _=>t.im=true->F = []) (motive_2:=fun _ t F _=>T.ims t=true->F = []) (motive_3:=fun _ _ _ _=>True)
  (fun _=>rfl) (fun _ _=>rfl) (fun _ _=>rfl) (fun _ _=>rfl) (fun _ _=>rfl) (fun _ _ ih=>ih) (fun _ _ _ h=>absurd h Ta) (fun _ _ _ h=>absurd h Ta)
  (fun _ _=>rfl) (fun _ _=>rfl) (fun _ _=>rfl) (fun _ _ _ _=>rfl) (fun _ _=>rfl) (fun _ _ _ _=>rfl) (fun _ _ _=>rfl) (fun _ _ _ _=>rfl) (fun _ _ _ h=>absurd h Ta) (fun _ _ _ h=>absurd h Ta) (fun _ _ _ _=>rfl) (fun _=>rfl) (fun _ _ i1 i2=>pz i1 i2) trivial (fun _ _ _ _=>trivial) h
theorem au.im{dl:Dl}{H:Hp}{v:List V}{t:List T}{F:List Addr}(h:au K dl H v t F):T.ims t=true->F = []:=h.ind (M:=fun _ t F=>T.ims t=true->F = []) (fun _=>rfl) (fun _ _ _ _ _ _ h _ ih=>pz h.im ih)
def qIm(qe:QE):QE:=fun q Q=>qe q fun t=>t.im=true/\Q t
theorem QPE.f(h:QPE X K e te qe):QPF X K e te (qIm qe):=⟨h.h,fun dl H σ q Q R rd hq k=>h.s dl H σ q _ R rd hq fun v t F H' e r ⟨z1,z2⟩=>by
 have f:=r.r.im z1;subst f;exact k v t [] H' e r (fun _ z=>nomatch z) S6 z2⟩
def bc(i:Nat):QE:=fun q Q=>match q[i]? with
 | some (.o t)=>Q t
 | some (.r t)=>Q t
 | _=>False
theorem GI(i:Nat):fZ K (bb i) (bc i):=by
 intro dl H σ q Q R rd hq k;unfold bc at hq
 split at hq
 ·rename_i t e;obtain⟨v,F,h1,h2⟩:=rd.g i _ t e rfl;exact⟨v,h1,k v t F H (.refl rd.d) h2 hq⟩
 ·rename_i t e;obtain⟨v,F,h1,h2⟩:=rd.g i _ t e rfl;exact⟨v,h1,k v t F H (.refl rd.d) h2 hq⟩
 ·exact hq.elim
theorem qv(i:Nat){pos:Pos}(hN:X.N[i]? = some x:=by rfl)(hv:Vis X.env.scope x:=by first|exact Or.inl rfl|exact Or.inr (Or.inl rfl)|exact Or.inr (Or.inr rfl))(hd:(x ==("__debug__":Str))=false:=by decide)
  (hcd:(x ==("__classdict__":Str))=false:=by decide):QPE X K (.Name x pos) (bb i) (bc i):=⟨xH hN hv hd hcd,GI i⟩
def qC(t:T):QE:=fun _ Q=>Q t
theorem vt{v:V}{t:T}(h:∀ dl H,aA K dl H v t []):ig K (tC v) (qC t):=fun dl H σ q Q R rd hq k=>k v t [] H (.refl rd.d) ⟨h dl H,fun _ z=>nomatch z⟩ (fun _ z=>nomatch z) S6 hq
theorem bF{i j pos}:QPF X K (.Constant (.int i) j pos) (tC (.int i)) (qC (.i i)):=⟨br,vt fun _ _=>.i i⟩
theorem rl{b j pos}:QPF X K (.Constant (.bool b) j pos) (tC (.bl b)) (qC (.b b)):=⟨N2,vt fun _ _=>.b b⟩
theorem dX{j pos}:QPF X K (.Constant .none j pos) (tC .non) (qC .n):=⟨Lv,vt fun _ _=>.n⟩
theorem aJ{x j pos}:QPF X K (.Constant (.str x) j pos) (tC (.str x)) (qC (.s x)):=⟨cO,vt fun _ _=>.s x⟩
theorem Dx{n:String}{pos:Pos}(hg:Gl X x)(hm:X.mg x=none)(hv:bootBuiltins x=some (.type n))(hn:x ≠ "__name__":=by decide)(hd:(x ==("__debug__":Str))=false:=by decide):QPF X K (.Name x pos) (tC (.ty n)) (qC (.ty n)) :=
 ⟨HM hg hm hv rfl hn hd,vt fun _ _=>.ty n⟩
theorem jR{dl:Dl}{H:Hp}:∀(ws:List Str),au K dl H (ws.map V.str) (ws.map T.s) []
 | []=>.nil
 | w::r=>.cons (F:=[]) (.s w) (jR r)
theorem ou{dl:Dl}{H:Hp}:∀(ws:List Int),au K dl H (ws.map V.int) (ws.map T.i) []
 | []=>.nil
 | w::r=>.cons (F:=[]) (.i w) (ou r)
abbrev Q2:=T->T ->(T->Prop)->Prop
def FW(K:W.Frag)(r:R2)(rq:Q2):Prop:=∀(dl:Dl)(H:Hp)(x y:V)(t u:T)(F G:List Addr)(Q:T->Prop)(R:V->Hp->Prop),Dls dl H->Rp K dl H x t F->Rp K dl H y u G->rq t u Q ->
 (∀ v z F' H',Evo dl H H'->Rp K dl H' v z F'->Q z->R v H')->r x y H R
def dq(K:W.Frag)(r:R2)(rq:Q2):Prop:=∀(dl:Dl)(H:Hp)(x y:V)(t u:T)(F G:List Addr)(Q:T->Prop)(R:V->Hp->Prop),Dls dl H->Rp K dl H x t F->Rp K dl H y u G->rq t u Q ->
 (∀ v z F' H',Evo dl H H'->Rp K dl H' v z F' ->(∀ b∈F',H b=none)->F'.Nodup->Q z->R v H')->r x y H R
variable{rq:Q2}
theorem dq.w{r:R2}(h:dq K r rq):FW K r rq:=fun dl H x y t u F G Q R d a b hq k=>h dl H x y t u F G Q R d a b hq fun v z F' H' e r _ _ z'=>k v z F' H' e r z'
def qOp(rq:Q2)(qa qb:QE):QE:=fun q Q=>qa q fun t=>qb q fun u=>rq t u Q
theorem sj{r:R2}(ho:FW K r rq)(ha:fZ K ta qa)(hb:fZ K tb qb):fZ K (tOp r ta tb) (qOp rq qa qb):=by
 intro dl H σ q Q R rd hq k;refine ha dl H σ q _ _ rd hq fun v t F H1 e1 r1 hq1=>?_
 refine hb dl H1 σ q _ _ (rd.evo e1) hq1 fun w u G H2 e2 r2 hq2=>?_
 exact ho dl H2 v w t u F G Q R e2.d (r1.evo e1.d e2) r2 hq2 fun v' z F' H3 e3 r3 hz=>k v' z F' H3 ((e1.trans e2).trans e3) r3 hz
theorem si{r:R2}(ho:dq K r rq)(ha:fZ K ta qa)(hb:fZ K tb qb):ig K (tOp r ta tb) (qOp rq qa qb):=by
 intro dl H σ q Q R rd hq k;refine ha dl H σ q _ _ rd hq fun v t F H1 e1 r1 hq1=>?_
 refine hb dl H1 σ q _ _ (rd.evo e1) hq1 fun w u G H2 e2 r2 hq2=>?_
 exact ho dl H2 v w t u F G Q R e2.d (r1.evo e1.d e2) r2 hq2 fun v' z F' H3 e3 r3 f3 n3 hz=>k v' z F' H3 ((e1.trans e2).trans e3) r3 (fun b hb=>(e1.trans e2).free (f3 b hb)) n3 hz
theorem oy{op:Operator}{r:R2}(ho:OpR X (binaryOp op) r)(hs:dq K r rq)(ha:QPE X K a ta qa)(hb:QPE X K b tb qb):QPF X K (.BinOp a op b pos) (tOp r ta tb) (qOp rq qa qb):=⟨cg ho ha.h hb.h,si hs ha.s hb.s⟩
end
end L2
namespace L2
open PySem PySem.Spec PyProof.Rows
variable{x:Str}{C:Addr}{ns:List Str}{a:Addr}{ws:List Str}{G:List Addr}
section
variable{X:Cx}{K:W.Frag}{dl:Dl}{H:Hp}{v:V}{F:List Addr}
def PZ(K:W.Frag)(dl:Dl)(H:Hp)(v:V)(F:List Addr):T->Prop
 | .n=>v = .non/\F = []
 | .b x=>v = .bl x/\F = []
 | .i x=>v = .int x/\F = []
 | .s x=>v = .str x/\F = []
 | .ty x=>v = .ty x
 | .t ts=>∃ a vs,v = .ref a/\H a=some (.tup vs)/\au K dl H vs ts F
 | .l ts=>∃ a vs G,v = .ref a/\F=a::G/\H a=some (.lst vs)/\au K dl H vs ts G
 | .d ts=>∃ a vs G,v = .ref a/\F=a::G/\H a=some (.dK vs)/\aQ K dl H vs ts G
 | .cZ=>∃ a l,v = .ref a/\(a,l)∈dl/\F = []
 | .z ns=>∃ a,v = .ref a/\FzL K H a (ns.map V.int)/\F = []
 | .k ws=>∃ a,v = .ref a/\(∀ H',SqT K H' a (ws.map V.str))/\F = []
 | .xc C ns ts=>∃ a b vs,v = .ref a/\F = []/\ExH H a C b (ns.zip vs)/\au K dl H vs ts []
 | .q=>True
 | .fd _ _ _=>True
 | .rm u=>∃ a x,v = .ref a/\H a=some (.room x)/\x<=u/\F = []
 | .ob C ns ts=>∃ a vs,v = .ref a/\F = []/\ObH H a C (ns.zip vs)/\au K dl H vs ts []
 | .dp a ts=>∃ vs G,v = .ref a/\F=a::G/\H a=some (.dK vs)/\aQ K dl H vs ts G
 | .lp a ts=>∃ vs G,v = .ref a/\F=a::G/\H a=some (.lst vs)/\au K dl H vs ts G
 | .zl ts=>∃ a o vs,v = .ref a/\F = []/\H a=some (.frz o (.lst vs))/\au K dl H vs ts []
theorem aA.inv{t:T}(h:aA K dl H v t F):PZ K dl H v F t :=
 aA.rec (motive_1:=fun v t F _=>PZ K dl H v F t) (motive_2:=fun _ _ _ _=>True) (motive_3:=fun _ _ _ _=>True) ⟨rfl,rfl⟩ (fun _=>⟨rfl,rfl⟩) (fun _=>⟨rfl,rfl⟩) (fun _=>⟨rfl,rfl⟩) (fun _=>rfl)
  (fun h r _=>⟨_,_,rfl,h,r⟩) (fun h r _=>⟨_,_,_,rfl,rfl,h,r⟩) (fun h r _=>⟨_,_,_,rfl,rfl,h,r⟩) (fun h=>⟨_,_,rfl,h,rfl⟩) (fun h=>⟨_,rfl,h,rfl⟩) (fun _=>trivial) (fun _ _ _=>trivial) (fun h=>⟨_,rfl,h,rfl⟩) (fun h r _=>⟨_,_,_,rfl,rfl,h,r⟩) (fun h hx=>⟨_,_,rfl,h,hx,rfl⟩) (fun h r _=>⟨_,_,rfl,rfl,h,r⟩) (fun h r _=>⟨_,_,rfl,rfl,h,r⟩) (fun h r _=>⟨_,_,rfl,rfl,h,r⟩) (fun h r _=>⟨_,_,_,rfl,rfl,h,r⟩)
  trivial (fun _ _ _ _=>trivial) trivial (fun _ _ _ _=>trivial) h
theorem aA.int{x:Int}(h:aA K dl H v (.i x) F):v = .int x/\F = []:=h.inv
theorem aA.str(h:aA K dl H v (.s x) F):v = .str x/\F = []:=h.inv
theorem aA.bl{x:Bool}(h:aA K dl H v (.b x) F):v = .bl x/\F = []:=h.inv
theorem aA.non(h:aA K dl H v .n F):v = .non/\F = []:=h.inv
theorem aA.tyy{x:String}(h:aA K dl H v (.ty x) F):v = .ty x:=h.inv
theorem aA.tup{ts:List T}(h:aA K dl H v (.t ts) F):∃ a vs,v = .ref a/\H a=some (.tup vs)/\au K dl H vs ts F:=h.inv
theorem aA.lst{ts:List T}(h:aA K dl H v (.l ts) F):∃ a vs G,v = .ref a/\F=a::G/\H a=some (.lst vs)/\au K dl H vs ts G:=h.inv
theorem aA.dic{ts:List (Key×T)}(h:aA K dl H v (.d ts) F):∃ a vs G,v = .ref a/\F=a::G/\H a=some (.dK vs)/\aQ K dl H vs ts G:=h.inv
theorem aA.roo{u:Int}(h:aA K dl H v (.rm u) F):∃ a x,v = .ref a/\H a=some (.room x)/\x<=u/\F = []:=h.inv
theorem aA.obj{ts:List T}(h:aA K dl H v (.ob C ns ts) F):∃ a vs,v = .ref a/\F = []/\ObH H a C (ns.zip vs)/\au K dl H vs ts []:=h.inv
theorem aA.dpp{ts:List (Key×T)}(h:aA K dl H v (.dp a ts) F):∃ vs G,v = .ref a/\F=a::G/\H a=some (.dK vs)/\aQ K dl H vs ts G:=h.inv
theorem aA.lpp{ts:List T}(h:aA K dl H v (.lp a ts) F):∃ vs G,v = .ref a/\F=a::G/\H a=some (.lst vs)/\au K dl H vs ts G:=h.inv
theorem aA.zls{ts:List T}(h:aA K dl H v (.zl ts) F):∃ a o vs,v = .ref a/\F = []/\H a=some (.frz o (.lst vs))/\au K dl H vs ts []:=h.inv
theorem aA.dea(h:aA K dl H v .cZ F):∃ a l,v = .ref a/\(a,l)∈dl/\F = []:=h.inv
theorem aA.scr{ns:List Int}(h:aA K dl H v (.z ns) F):∃ a,v = .ref a/\FzL K H a (ns.map V.int)/\F = []:=h.inv
theorem aA.kst(h:aA K dl H v (.k ws) F):∃ a,v = .ref a/\(∀ H',SqT K H' a (ws.map V.str))/\F = []:=h.inv
theorem au.len{vs:List V}{ts:List T}{F:List Addr}(h:au K dl H vs ts F):vs.length=ts.length:=h.ind (M:=fun vs ts _=>vs.length=ts.length) rfl fun _ _ _ _ _ _ _ _ ih=>congrArg (· + 1) ih
theorem aQ.len{vs:List (Key×V)}{ts:List (Key×T)}{F:List Addr}(h:aQ K dl H vs ts F):vs.length=ts.length:=h.ind (M:=fun vs ts _=>vs.length=ts.length) rfl fun _ _ _ _ _ _ _ _ _ ih=>congrArg (· + 1) ih
theorem au.Mg{vs:List V}{ts:List T}{F:List Addr}{i:Nat}{t:T}(h:au K dl H vs ts F)(e:ts[i]? = some t):∃ v G,vs[i]? = some v/\aA K dl H v t G/\G.Sublist F :=
 h.ind (M:=fun vs ts F=>∀(i:Nat)(t:T),ts[i]? = some t->∃ v G,vs[i]? = some v/\aA K dl H v t G/\G.Sublist F) (fun _ _ e=>nomatch e) (fun v x vs ts F G h _ ih i t e=>by
  cases i with
  | zero=>cases e;exact⟨v,F,rfl,h,List.sublist_append_left _ _⟩
  | succ i =>
   obtain⟨w,G',h1,h2,h3⟩:=ih i t e;exact⟨w,G',h1,h2,h3.trans (Vw _ _)⟩) i t e
theorem au.get{vs:List V}{ts:List T}{F:List Addr}{i:Nat}{t:T}(h:au K dl H vs ts F)(e:ts[i]? = some t):∃ v G,vs[i]? = some v/\aA K dl H v t G/\∀ b∈G,b∈F :=
 Exists.elim (h.Mg e) fun v z=>Exists.elim z fun G z=>⟨v,G,z.1,z.2.1,fun _ hb=>z.2.2.subset hb⟩
theorem au.append{vs ws:List V}{ts us:List T}{F:List Addr}(h:au K dl H vs ts F)(h2:au K dl H ws us G):au K dl H (vs++ws) (ts++us) (F++G) :=
 h.ind (M:=fun vs ts F=>au K dl H (vs++ws) (ts++us) (F++G)) h2 fun _ _ _ _ _ _ h _ ih=>by rw[Tp];exact .cons h ih
theorem au.gP{vs:List V}{ts:List T}(h:au K dl H vs ts F):vs = [] ↔ ts = []:=by
 cases h with
 | nil=>simp
 | cons _ _=>simp
theorem au.drop:∀{vs:List V}{ts:List T}{F:List Addr}(n:Nat),au K dl H vs ts F->∃ G,au K dl H (vs.drop n) (ts.drop n) G/\G.Sublist F
 | _,_,F,0,h=>⟨F,h,List.Sublist.refl _⟩
 | _,_,_,_+1,.nil=>⟨[],.nil,List.Sublist.refl _⟩
 | _,_,_,n+1,.cons (F:=F1) h r=>by
  obtain⟨G,h1,h2⟩:=au.drop n r;exact⟨G,h1,h2.trans (Vw _ _)⟩
theorem au.take:∀{vs:List V}{ts:List T}{F:List Addr}(n:Nat),au K dl H vs ts F->∃ G,au K dl H (vs.take n) (ts.take n) G/\G.Sublist F
 | _,_,F,0,h=>⟨[],.nil,List.nil_sublist _⟩
 | _,_,_,_+1,.nil=>⟨[],.nil,List.Sublist.refl _⟩
 | _,_,_,n+1,.cons (F:=F1) h r=>by
  obtain⟨G,h1,h2⟩:=au.take n r;exact⟨_,.cons h h1,h2.append_left _⟩
theorem Rp.sub{t:T}{F:List Addr}(r:aA K dl H v t G)(n:∀ b∈F,Nd dl b)(h:∀ b∈G,b∈F):Rp K dl H v t G:=⟨r,fun b hb=>n b (h b hb)⟩
theorem Rp.c{t:T}(r:aA K dl H v t []):Rp K dl H v t []:=⟨r,fun _ z=>nomatch z⟩
theorem Rps.tup{vs:List V}{ts:List T}{p:Addr}(h:Rps K dl H vs ts F)(D:Dls dl H)(hp:H p=none):Rp K dl (upd H p (.tup vs)) (.ref p) (.t ts) F :=
 have h2:=h.evo D ((Evo.refl D).new (o:=.tup vs) hp)
 ⟨.t ax h2.r,h2.n⟩
theorem Rps.lst{vs:List V}{ts:List T}{p:Addr}(h:Rps K dl H vs ts F)(D:Dls dl H)(hp:H p=none):Rp K dl (upd H p (.lst vs)) (.ref p) (.l ts) (p::F) :=
 have h2:=h.evo D ((Evo.refl D).new (o:=.lst vs) hp)
 ⟨.l ax h2.r,fun b hb=>by
  rcases S1.mp hb with e|hb
  ·rw[e];exact D.nd0 hp
  ·exact h2.n b hb⟩
theorem Rps.fresh{vs:List V}{ts:List T}{p:Addr}(h:Rps K dl H vs ts F)(hp:H p=none)(hn:F.Nodup):(p::F).Nodup:=TB.mpr ⟨fun z=>(by
 rcases h.r.there p z with⟨_,e⟩ |⟨_,e⟩
 ·rw[hp]at e;cases e
 ·rw[hp]at e;cases e),hn⟩
def qII(C:Int->Int->Prop)(g:Int->Int->T):Q2:=fun t u Q=>match t,u with
 | .i a,.i b=>C a b/\Q (g a b)
 | _,_=>False
theorem JJ{C:Int->Int->Prop}{g:Int->Int->V}{g':Int->Int->T}(hg:∀ a b dl H,aA K dl H (g a b) (g' a b) []):dq K (rI C g) (qII C g'):=by
 intro dl H x y t u F G Q R D r1 r2 hq k;unfold qII at hq
 split at hq
 ·obtain⟨rfl,rfl⟩:=r1.r.int;obtain⟨rfl,rfl⟩:=r2.r.int;exact⟨_,_,rfl,rfl,hq.1,k _ _ [] H (.refl D) (.c (hg _ _ _ _)) (fun _ z=>nomatch z) S6 hq.2⟩
 ·exact hq.elim
def qI0(g:Int->Int->T):Q2:=fun t u Q=>match t,u with
 | .i a,.i b=>Q (g a b)
 | _,_=>False
theorem sv{g:Int->Int->V}{g':Int->Int->T}(hg:∀ a b dl H,aA K dl H (g a b) (g' a b) []):dq K (rI0 g) (qI0 g'):=by
 intro dl H x y t u F G Q R D r1 r2 hq k;unfold qI0 at hq
 split at hq
 ·obtain⟨rfl,rfl⟩:=r1.r.int;obtain⟨rfl,rfl⟩:=r2.r.int;exact⟨_,_,rfl,rfl,k _ _ [] H (.refl D) (.c (hg _ _ _ _)) (fun _ z=>nomatch z) S6 hq⟩
 ·exact hq.elim
theorem HQ:OpR X (binaryOp .Add) (fun x y H Q=>∃ a b xs ys,x = .ref a/\y = .ref b/\SqT X.K H a xs/\SqT X.K H b ys/\xs.length+ys.length<=S4 /\
  (xs = []->Q (.ref b) H)/\(xs ≠ []->ys = []->Q (.ref a) H)/\(xs ≠ []->ys ≠ []->∀ p,H p=none->Q (.ref p) (upd H p (.tup (xs++ys))))):=by
 intro gV s σ H x y v u Q I rx ry h;obtain⟨a,b,xs,ys,rfl,rfl,ha,hb,hz,q0,q1,q2⟩:=h;by_cases hx:xs = []
 ·cases rx;cases ry;obtain⟨its,r1,p1,_⟩:=I.tuple ha;obtain⟨bJ,r2,p2,_⟩:=I.tuple hb;have e:its = []:=r1.gP.mpr hx;subst e;obtain⟨⟨cls,dd,data,sl⟩,ho,hc,n,hd⟩:=id p1;obtain⟨⟨Sm,dd2,data2,sl2⟩,ho2,hc2,n2,hd2⟩:=id p2;simp only at hc hd hc2 hd2;subst hc hd hc2 hd2;exact concat_meets ⟨_,ho,rfl⟩ ⟨_,ho2,rfl⟩ noFill_tuple_add seq_tuple_add PySem.F.slot_tuple_add PySem.F.entry_tuple_add (PySem.F.args_tuple_add_2 _ _)
   (tuple_addW0 a b ([]:List Value).toArray bJ.toArray n n2 dd dd2 sl sl2 (by simp)) ⟨ho,ho2,⟨.ref b,H,I,rfl,q0 hx⟩⟩
 ·exact HR gV s σ H _ _ v u Q I rx ry ⟨a,b,xs,ys,rfl,rfl,ha,hb,hx,hz,q1 hx,q2 hx⟩
def Dm(K:W.Frag):R2:=fun x y H Q=>rI0 (fun i j=>.int (i+j)) x y H Q\/(∃ i j,x = .str i/\y = .str j/\i.length+j.length<=S4/\Q (.str (i++j)) H)\/Nv x y H Q \/
 (∃ a b xs ys,x = .ref a/\y = .ref b/\SqT K H a xs/\SqT K H b ys/\xs.length+ys.length<=S4 /\
  (xs = []->Q (.ref b) H)/\(xs ≠ []->ys = []->Q (.ref a) H)/\(xs ≠ []->ys ≠ []->∀ p,H p=none->Q (.ref p) (upd H p (.tup (xs++ys)))))
theorem HU(hK:X.K=K):OpR X (binaryOp .Add) (Dm K):=by subst hK;exact l5.or (xN.or (LB.or HQ))
def A9:Q2:=fun t u Q=>match t,u with
 | .i a,.i b=>Q (.i (a+b))
 | .s a,.s b=>a.length+b.length<=S4/\Q (.s (a++b))
 | .l a,.l b=>a.length+b.length<=S4/\T.ims a=true/\T.ims b=true/\Q (.l (a++b))
 | .t a,.t b=>a.length+b.length<=S4/\T.ims a=true/\T.ims b=true/\Q (.t (a++b))
 | _,_=>False
theorem GW:dq K (Dm K) A9:=by
 intro dl H x y t u F G Q R D r1 r2 hq k;have no:∀ b:Addr,b∈([]:List Addr)->H b=none:=fun _ z=>nomatch z
 unfold A9 at hq
 split at hq
 ·obtain⟨rfl,rfl⟩:=r1.r.int;obtain⟨rfl,rfl⟩:=r2.r.int;exact .inl ⟨_,_,rfl,rfl,k _ _ [] H (.refl D) (.c (.i _)) no S6 hq⟩
 ·obtain⟨rfl,rfl⟩:=r1.r.str;obtain⟨rfl,rfl⟩:=r2.r.str;exact .inr (.inl ⟨_,_,rfl,rfl,hq.1,k _ _ [] H (.refl D) (.c (.s _)) no S6 hq.2⟩)
 ·obtain⟨a,vs,F1,rfl,rfl,h1,s1⟩:=r1.r.lst;obtain⟨b,ws,G1,rfl,rfl,h2,s2⟩:=r2.r.lst;obtain rfl:=s1.im hq.2.1;obtain rfl:=s2.im hq.2.2.1;refine .inr (.inr (.inl ⟨a,b,vs,ws,rfl,rfl,h1,h2,by rw[s1.len,s2.len];exact hq.1,fun p hp=>?_⟩))
  have rs:Rps K dl H (vs++ws) _ ([] ++ []):=⟨s1.append s2,fun c hc=>nomatch hc⟩
  exact k _ _ _ _ ((Evo.refl D).new hp) (rs.lst D hp) (fun b hb=>by rw[qr.mp hb];exact hp) (by simp) hq.2.2.2
 ·obtain⟨a,vs,rfl,h1,s1⟩:=r1.r.tup;obtain⟨b,ws,rfl,h2,s2⟩:=r2.r.tup;obtain rfl:=s1.im hq.2.1;obtain rfl:=s2.im hq.2.2.1;refine .inr (.inr (.inr ⟨a,b,vs,ws,rfl,rfl,SqT.of h1,SqT.of h2,by rw[s1.len,s2.len];exact hq.1,fun e=>?_,fun e1 e2=>?_,fun _ _ p hp=>?_⟩))
  ·refine k _ _ [] H (.refl D) r2 no S6 ?_;have z:=s1.gP.mp e;subst z;exact hq.2.2.2
  ·refine k _ _ [] H (.refl D) r1 no S6 ?_;have z:=s2.gP.mp e2;subst z;have hq2:=hq.2.2.2;rw[Td]at hq2;exact hq2
  ·have rs:Rps K dl H (vs++ws) _ ([] ++ []):=⟨s1.append s2,fun c hc=>nomatch hc⟩
   exact k _ _ _ _ ((Evo.refl D).new hp) (rs.tup D hp) no S6 hq.2.2.2
 ·exact hq.elim
def K9:Q2:=fun t u Q=>match t,u with
 | .i a,.i b=>Gh a b/\Q (.i (a*b))
 | .s a,.i b=>0<=b/\b<=1000/\a.length<=1000/\Q (.s (iE a b.toNat))
 | _,_=>False
def De:R2:=fun x y H Q=>rI Gh (fun i j=>.int (i*j)) x y H Q\/(∃ z n,x = .str z/\y = .int n/\0<=n/\n<=1000/\z.length<=1000/\Q (.str (iE z n.toNat)) H)
theorem HN:OpR X (binaryOp .Mult) De:=jV.or xM
theorem GR:dq K De K9:=by
 intro dl H x y t u F G Q R D r1 r2 hq k;unfold K9 at hq
 split at hq
 ·obtain⟨rfl,rfl⟩:=r1.r.int;obtain⟨rfl,rfl⟩:=r2.r.int;exact .inl ⟨_,_,rfl,rfl,hq.1,k _ _ [] H (.refl D) (.c (.i _)) (fun _ z=>nomatch z) S6 hq.2⟩
 ·obtain⟨rfl,rfl⟩:=r1.r.str;obtain⟨rfl,rfl⟩:=r2.r.int;exact .inr ⟨_,_,rfl,rfl,hq.1,hq.2.1,hq.2.2.1,k _ _ [] H (.refl D) (.c (.s _)) (fun _ z=>nomatch z) S6 hq.2.2.2⟩
 ·exact hq.elim
end
section
variable{X:Cx}{K:W.Frag}{a b:Expr}{ta tb:TE}{qa qb:QE}{pos:Pos}
theorem bq(ha:QPE X K a ta qa)(hb:QPE X K b tb qb)(hK:X.K=K:=by rfl):QPF X K (.BinOp a .Add b pos) (tOp (Dm K) ta tb) (qOp A9 qa qb):=oy (HU hK) GW ha hb
theorem Dy(ha:QPE X K a ta qa)(hb:QPE X K b tb qb):QPF X K (.BinOp a .Sub b pos) (tOp (rI0 fun i j=>.int (i - j)) ta tb) (qOp (qI0 fun i j=>.i (i - j)) qa qb):=oy xK (sv fun _ _ _ _=>.i _) ha hb
theorem oA(ha:QPE X K a ta qa)(hb:QPE X K b tb qb):QPF X K (.BinOp a .Mult b pos) (tOp De ta tb) (qOp K9 qa qb):=oy HN GR ha hb
theorem Dz(ha:QPE X K a ta qa)(hb:QPE X K b tb qb):QPF X K (.BinOp a .Mod b pos) (tOp (rI (fun _ j=>0<j) fun i j=>.int (i % j)) ta tb) (qOp (qII (fun _ j=>0<j) fun i j=>.i (i % j)) qa qb):=oy gN (JJ fun _ _ _ _=>.i _) ha hb
theorem Hk(ha:QPE X K a ta qa)(hb:QPE X K b tb qb):QPF X K (.BinOp a .FloorDiv b pos) (tOp (rI Gi fun i j=>.int (i / j)) ta tb) (qOp (qII Gi fun i j=>.i (i / j)) qa qb):=oy vR (JJ fun _ _ _ _=>.i _) ha hb
end
variable{neg:Bool}{op:CmpOp}{rq:Q2}{j:Nat}
section
variable{X:Cx}{K:W.Frag}{a b c e:Expr}{es rest:List Expr}{ta tb tc te:TE}{qa qb qc qe:QE}{tA tB:TT}{qA qB:QT}{tl:TA}{ql:QA}{pos:Pos}
def T.v:T->V
 | .n=>.non | .b x=>.bl x | .i x=>.int x | .s x=>.str x | _=>.ty ""
def T.fl:T->Bool
 | .n=>true | .b _=>true | .i _=>true | .s _=>true | _=>false
theorem aA.v{dl:Dl}{H:Hp}{v:V}{t:T}{F:List Addr}(h:aA K dl H v t F)(f:t.fl=true):v=t.v/\F = []:=by
 cases h <;> first|exact⟨rfl,rfl⟩|exact absurd (show false=true from f) Ta
def qEq:Q2:=fun t u Q=>(t.fl&&u.fl&&Nh t.v u.v)=true/\Q (.b (decide (t.v=u.v)))
theorem KH:dq K rEq qEq:=by
 intro dl H x y t u F G Q R D r1 r2 hq k;obtain⟨h,hq⟩:=hq;rw[To,To]at h;obtain⟨rfl,rfl⟩:=r1.r.v h.1.1;obtain⟨rfl,rfl⟩:=r2.r.v h.1.2;exact⟨h.2,k _ _ [] H (.refl D) (.c (.b _)) (fun _ z=>nomatch z) S6 hq⟩
def A8(neg:Bool):Q2:=fun t u Q=>match u with
 | .n=>Q (.b (match t with | .n=>!neg | _=>neg))
 | _=>False
theorem zc:dq K (fun x y H Q=>y = .non/\Q (.bl (decide (x = .non))) H) (A8 false):=by
 intro dl H x y t u F G Q R D r1 r2 hq k;unfold A8 at hq
 split at hq
 ·obtain⟨rfl,rfl⟩:=r2.r.non;refine⟨rfl,k _ _ [] H (.refl D) (.c (.b _)) (fun _ z=>nomatch z) S6 ?_⟩
  cases r1.r <;> exact hq
 ·exact hq.elim
theorem n8:dq K (fun x y H Q=>y = .non/\Q (.bl (!decide (x = .non))) H) (A8 true):=by
 intro dl H x y t u F G Q R D r1 r2 hq k;unfold A8 at hq
 split at hq
 ·obtain⟨rfl,rfl⟩:=r2.r.non;refine⟨rfl,k _ _ [] H (.refl D) (.c (.b _)) (fun _ z=>nomatch z) S6 ?_⟩
  cases r1.r <;> exact hq
 ·exact hq.elim
def inT(x:T)(xs:List T):Bool:=xs.any fun y=>eqV y.v x.v
def fls(xs:List T):Bool:=xs.all T.fl
theorem au.vs{dl:Dl}{H:Hp}{vs:List V}{ts:List T}{F:List Addr}(h:au K dl H vs ts F):fls ts=true->vs=ts.map T.v/\F = [] :=
 h.ind (M:=fun vs ts F=>fls ts=true->vs=ts.map T.v/\F = []) (fun _=>⟨rfl,rfl⟩) fun _ _ _ _ _ _ h _ ih f=>by
  have f:(_&&_)=true:=f;rw[To]at f;obtain⟨rfl,rfl⟩:=h.v f.1;obtain⟨rfl,rfl⟩:=ih f.2;exact⟨rfl,rfl⟩
theorem pE{ts:List T}(f:fls ts=true):(ts.map T.v).all cR=true:=by
 rw[T9];intro x hx;obtain⟨t,ht,rfl⟩:=S5.mp hx
 have:=T9.mp f t ht
 cases t <;> first|rfl|exact absurd this Ta
theorem uo{t:T}(f:t.fl=true):cR t.v=true:=by cases t <;> first|rfl|exact absurd f Ta
def G8(K:W.Frag)(neg:Bool):R2:=fun x y H Q=>rIn K neg x y H Q\/∃ i j,x = .str i/\y = .str j/\Q (.bl (if neg then !(!(Builtin.Str.occurrences j i 0 j.length 1).isEmpty)else !(Builtin.Str.occurrences j i 0 j.length 1).isEmpty)) H
theorem lZ(hK:X.K=K):OpR X (compareOp .In) (G8 K false):=by subst hK;exact Bk.or Bj
theorem rC(hK:X.K=K):OpR X (compareOp .NotIn) (G8 K true):=by subst hK;exact tE.or tw
def qIn(neg:Bool):Q2:=fun t u Q=>match u with
 | .l xs=>(t.fl&&fls xs)=true/\Q (.b (if neg then !inT t xs else inT t xs))
 | .t xs=>(t.fl&&fls xs)=true/\Q (.b (if neg then !inT t xs else inT t xs))
 | .k ws=>match t with
  | .s y=>Q (.b (if neg then !inT (.s y) (ws.map T.s)else inT (.s y) (ws.map T.s)))
  | _=>False
 | .s z=>match t with
  | .s y=>Q (.b (if neg then !(!(Builtin.Str.occurrences z y 0 z.length 1).isEmpty)else !(Builtin.Str.occurrences z y 0 z.length 1).isEmpty))
  | _=>False
 | _=>False
theorem iw:dq K (G8 K neg) (qIn neg):=by
 intro dl H x y t u F G Q R D r1 r2 hq k;have go:∀(xs:List T)(p:Addr)(vs:List V),y = .ref p ->(SqL K H p vs\/SqT K H p vs) ->(∃ G,au K dl H vs xs G) ->(t.fl&&fls xs)=true/\Q (.b (if neg then !inT t xs else inT t xs))->G8 K neg x y H R:=by
  rintro xs p vs rfl hs ⟨G,rs⟩ ⟨f,hq⟩
  rw[To]at f;obtain⟨rfl,rfl⟩:=r1.r.v f.1;obtain⟨rfl,_⟩:=rs.vs f.2;refine .inl ⟨p,_,rfl,hs,uo f.1,pE f.2,k _ (.b _) [] H (.refl D) (.c (.b _)) (fun _ z=>nomatch z) S6 ?_⟩
  have e:inV t.v (xs.map T.v)=inT t xs:=by unfold inV inT;rw[VJ];rfl
  rw[e];exact hq
 unfold qIn at hq
 split at hq
 ·obtain⟨p,vs,G,rfl,_,h1,h2⟩:=r2.r.lst;exact go _ p vs rfl (.inl (SqL.of h1)) ⟨_,h2⟩ hq
 ·obtain⟨p,vs,rfl,h1,h2⟩:=r2.r.tup;exact go _ p vs rfl (.inr (SqT.of h1)) ⟨_,h2⟩ hq
 ·split at hq
  ·obtain⟨p,rfl,h1,_⟩:=r2.r.kst;refine go _ p _ rfl (.inr (h1 H)) ⟨_,jR _⟩ ⟨?_,hq⟩;rw[To];refine⟨rfl,?_⟩;unfold fls;rw[Wd,T9];exact fun _ _=>rfl
  ·exact hq.elim
 ·split at hq
  ·obtain⟨rfl,rfl⟩:=r1.r.str;obtain⟨rfl,rfl⟩:=r2.r.str;exact .inr ⟨_,_,rfl,rfl,k _ _ [] H (.refl D) (.c (.b _)) (fun _ z=>nomatch z) S6 hq⟩
  ·exact hq.elim
 ·exact hq.elim
theorem lT{r:R2}(ho:OpR X (compareOp op) r)(hs:dq K r rq)(hm:behindInMarks op b=false)(ha:QPE X K a ta qa)(hb:QPE X K b tb qb):QPF X K (.Compare a [op] [b] pos) (tOp r ta tb) (qOp rq qa qb) :=
 ⟨HL ho ha.h hb.h hm,si hs ha.s hb.s⟩
def rn(qe:QE):QT:=fun q Q=>qe q fun t=>match t with
 | .b x=>Q x
 | _=>False
theorem CN(h:fZ K te qe):km K (y3 te) (rn qe):=by
 intro dl H σ q Q R rd hq k;refine h dl H σ q _ _ rd hq fun v t F H' e r hz=>?_
 split at hz
 ·obtain⟨rfl,rfl⟩:=r.r.bl;exact⟨_,rfl,k _ H' e hz⟩
 ·exact hz.elim
theorem bE{r:R2}(ho:OpR X (compareOp op) r)(hs:dq K r rq)(hm:behindInMarks op b=false)(ha:QPE X K a ta qa)(hb:QPE X K b tb qb):QPT X K (.Compare a [op] [b] pos) (y3 (tOp r ta tb)) (rn (qOp rq qa qb)) :=
 ⟨kJ ho ha.h hb.h hm,CN (sj hs.w ha.s hb.s)⟩
def Nx(qe:QE):QT:=fun q Q=>qe q fun t=>match t with
 | .b x=>Q x
 | .n=>Q false
 | .i x=>Q (x != 0)
 | .s x=>x.length<=S4/\Q ((x.length:Int) != 0)
 | .l xs=>Q (!xs.isEmpty)
 | .t xs=>Q (!xs.isEmpty)
 | .d xs=>Q (!xs.isEmpty)
 | _=>False
theorem GL(h:fZ K te qe):km K (fun σ H Q=>te σ H fun x H'=>∃ k,Jt K x H' k/\Q k H') (Nx qe):=by
 intro dl H σ q Q R rd hq k;refine h dl H σ q _ _ rd hq fun v t F H' e r hz=>?_
 have emp:∀{α β:Type}{xs:List α}{ys:List β},xs.length=ys.length ->(!xs.isEmpty) = !ys.isEmpty:=fun{α β xs ys} h=>by
  cases xs <;> cases ys <;> first|rfl |(simp at h)
 split at hz
 ·obtain⟨rfl,rfl⟩:=r.r.bl;exact⟨_,rfl,k _ H' e hz⟩
 ·obtain⟨rfl,rfl⟩:=r.r.non;exact⟨_,rfl,k _ H' e hz⟩
 ·obtain⟨rfl,rfl⟩:=r.r.int;exact⟨_,rfl,k _ H' e hz⟩
 ·obtain⟨rfl,rfl⟩:=r.r.str;exact⟨_,⟨hz.1,rfl⟩,k _ H' e hz.2⟩
 ·obtain⟨p,vs,G,rfl,_,h1,h2⟩:=r.r.lst;exact⟨_,.inl ⟨vs,SqL.of h1,rfl⟩,k _ H' e (by rw[emp h2.len];exact hz)⟩
 ·obtain⟨p,vs,rfl,h1,h2⟩:=r.r.tup;exact⟨_,.inr (.inl ⟨vs,SqT.of h1,rfl⟩),k _ H' e (by rw[emp h2.len];exact hz)⟩
 ·obtain⟨p,vs,G,rfl,_,h1,h2⟩:=r.r.dic;exact⟨_,.inr (.inr ⟨vs,h1,rfl⟩),k _ H' e (by rw[emp h2.len];exact hz)⟩
 ·exact hz.elim
theorem kF(h:QPE X K e te qe)(he:∀ whole,isTrue e X.env whole =(do let v <- whole;standAt e.pos;holding [v] (truthy v)):=by intro _;rfl)(hK:X.K=K:=by rfl) :
  QPT X K e (fun σ H Q=>te σ H fun x H'=>∃ k,Jt K x H' k/\Q k H') (Nx qe):=⟨by subst hK;exact DR h.h he,GL h.s⟩
def NA(t:QT):QT:=fun q Q=>t q fun c=>Q (!c)
def NJ(t u:QT):QT:=fun q Q=>t q fun c=>if c=true then u q Q else Q false
def qOr(t u:QT):QT:=fun q Q=>t q fun c=>if c=true then Q true else u q Q
theorem GQ(h:km K tA qA):km K (Ku tA) (NA qA):=fun dl H σ q _ R rd hq k=>h dl H σ q _ _ rd hq fun b H' e hz=>k _ H' e hz
theorem GV(h:km K tA qA)(h2:km K tB qB):km K (Kv tA tB) (NJ qA qB):=fun dl H σ q Q R rd hq k=>h dl H σ q _ _ rd hq fun b H' e hz=>by
 cases b with
 | false=>exact k _ H' e hz
 | true=>exact h2 dl H' σ q Q R (rd.evo e) hz fun c H2 e2 z=>k c H2 (e.trans e2) z
theorem KD(h:km K tA qA)(h2:km K tB qB):km K (tOr tA tB) (qOr qA qB):=fun dl H σ q Q R rd hq k=>h dl H σ q _ _ rd hq fun b H' e hz=>by
 cases b with
 | true=>exact k _ H' e hz
 | false=>exact h2 dl H' σ q Q R (rd.evo e) hz fun c H2 e2 z=>k c H2 (e.trans e2) z
theorem Dp(h:QPT X K a tA qA):QPT X K (.UnaryOp .Not a pos) (Ku tA) (NA qA):=⟨Lg h.h,GQ h.s⟩
theorem sL(h:QPT X K a tA qA):QPW X K (.BoolOp .And [a] pos) tA qA:=⟨zt h.h,h.s⟩
theorem xr(h:QPT X K a tA qA):QPW X K (.BoolOp .Or [a] pos) tA qA:=⟨Ld h.h,h.s⟩
theorem xt(h:QPT X K a tA qA)(h2:QPW X K (.BoolOp .And (b::rest) pos) tB qB):QPW X K (.BoolOp .And (a::b::rest) pos) (Kv tA tB) (NJ qA qB):=⟨DO h.h h2.h,GV h.s h2.s⟩
theorem zg(h:QPT X K a tA qA)(h2:QPW X K (.BoolOp .Or (b::rest) pos) tB qB):QPW X K (.BoolOp .Or (a::b::rest) pos) (tOr tA tB) (qOr qA qB):=⟨NK h.h h2.h,KD h.s h2.s⟩
theorem QPW.pt(h:QPW X K e tA qA):QPT X K e tA qA:=⟨h.h.pt,h.s⟩
def JQ(qa qb:QE):QE:=fun q Q=>qa q fun t=>match t with
 | .b c=>if c=true then qb q Q else Q (.b false)
 | _=>False
theorem CW(h:fZ K ta qa)(h2:ig K tb qb):ig K (Cz ta tb) (JQ qa qb):=fun dl H σ q Q R rd hq k=>h dl H σ q _ _ rd hq fun v t F H' e r hz=>by
 split at hz
 ·rename_i c;obtain⟨rfl,rfl⟩:=r.r.bl;refine⟨c,rfl,?_⟩;cases c with
  | false=>exact k _ _ [] H' e r (fun _ z=>nomatch z) S6 hz
  | true=>exact h2 dl H' σ q Q R (rd.evo e) hz fun w u G H2 e2 r2 f2 n2 z=>k w u G H2 (e.trans e2) r2 (fun b hb=>e.free (f2 b hb)) n2 z
 ·exact hz.elim
theorem K3{op}(h:QPF X K a ta qa):QPF X K (.BoolOp op [a] pos) ta qa:=⟨Lu h.h,h.s⟩
theorem K4(ha:QPE X K a ta qa)(hb:QPF X K (.BoolOp .And (b::rest) pos) tb qb):QPF X K (.BoolOp .And (a::b::rest) pos) (Cz ta tb) (JQ qa qb):=⟨Lx ha.h hb.h,CW ha.s hb.s⟩
theorem sN(ha:QPE X K a ta qa):QPF X K (.UnaryOp .USub a pos) (tUn (rU fun i=>.int (-i)) ta) (fun q Q=>qa q fun t=>match t with | .i x=>Q (.i (-x)) | _=>False):=⟨N1 Ko ha.h,fun dl H σ q Q R rd hq k=>ha.s dl H σ q _ _ rd hq fun v t F H' e r hz=>by
 split at hz
 ·obtain⟨rfl,rfl⟩:=r.r.int;exact⟨_,rfl,k _ _ [] H' e (.c (.i _)) (fun _ z=>nomatch z) S6 hz⟩
 ·exact hz.elim⟩
def dP:QA:=fun _ Q=>Q []
def aK(qa:QE)(ql:QA):QA:=fun q Q=>qa q fun t=>ql q fun ts=>Q (t::ts)
theorem ai:uV X K [] fD dP:=⟨c9,fun dl H σ q Q R rd hq k=>k [] [] [] H (.refl rd.d) ⟨.nil,fun _ z=>nomatch z⟩ rfl (fun _ z=>nomatch z) S6 hq⟩
theorem uV.w(h:uV X K es tl ql):QPA X K es tl ql:=⟨h.h,fun dl H σ q Q R rd hq k=>h.s dl H σ q Q R rd hq fun vs ts F H' e r l _ _ z=>k vs ts F H' e r l z⟩
theorem Rps.cons{dl:Dl}{H:Hp}{v:V}{t:T}{vs:List V}{ts:List T}{F G:List Addr}(h:Rp K dl H v t F)(r:Rps K dl H vs ts G):Rps K dl H (v::vs) (t::ts) (F++G):=⟨.cons h.r r.r,fun b hb=>(SY.mp hb).elim (h.n b) (r.n b)⟩
theorem af(ha:QPE X K e te qe)(hr:QPA X K es tl ql)(hs:SN (e::es) X.env =(false,eval e X.env)::SN es X.env:=by rfl):QPA X K (e::es) (bC te tl) (aK qe ql) :=
 ⟨a9 ha.h hr.h hs,fun dl H σ q Q R rd hq k=>ha.s dl H σ q _ _ rd hq fun v t F H1 e1 r1 hz=>hr.s dl H1 σ q _ _ (rd.evo e1) hz fun vs ts G H2 e2 r2 l2 z=>k _ _ _ H2 (e1.trans e2) (.cons (r1.evo e1.d e2) r2) (by simp[l2]) z⟩
theorem ae(ha:QPF X K e te qe)(hr:uV X K es tl ql)(hs:SN (e::es) X.env =(false,eval e X.env)::SN es X.env:=by rfl):uV X K (e::es) (bC te tl) (aK qe ql) :=
 ⟨a9 ha.h hr.h hs,fun dl H σ q Q R rd hq k=>ha.s dl H σ q _ _ rd hq fun v t F H1 e1 r1 f1 n1 hz=>hr.s dl H1 σ q _ _ (rd.evo e1) hz fun vs ts G H2 e2 r2 l2 f2 n2 z =>
  k _ _ _ H2 (e1.trans e2) (.cons (r1.evo e1.d e2) r2) (by simp[l2]) (fun b hb=>(SY.mp hb).elim (f1 b) fun hb=>e1.free (f2 b hb)) (T1.mpr ⟨n1,n2,fun x hx y hy exy=>by
   subst exy;have z:=f2 x hy;rcases r1.r.there x hx with⟨_,e⟩ |⟨_,e⟩
   ·rw[z]at e;cases e
   ·rw[z]at e;cases e⟩) z⟩
def vD(ql:QA):QE:=fun q Q=>ql q fun ts=>Q (.t ts)
def Hm(ql:QA):QE:=fun q Q=>ql q fun ts=>Q (.l ts)
theorem av{x1}(h:uV X K es tl ql)(hz:es.length<=1000:=by decide):QPF X K (.Tuple es x1 pos) (Ks tl) (vD ql):=⟨D5 h.h,fun dl H σ q Q R rd hq k=>h.s dl H σ q _ _ rd hq fun vs ts F H1 e1 r1 l1 f1 n1 z =>
 ⟨Tr (ay (by omega)),fun p hp=>k _ _ F _ (e1.new hp) (r1.tup e1.d hp) f1 n1 z⟩⟩
theorem Hf{x1}(h:QPA X K es tl ql)(hz:es.length<=1000:=by decide):QPE X K (.Tuple es x1 pos) (Ks tl) (vD ql):=⟨D5 h.h,fun dl H σ q Q R rd hq k=>h.s dl H σ q _ _ rd hq fun vs ts F H1 e1 r1 l1 z =>
 ⟨Tr (ay (by omega)),fun p hp=>k _ _ F _ (e1.new hp) (r1.tup e1.d hp) z⟩⟩
theorem aG(h:uV X K es tl ql)(hz:es.length<=1000:=by decide):QPF X K (.List es pos) (M0 tl) (Hm ql):=⟨Lw h.h,fun dl H σ q Q R rd hq k=>h.s dl H σ q _ _ rd hq fun vs ts F H1 e1 r1 l1 f1 n1 z =>
 ⟨Tr (ay (by omega)),fun p hp=>k _ _ (p::F) _ (e1.new hp) (r1.lst e1.d hp) (fun b hb=>by
  rcases S1.mp hb with e|hb
  ·rw[e];exact e1.free hp
  ·exact f1 b hb) (r1.fresh hp n1) z⟩⟩
theorem jg(h:strsOf es=some ws)(hl:es.length=ws.length:=by rfl):uV X K es (fun _ H Q=>Q (ws.map V.str) H) (fun _ Q=>Q (ws.map T.s)) :=
 ⟨zD h,fun dl H σ q Q R rd hq k=>k _ _ [] H (.refl rd.d) ⟨jR ws,fun _ z=>nomatch z⟩ (by rw[j3];exact hl.symm) (fun _ z=>nomatch z) S6 hq⟩
def qIx:Q2:=fun t u Q=>match u with
 | .i k=>match t with
  | .l xs=>∃ x,atI xs k=some x/\Q x
  | .t xs=>∃ x,atI xs k=some x/\Q x
  | .z ns=>∃ x,atI ns k=some x/\Q (.i x)
  | .zl xs=>∃ x,atI xs k=some x/\Q x
  | .s z=>z.length<=S4/\∃ c,atI z.cps.toList k=some c/\Q (.s ⟨#[c]⟩)
  | _=>False
 | _=>False
theorem lB{α β:Type}{xs:List α}{ys:List β}{k:Int}{x:α}(h:atI xs k=some x)(hl:xs.length=ys.length):∃ j:Nat,xs[j]? = some x/\ixN ys.length k=some j:=by
 unfold atI at h;cases e:ixN xs.length k with
 | none=>rw[e]at h;cases h
 | some j=>rw[e]at h;exact⟨j,h,by rw[<- hl];exact e⟩
theorem pZ{α:Type}{xs:List α}{k:Int}{x:α}(h:ixN xs.length k=some j)(hx:xs[j]? = some x):atI xs k=some x:=by unfold atI;rw[h];exact hx
theorem KG:FW K (rIx K) qIx:=by
 intro dl H x y t u F G Q R D r1 r2 hq k;unfold qIx at hq
 split at hq
 ·rename_i k0;obtain⟨rfl,rfl⟩:=r2.r.int
  split at hq
  ·obtain⟨p,vs,G,rfl,rfl,h1,h2⟩:=r1.r.lst;obtain⟨z,hz,hq⟩:=hq;obtain⟨j,hj,hi⟩:=lB hz h2.len.symm;obtain⟨v,G',hv,rv,hs⟩:=h2.get hj;exact .inl ⟨p,vs,k0,v,rfl,rfl,SqL.of h1,pZ hi hv,k v z G' H (.refl D) (Rp.sub rv r1.n fun b hb=>SK _ (hs b hb)) hq⟩
  ·obtain⟨p,vs,rfl,h1,h2⟩:=r1.r.tup;obtain⟨z,hz,hq⟩:=hq;obtain⟨j,hj,hi⟩:=lB hz h2.len.symm;obtain⟨v,G',hv,rv,hs⟩:=h2.get hj;exact .inr (.inl ⟨p,vs,k0,v,rfl,rfl,SqT.of h1,pZ hi hv,k v z G' H (.refl D) (Rp.sub rv r1.n hs) hq⟩)
  ·obtain⟨p,rfl,h1,_⟩:=r1.r.scr;obtain⟨z,hz,hq⟩:=hq;refine .inl ⟨p,_,k0,.int z,rfl,rfl,h1.sq,?_,k _ _ [] H (.refl D) (.c (.i _)) hq⟩;obtain⟨j,hj,hi⟩:=lB (ys:=(_:List Int).map V.int) hz (by rw[j3])
   exact pZ hi (by rw[L7,hj];rfl)
  ·obtain⟨p,o,vs,rfl,rfl,h1,h2⟩:=r1.r.zls;obtain⟨z,hz,hq⟩:=hq;obtain⟨j,hj,hi⟩:=lB hz h2.len.symm;obtain⟨v,G',hv,rv,hs⟩:=h2.get hj;exact .inl ⟨p,vs,k0,v,rfl,rfl,.inl (.inr ⟨o,h1⟩),pZ hi hv,k v z G' H (.refl D) (Rp.sub rv r1.n hs) hq⟩
  ·obtain⟨rfl,rfl⟩:=r1.r.str;obtain⟨hl,c,hc,hq⟩:=hq;exact .inr (.inr ⟨_,k0,c,rfl,rfl,hl,hc,k _ _ [] H (.refl D) (.c (.s _)) hq⟩)
  ·exact hq.elim
 ·exact hq.elim
theorem aq(ha:QPE X K a ta qa)(hb:QPE X K b tb qb)(hs:lD b:=by intro _ _;rfl)(hK:X.K=K:=by rfl):QPE X K (.Subscript a b pos) (tOp (rIx K) ta tb) (qOp qIx qa qb):=⟨by subst hK;exact vN EJ ha.h hb.h hs,sj KG ha.s hb.s⟩
end
variable{dl:Dl}{H:Hp}{prog:Program}{A:Around}{E:Value->Shared->Prop}{items:Array Value}{Q:Value->Shared->Prop}{p2:Pos}{n:Nat}{r:List V->Hp->VK->Prop}
section
variable{X:Cx}{K:W.Frag}{a b c e:Expr}{es rest:List Expr}{ta tb tc te:TE}{qa qb qc qe:QE}{tA tB:TT}{qA qB:QT}{tl:TA}{ql:QA}{pos p:Pos}
abbrev QO:=Sq ->(Option Int->Prop)->Prop
def Sw(K:W.Frag)(t:TO)(tq:QO):Prop:=∀(dl:Dl)(H:Hp)(σ:St)(q:Sq)(Q:Option Int->Prop)(R:Option Int->Hp->Prop),RdR K dl H σ q->tq q Q ->(∀ o H',Evo dl H H'->Q o->R o H')->t σ H R
structure QPO(X:Cx)(K:W.Frag)(e:Option Expr)(t:TO)(tq:QO):Prop where
 h:PO X e t
 s:Sw K t tq
theorem fv:QPO X K none y4 (fun _ Q=>Q none):=⟨HB,fun _ _ _ _ _ _ rd hq k=>k none _ (.refl rd.d) hq⟩
theorem fu(h:QPE X K e te qe):QPO X K (some e) (JB te) (fun q Q=>qe q fun t=>match t with | .i x=>Q (some x) | _=>False):=⟨sT h.h,fun dl H σ q Q R rd hq k=>h.s dl H σ q _ _ rd hq fun v t F H' e r hz=>by
 split at hz
 ·obtain⟨rfl,rfl⟩:=r.r.int;exact⟨_,rfl,k _ H' e hz⟩
 ·exact hz.elim⟩
def dQ{α:Type}(xs:List α)(lo hi:Option Int):List α:=(xs.drop (HT.sIx xs.length 0 lo)).take (HT.sIx xs.length xs.length hi - HT.sIx xs.length 0 lo)
theorem au.cut{vs:List V}{ts:List T}{F:List Addr}(lo hi:Option Int)(h:au K dl H vs ts F):∃ G,au K dl H (jy vs lo hi) (dQ ts lo hi) G/\G.Sublist F:=by
 unfold jy dQ;rw[h.len];obtain⟨G,h1,s1⟩:=h.drop (HT.sIx ts.length 0 lo);obtain⟨G2,h2,s2⟩:=h1.take (HT.sIx ts.length ts.length hi - HT.sIx ts.length 0 lo);exact⟨G2,h2,s2.trans s1⟩
theorem jx{w:World}{s:Shared}{t sl:Addr}{vl vu:Value}{lo hi:Option Int}(ht:IsTup s.heap t items)(hs:s.heap.IsSliceOf sl vl vu .none)(pl:IsPart vl lo)(pu:IsPart vu hi)
  (hw:HT.sIx items.size 0 lo=0/\HT.sIx items.size items.size hi=items.size)
  (h:Q (.ref t) s):wpAny (model prog w) A (getItem (.ref t) (.ref sl)) Q E s:=by
 obtain⟨os,hos,hcs,hds⟩:=id hs;have hTs:s.TypeIs (.ref sl) "slice":=⟨os,hos,hcs⟩;have hT:=ht.typeIs;unfold getItem
 try with_reducible refine TY ?_
 first|refine j0 (M7 ?_)|skip
 refine j0 (wpAny_sequenceKey ht.typeIs (by decide) ?_)
 refine j0 (wpAny_callSpecial?_slot (name:=Str.ofString "__getitem__") ht.typeIs PyProof.Rows.slot_tuple_getitem
  (TL PyProof.Rows.slot_tuple_getitem ht.typeIs entry_tuple_getitem ?_ (args_tuple_getitem _ _)))
 show wpAny _ _ (Builtin.Tuple.tupleItemsOf (.ref t) >>= _) _ _ s;refine j0 (tupleItemsOf_ ht ?_);refine j0 (Uo hTs ?_);rw[if_pos (by decide)]
 refine j0 (HT.f9 hs pl pu ?_);have hy:(((HT.sIx items.size 0 lo:Nat):Int)==0&&(1:Int)==1&&(HT.sIx items.size items.size hi - HT.sIx items.size 0 lo)==items.size)=true:=by
  rw[hw.1,hw.2];simp
 show wpAny _ _ (if(((HT.sIx items.size 0 lo:Nat):Int)==0&&(1:Int)==1&&(HT.sIx items.size items.size hi - HT.sIx items.size 0 lo)==items.size)=true then _ else _) _ _ s
 rw[if_pos hy];unfold Builtin.Tuple.tupleIsExact
 first
  | exact j0 (j0 (Uo hT (M7 (by rw[if_pos (by decide)];exact j0 (Uz (M7 ⟨_,rfl,M7 h⟩))))))
  | exact j0 (Uo hT (by rw[if_pos (by decide)];exact j0 (Uz (M7 ⟨_,rfl,M7 h⟩))))
def Nk(K:W.Frag):V->Option Int->Option Int->Hp->VK->Prop:=fun x lo hi H Q=>∃ a xs,x = .ref a/\SqT K H a xs /\
 ((HT.sIx xs.length 0 lo=0/\HT.sIx xs.length xs.length hi=xs.length)->Q (.ref a) H)/\(¬(HT.sIx xs.length 0 lo=0/\HT.sIx xs.length xs.length hi=xs.length)->∀ p,H p=none->Q (.ref p) (upd H p (.tup (jy xs lo hi))))
theorem GD:SlR X (Nk X.K):=by
 intro gV s σ H x v vl vu lo hi sl Q I rx hs pl pu h;obtain⟨a,xs,rfl,hx,q1,q2⟩:=h;by_cases hw:HT.sIx xs.length 0 lo=0/\HT.sIx xs.length xs.length hi=xs.length
 ·cases rx;obtain⟨its,r,ht,hz⟩:=I.tuple hx;have hlen:its.toArray.size=xs.length:=by rw[S7];exact r.length.symm
  exact⟨"tuple",_,PyProof.Rows.slot_tuple_getitem.lookup,ht.typeIs,jx ht hs pl pu (by rw[hlen];exact hw) ⟨.ref a,H,I,rfl,q1 hw⟩⟩
 ·exact Ky gV s σ H _ v vl vu lo hi sl Q I rx hs pl pu ⟨a,xs,rfl,hx,hw,q2 hw⟩
theorem B0{α:Type}{xs:List α}{lo hi:Option Int}(h:HT.sIx xs.length 0 lo=0/\HT.sIx xs.length xs.length hi=xs.length):dQ xs lo hi=xs:=by
 unfold dQ;rw[h.1,h.2];simp
def Nn(K:W.Frag):V->Option Int->Option Int->Hp->VK->Prop:=fun x lo hi H Q=>Nm K x lo hi H Q\/Nk K x lo hi H Q\/Nl x lo hi H Q
theorem Rj(hK:X.K=K):SlR X (Nn K):=by subst hK;exact za.or (GD.or Kz)
def qSl(qe:QE)(l u:QO):QE:=fun q Q=>qe q fun t=>l q fun lo=>u q fun hi=>match t with
 | .l xs=>T.ims xs=true/\Q (.l (dQ xs lo hi))
 | .t xs=>T.ims xs=true/\Q (.t (dQ xs lo hi))
 | .z ns=>Q (.l ((dQ ns lo hi).map T.i))
 | .zl xs=>Q (.l (dQ xs lo hi))
 | .s z=>z.length<=S4/\Q (.s (Txt.slice z lo hi))
 | _=>False
theorem dO{l u:Option Expr}{tlo thi:TO}{qlo qhi:QO}(he:QPE X K e te qe)(hl:QPO X K l tlo qlo)(hu:QPO X K u thi qhi)(hK:X.K=K:=by rfl):QPF X K (.Subscript e (.Slice l u none p2) pos) (tSl (Nn K) te tlo thi) (qSl qe qlo qhi) :=
 ⟨vL (Rj hK) he.h hl.h hu.h,fun dl H σ q Q R rd hq k=>he.s dl H σ q _ _ rd hq fun v t F H1 e1 r1 hz=>hl.s dl H1 σ q _ _ (rd.evo e1) hz fun lo H2 e2 hz=>hu.s dl H2 σ q _ _ ((rd.evo e1).evo e2) hz fun hi H3 e3 hz=>by
  have r3:=(r1.evo e1.d e2).evo e2.d e3;have E3:=(e1.trans e2).trans e3;have no:∀ b:Addr,b∈([]:List Addr)->H b=none:=fun _ z=>nomatch z
  split at hz
  ·obtain⟨p,vs,G,rfl,rfl,h1,h2⟩:=r3.r.lst;obtain rfl:=h2.im hz.1;obtain⟨G,h3,s3⟩:=h2.cut lo hi;obtain rfl:G = []:=Ve.mp s3;refine .inl ⟨p,vs,rfl,SqL.of h1,fun p hp=>?_⟩
   have rs:Rps K dl H3 (jy vs lo hi) _ []:=⟨h3,fun c hc=>nomatch hc⟩
   exact k _ _ _ _ (E3.new hp) (rs.lst e3.d hp) (fun b hb=>by rw[qr.mp hb];exact E3.free hp) (by simp) hz.2
  ·obtain⟨p,vs,rfl,h1,h2⟩:=r3.r.tup;obtain rfl:=h2.im hz.1;obtain⟨G,h3,s3⟩:=h2.cut lo hi;obtain rfl:G = []:=Ve.mp s3;refine .inr (.inl ⟨p,vs,rfl,SqT.of h1,fun hw=>?_,fun _ p hp=>?_⟩)
   ·refine k _ _ _ _ E3 r3 no S6 ?_;rw[h2.len]at hw;have hq2:=hz.2;rw[B0 hw]at hq2;exact hq2
   ·have rs:Rps K dl H3 (jy vs lo hi) _ []:=⟨h3,fun c hc=>nomatch hc⟩
    exact k _ _ _ _ (E3.new hp) (rs.tup e3.d hp) no S6 hz.2
  ·rename_i ns _ _;obtain⟨p,rfl,h1,_⟩:=r3.r.scr;refine .inl ⟨p,_,rfl,h1.sq,fun p hp=>?_⟩
   have e:jy (ns.map V.int) lo hi =(dQ ns lo hi).map V.int:=by unfold jy dQ;rw[j3,<- VD,<- Vg]
   rw[e];have rs:Rps K dl H3 ((dQ ns lo hi).map V.int) ((dQ ns lo hi).map T.i) []:=⟨ou _,fun c hc=>nomatch hc⟩
   exact k _ _ _ _ (E3.new hp) (rs.lst e3.d hp) (fun b hb=>by rw[qr.mp hb];exact E3.free hp) (by simp) hz
  ·obtain⟨p,o,vs,rfl,rfl,h1,h2⟩:=r3.r.zls;obtain⟨G,h3,s3⟩:=h2.cut lo hi;obtain rfl:G = []:=Ve.mp s3;refine .inl ⟨p,vs,rfl,.inl (.inr ⟨o,h1⟩),fun p hp=>?_⟩
   have rs:Rps K dl H3 (jy vs lo hi) _ []:=⟨h3,fun c hc=>nomatch hc⟩
   exact k _ _ _ _ (E3.new hp) (rs.lst e3.d hp) (fun b hb=>by rw[qr.mp hb];exact E3.free hp) (by simp) hz
  ·obtain⟨rfl,rfl⟩:=r3.r.str;exact .inr (.inr ⟨_,rfl,hz.1,k _ _ [] H3 E3 (.c (.s _)) no S6 hz.2⟩)
  ·exact hz.elim⟩
abbrev QC:=List T ->(T->Prop)->Prop
def qd(K:W.Frag)(r:List V->Hp->VK->Prop)(rq:QC):Prop:=∀(dl:Dl)(H:Hp)(vs:List V)(ts:List T)(F:List Addr)(Q:T->Prop)(R:V->Hp->Prop),Dls dl H->Rps K dl H vs ts F->rq ts Q ->
 (∀ v z F' H',Evo dl H H'->Rp K dl H' v z F' ->(∀ b∈F',H b=none)->F'.Nodup->Q z->R v H')->r vs H R
def qCB(rq:QC)(ql:QA):QE:=fun q Q=>ql q fun ts=>rq ts Q
theorem CT{rq:QC}(h:qd K r rq)(hl:FX K n tl ql):ig K (tCB r tl) (qCB rq ql):=fun dl H σ q Q R rd hq k=>hl dl H σ q _ _ rd hq fun vs ts F H1 e1 r1 _ hz =>
 h dl H1 vs ts F Q R e1.d r1 hz fun v z F' H2 e2 r2 f2 n2 hz=>k v z F' H2 (e1.trans e2) r2 (fun b hb=>e1.free (f2 b hb)) n2 hz
theorem fc{id:String}{rq:QC}(hc:cI X (.builtin id) r)(hs:qd K r rq)(hg:Gl X x)(hm:X.mg x=none)(hv:bootBuiltins x=some (.builtin id))(ha:QPA X K (e::es) tl ql)(hn:x ≠ "__name__":=by decide)(hdb:(x ==("__debug__":Str))=false:=by decide)
  (he:SN (e::es) X.env =(false,eval e X.env)::SN es X.env:=by rfl) (hpl:(backTo pos (SN es X.env)).any (·.1)=false:=by rfl):QPF X K (.Call (.Name x p) (e::es) [] pos) (tCB r tl) (qCB rq ql):=⟨oI hc hg hm hv ha.h hn hdb he hpl,CT hs ha.s⟩
theorem aN{id:String}{rq:QC}(hc:cI X (.type id) r)(hs:qd K r rq)(hg:Gl X x)(hm:X.mg x=none)(hv:bootBuiltins x=some (.type id))(ha:QPA X K (e::es) tl ql)(hn:x ≠ "__name__":=by decide)(hdb:(x ==("__debug__":Str))=false:=by decide)
  (he:SN (e::es) X.env =(false,eval e X.env)::SN es X.env:=by rfl) (hpl:(backTo pos (SN es X.env)).any (·.1)=false:=by rfl):QPF X K (.Call (.Name x p) (e::es) [] pos) (tCB r tl) (qCB rq ql):=⟨Bi hc hg hm hv ha.h hn hdb he hpl,CT hs ha.s⟩
theorem Rps.one{vs:List V}{t:T}{F:List Addr}(h:Rps K dl H vs [t] F):∃ v,vs = [v]/\Rp K dl H v t F:=by
 obtain⟨r,n⟩:=h;cases r with
 | cons r1 r2 =>
  cases r2;rw[Td]at n;rw[Td];exact⟨_,rfl,r1,n⟩
theorem Rps.two{vs:List V}{t u:T}{F:List Addr}(h:Rps K dl H vs [t,u] F):∃ v w F1 F2,vs = [v,w]/\Rp K dl H v t F1/\Rp K dl H w u F2:=by
 obtain⟨r,n⟩:=h;cases r with
 | cons r1 r2 =>
  obtain⟨w,rfl,h2⟩:=Rps.one ⟨r2,fun b hb=>n b (Tc _ hb)⟩
  exact⟨_,w,_,_,rfl,⟨r1,fun b hb=>n b (Tj _ hb)⟩,h2⟩
def Df(K:W.Frag):List V->Hp->VK->Prop:=fun xs H Q=>(∃ p ys,xs = [.ref p]/\(SqL K H p ys\/SqT K H p ys)/\Q (.int ys.length) H)\/(∃ z,xs = [.str z]/\z.length<=S4/\Q (.int z.length) H)\/∃ a kvs,xs = [V.ref a]/\H a=some (.dK kvs)/\Q (.int kvs.length) H
theorem B9(hK:X.K=K):cI X (.builtin "len") (Df K):=by subst hK;exact lr.or (uB.or B8)
def xy:QC:=fun ts Q=>match ts with
 | [.l xs]=>Q (.i xs.length)
 | [.t xs]=>Q (.i xs.length)
 | [.z xs]=>Q (.i xs.length)
 | [.zl xs]=>Q (.i xs.length)
 | [.d xs]=>Q (.i xs.length)
 | [.s x]=>x.length<=S4/\Q (.i x.length)
 | _=>False
theorem GS:qd K (Df K) xy:=by
 intro dl H vs ts F Q R D r hq k;have fin:∀ n:Nat,Q (.i n)->R (.int n) H:=fun n hq=>k _ _ [] H (.refl D) (.c (.i _)) (fun _ z=>nomatch z) S6 hq
 unfold xy at hq
 split at hq
 ·obtain⟨v,rfl,r'⟩:=r.one;obtain⟨p,vs,G,rfl,_,h1,h2⟩:=r'.r.lst;exact .inl ⟨p,vs,rfl,.inl (SqL.of h1),fin _ (by rw[h2.len];exact hq)⟩
 ·obtain⟨v,rfl,r'⟩:=r.one;obtain⟨p,vs,rfl,h1,h2⟩:=r'.r.tup;exact .inl ⟨p,vs,rfl,.inr (SqT.of h1),fin _ (by rw[h2.len];exact hq)⟩
 ·obtain⟨v,rfl,r'⟩:=r.one;obtain⟨p,rfl,h1,_⟩:=r'.r.scr;exact .inl ⟨p,_,rfl,.inl h1.sq,fin _ (by rw[j3];exact hq)⟩
 ·obtain⟨v,rfl,r'⟩:=r.one;obtain⟨p,o,vs,rfl,_,h1,h2⟩:=r'.r.zls;exact .inl ⟨p,vs,rfl,.inl (.inl (.inr ⟨o,h1⟩)),fin _ (by rw[h2.len];exact hq)⟩
 ·obtain⟨v,rfl,r'⟩:=r.one;obtain⟨p,vs,G,rfl,_,h1,h2⟩:=r'.r.dic;exact .inr (.inr ⟨p,vs,rfl,h1,fin _ (by rw[h2.len];exact hq)⟩)
 ·obtain⟨v,rfl,r'⟩:=r.one;obtain⟨rfl,_⟩:=r'.r.str;exact .inr (.inl ⟨_,rfl,hq.1,fin _ hq.2⟩)
 ·exact hq.elim
def qI2(g:Int->Int->Int):QC:=fun ts Q=>match ts with
 | [.i a,.i b]=>Q (.i (g a b))
 | _=>False
theorem xa{g:Int->Int->Int}:qd K (fun xs H Q=>∃ i j,xs = [.int i,.int j]/\Q (.int (g i j)) H) (qI2 g):=by
 intro dl H vs ts F Q R D r hq k;unfold qI2 at hq
 split at hq
 ·obtain⟨v,w,F1,F2,rfl,r1,r2⟩:=r.two;obtain⟨rfl,_⟩:=r1.r.int;obtain⟨rfl,_⟩:=r2.r.int;exact⟨_,_,rfl,k _ _ [] H (.refl D) (.c (.i _)) (fun _ z=>nomatch z) S6 hq⟩
 ·exact hq.elim
def ND:QC:=fun ts Q=>match ts with
 | [.i a]=>Q (.i a)
 | [.b k]=>Q (.i (if k then 1 else 0))
 | _=>False
theorem nA:qd K (fun xs H Q=>(∃ i,xs = [.int i]/\Q (.int i) H)\/∃ k,xs = [.bl k]/\Q (.int (if k then 1 else 0)) H) ND:=by
 intro dl H vs ts F Q R D r hq k;unfold ND at hq
 split at hq
 ·obtain⟨v,rfl,r'⟩:=r.one;obtain⟨rfl,_⟩:=r'.r.int;exact .inl ⟨_,rfl,k _ _ [] H (.refl D) (.c (.i _)) (fun _ z=>nomatch z) S6 hq⟩
 ·obtain⟨v,rfl,r'⟩:=r.one;obtain⟨rfl,_⟩:=r'.r.bl;exact .inr ⟨_,rfl,k _ _ [] H (.refl D) (.c (.i _)) (fun _ z=>nomatch z) S6 hq⟩
 ·exact hq.elim
def DH:QC:=fun ts Q=>match ts with
 | [.l xs]=>T.ims xs=true/\Q (.t xs)
 | [.t xs]=>T.ims xs=true/\Q (.t xs)
 | _=>False
theorem cq(hK:X.K=K):cI X (.type "tuple") (fun xs H Q=>∃ p ys,xs = [.ref p]/\((SqL K H p ys/\∀ l,H l=none->Q (.ref l) (upd H l (.tup ys)))\/(SqT K H p ys/\Q (.ref p) H))):=by subst hK;exact qN
theorem ck:qd K (fun xs H Q=>∃ p ys,xs = [.ref p]/\((SqL K H p ys/\∀ l,H l=none->Q (.ref l) (upd H l (.tup ys)))\/(SqT K H p ys/\Q (.ref p) H))) DH:=by
 intro dl H vs ts F Q R D r hq k;have no:∀ b:Addr,b∈([]:List Addr)->H b=none:=fun _ z=>nomatch z
 unfold DH at hq
 split at hq
 ·obtain⟨v,rfl,r'⟩:=r.one;obtain⟨p,vs,G,rfl,rfl,h1,h2⟩:=r'.r.lst;obtain rfl:=h2.im hq.1;refine⟨p,vs,rfl,.inl ⟨SqL.of h1,fun l hl=>?_⟩⟩
  have rs:Rps K dl H vs _ []:=⟨h2,fun c hc=>nomatch hc⟩
  exact k _ _ _ _ ((Evo.refl D).new hl) (rs.tup D hl) no S6 hq.2
 ·obtain⟨v,rfl,r'⟩:=r.one;obtain⟨p,vs,rfl,h1,h2⟩:=r'.r.tup;obtain rfl:=h2.im hq.1;exact⟨p,vs,rfl,.inr ⟨SqT.of h1,k _ _ [] H (.refl D) r' no S6 hq.2⟩⟩
 ·exact hq.elim
def DI:QC:=fun ts Q=>match ts with
 | [.l xs]=>T.ims xs=true/\Q (.l xs)
 | [.t xs]=>T.ims xs=true/\Q (.l xs)
 | _=>False
theorem B7(hK:X.K=K):cI X (.type "list") (fun xs H Q=>∃ p ys,xs = [.ref p]/\(SqL K H p ys\/SqT K H p ys)/\∀ l,H l=none->Q (.ref l) (upd H l (.lst ys))):=by subst hK;exact uA
theorem AY:qd K (fun xs H Q=>∃ p ys,xs = [.ref p]/\(SqL K H p ys\/SqT K H p ys)/\∀ l,H l=none->Q (.ref l) (upd H l (.lst ys))) DI:=by
 intro dl H vs ts F Q R D r hq k;unfold DI at hq
 split at hq
 ·obtain⟨v,rfl,r'⟩:=r.one;obtain⟨p,vs,G,rfl,rfl,h1,h2⟩:=r'.r.lst;obtain rfl:=h2.im hq.1;refine⟨p,vs,rfl,.inl (SqL.of h1),fun l hl=>?_⟩
  have rs:Rps K dl H vs _ []:=⟨h2,fun c hc=>nomatch hc⟩
  exact k _ _ _ _ ((Evo.refl D).new hl) (rs.lst D hl) (fun b hb=>by rw[qr.mp hb];exact hl) (by simp) hq.2
 ·obtain⟨v,rfl,r'⟩:=r.one;obtain⟨p,vs,rfl,h1,h2⟩:=r'.r.tup;obtain rfl:=h2.im hq.1;refine⟨p,vs,rfl,.inr (SqT.of h1),fun l hl=>?_⟩
  have rs:Rps K dl H vs _ []:=⟨h2,fun c hc=>nomatch hc⟩
  exact k _ _ _ _ ((Evo.refl D).new hl) (rs.lst D hl) (fun b hb=>by rw[qr.mp hb];exact hl) (by simp) hq.2
 ·exact hq.elim
def picks{α:Type}(f:T->Option α):List T->Option (List α)
 | []=>some []
 | t::r=>(f t).bind fun a=>(picks f r).map (a :: ·)
theorem au.picks{dl:Dl}{H:Hp}{α:Type}{f:T->Option α}{g:α->V}(hf:∀(v:V)(t:T)(F:List Addr)(a:α),aA K dl H v t F->f t=some a->v=g a){vs:List V}{ts:List T}{F:List Addr}(h:au K dl H vs ts F):∀{bs:List α},L2.picks f ts=some bs->vs=bs.map g :=
 h.ind (M:=fun vs ts _=>∀{bs:List α},L2.picks f ts=some bs->vs=bs.map g) (fun e=>by cases e;rfl) fun v t vs ts F G h _ ih bs e=>by
  obtain⟨a,e1,e2⟩:=Option.bind_eq_some_iff.mp e;obtain⟨as,e3,rfl⟩:=QX.mp e2;rw[hf v t F a h e1,ih e3];rfl
def T.tyN:T->Option String
 | .n=>some "NoneType" | .b _=>some "bool" | .i _=>some "int" | .s _=>some "str" | .l _=>some "list" | .q=>some "list" | .t _=>some "tuple" | .d _=>some "dict" | _=>none
theorem aA.Rg{v:V}{t:T}{F:List Addr}{n:String}(h:aA K dl H v t F)(e:t.tyN=some n):jz K H v (.type n):=by
 cases h <;> first |(cases e;constructor;assumption) |(cases e;constructor;done) |(cases e;done)
theorem mF(hK:X.K=K):cI X (.builtin "isinstance") (fun xs H Q=>∃ x T t b,xs = [x,.ty T]/\jz K H x t/\W.kitOne K t (.type T)=some b/\Q (.bl b) H):=by subst hK;exact FN
def OP(a b:String):Bool:=a==b ||(a == "bool" && b == "int")
def NC:QC:=fun ts Q=>match ts with
 | [t,.ty n]=>match t.tyN with
  | some m=>(n == "tuple" || n == "list" || n == "str" || n == "int" || n == "bool" || n == "dict")=true/\Q (.b (OP m n))
  | none=>False
 | _=>False
theorem Iu{n m:String}(h:(n == "tuple" || n == "list" || n == "str" || n == "int" || n == "bool" || n == "dict")=true)(hm:m ∈ ["NoneType","bool","int","str","list","tuple","dict"]):W.kitOne K (.type m) (.type n)=some (OP m n):=by
 simp only[Bool.or_eq_true,beq_iff_eq]at h;simp only[S1,Ts,or_false]at hm;rcases h with((((rfl|rfl)|rfl)|rfl)|rfl)|rfl <;> rcases hm with rfl|rfl|rfl|rfl|rfl|rfl|rfl <;> rfl
theorem Gv{t:T}{m:String}(h:t.tyN=some m):m ∈ ["NoneType","bool","int","str","list","tuple","dict"]:=by
 cases t <;> cases h <;> decide
theorem so:qd K (fun xs H Q=>∃ x T t b,xs = [x,.ty T]/\jz K H x t/\W.kitOne K t (.type T)=some b/\Q (.bl b) H) NC:=by
 intro dl H vs ts F Q R D r hq k;unfold NC at hq
 split at hq
 ·obtain⟨v,w,F1,F2,rfl,r1,r2⟩:=r.two;have e:=r2.r.tyy;subst e
  split at hq
  ·rename_i m em;exact⟨v,_,_,_,rfl,r1.r.Rg em,Iu hq.1 (Gv em),k _ _ [] H (.refl D) (.c (.b _)) (fun _ z=>nomatch z) S6 hq.2⟩
  ·exact hq.elim
 ·exact hq.elim
end
structure rW where
 nx:Sq->Prop
 rt:T->Prop
 bk:Sq->Prop:=fun _=>False
 ct:Sq->Prop:=fun _=>False
 ru:Sq->T->Prop:=fun _ _=>False
abbrev QS:=rW->Sq->Prop
structure Frm(dl:Dl)(H₀ H:Hp):Prop where
 k:∀ b o,H₀ b=some o->Nd dl b->NR o->H b=some o
 r:∀ a x,H₀ a=some (.room x)->∃ y,y<=x/\H a=some (.room y)
variable{H₀:Hp}
theorem Frm.evo(f:Frm dl H₀ H)(D:Dls dl H):Evo dl H₀ H:=⟨f.k,D,f.r⟩
theorem Frm.refl:Frm dl H H:=⟨fun _ _ h _ _=>h,fun _ x h=>⟨x,Uc _,h⟩⟩
variable{H':Hp}
theorem Frm.trans(f:Frm dl H₀ H)(e:Evo dl H H'):Frm dl H₀ H':=⟨fun b o h n r=>e.k b o (f.k b o h n r) n r,fun a x h=>let⟨y,hy,h1⟩:=f.r a x h;let⟨z,hz,h2⟩:=e.r a y h1;⟨z,Vb hz hy,h2⟩⟩
structure Rel(K:W.Frag)(dl:Dl)(H₀:Hp)(hs:List (V×T))(H:Hp)(σ:St)(q:Sq)(F:Nat->List Addr):Prop where
 d:Dls dl H
 g:∀(i:Nat)(x:Sl)(t:T),q[i]? = some x->x.get=some t->∃ v,σ[i]? = some (some v)/\Rp K dl H v t (F i)
 n:∀(i:Nat)(x:Sl),q[i]? = some x->x.get=none->F i = []
 z:∀(i:Nat),q.length<=i->F i = []
 o:∀(i:Nat)(t:T),q[i]? = some (.o t) ->(F i).Nodup/\(∀ b∈F i,H₀ b=none)/\(∀ j,j≠i->∀ b∈F i,b ∉ F j)
 h:∀ p∈hs,∃ Fp,Rp K dl H p.1 p.2 Fp/\∀(i:Nat)(t:T),q[i]? = some (.o t)->∀ b∈F i,b ∉ Fp
 f:Frm dl H₀ H
 l:q.length=σ.length
def i8(K:W.Frag)(dl:Dl)(H₀:Hp)(hs:List (V×T))(H:Hp)(σ:St)(q:Sq):Prop:=∃ F,Rel K dl H₀ hs H σ q F
def i7(H:Hp)(b:Addr):Prop:=(∃ xs,H b=some (.lst xs))\/∃ ks,H b=some (.dK ks)
theorem i7.no{b:Addr}(h:i7 H b)(e:H b=none):False:=by
 rcases h with⟨_,h⟩ |⟨_,h⟩
 ·rw[e]at h;cases h
 ·rw[e]at h;cases h
variable{F':List Addr}
section
variable{X:Cx}{K:W.Frag}{hs:List (V×T)}{σ:St}{q:Sq}{F:Nat->List Addr}
theorem Rel.rd(r:Rel K dl H₀ hs H σ q F):RdR K dl H σ q:=⟨r.d,fun i x t h1 h2=>let⟨v,e,p⟩:=r.g i x t h1 h2;⟨v,F i,e,p⟩⟩
theorem Rel.fz(r:Rel K dl H₀ hs H σ q F){b:Addr}(h:H b=none):H₀ b=none:=by
 exact(r.f.evo r.d).free h
theorem Rel.fb(r:Rel K dl H₀ hs H σ q F){i:Nat}{b:Addr}(hb:b∈F i):i7 H b:=by
 by_cases hi:i<q.length
 ·have e:q[i]? = some q[i]:=by simp[hi]
  cases ex:q[i].get with
  | none=>rw[r.n i _ e ex]at hb;cases hb
  | some t =>
   obtain⟨v,_,p⟩:=r.g i _ t e ex;exact p.r.there b hb
 ·rw[r.z i (by omega)]at hb;cases hb
theorem Rel.evo(r:Rel K dl H₀ hs H σ q F)(e:Evo dl H H'):Rel K dl H₀ hs H' σ q F where
 d:=e.d
 g:=fun i x t h1 h2=>let⟨v,e1,p⟩:=r.g i x t h1 h2;⟨v,e1,p.evo r.d e⟩
 n:=r.n
 z:=r.z
 o:=r.o
 h:=fun p hp=>let⟨Fp,h1,h2⟩:=r.h p hp;⟨Fp,h1.evo r.d e,h2⟩
 f:=r.f.trans e
 l:=r.l
def vv(F:Nat->List Addr)(i:Nat)(x:List Addr):Nat->List Addr:=fun j=>if j=i then x else F j
theorem aO{i:Nat}{x:List Addr}:vv F i x i=x:=if_pos rfl
theorem aE{i:Nat}{x:List Addr}(h:j≠i):vv F i x j=F j:=if_neg h
theorem get_set{α:Type}{xs:List α}{i:Nat}{x y:α}(h:(xs.set i x)[j]? = some y):(j=i/\y=x/\i<xs.length)\/(j≠i/\xs[j]? = some y):=by
 by_cases e:j=i
 ·subst e;rw[List.getElem?_set_self']at h;by_cases hl:j<xs.length
  ·rw[Es hl]at h;exact .inl ⟨rfl,(Option.some.inj h).symm,hl⟩
  ·rw[Uh (by omega)]at h;cases h
 ·rw[TV (fun z=>e z.symm)]at h
  exact .inr ⟨e,h⟩
theorem Rel.put{i:Nat}{v:V}{t:T}(r:Rel K dl H₀ hs H σ q F)(hi:i<q.length)(e:Evo dl H H')(hv:Rp K dl H' v t F')(hf:∀ b∈F',H b=none)(hn:F'.Nodup):Rel K dl H₀ hs H' (σ.set i (some v)) (q.set i (.o t)) (vv F i F'):=by
 have r':=r.evo e;have out:∀ j,∀ b∈F',b ∉ F j:=fun j b hb hj=>(r.fb hj).no (hf b hb)
 refine⟨e.d,fun j x u h1 h2=>?_,fun j x h1 h2=>?_,fun j hj=>?_,fun j u h1=>?_,fun p hp=>?_,r'.f,by simp[r.l]⟩
 ·rcases get_set h1 with⟨rfl,rfl,_⟩ |⟨ne,h1⟩
  ·cases h2;exact⟨v,by rw[T4 (by rw[<- r.l];exact hi)],by rw[aO];exact hv⟩
  ·obtain⟨w,h3,h4⟩:=r'.g j x u h1 h2;exact⟨w,by rw[TV (fun z=>ne z.symm)];exact h3,by rw[aE ne];exact h4⟩
 ·rcases get_set h1 with⟨rfl,rfl,_⟩ |⟨ne,h1⟩
  ·cases h2
  ·rw[aE ne];exact r.n j x h1 h2
 ·rw[Ue]at hj;rw[aE (by omega)]
  exact r.z j hj
 ·rcases get_set h1 with⟨rfl,_,_⟩ |⟨ne,h1⟩
  ·rw[aO];exact⟨hn,fun b hb=>r.fz (hf b hb),fun k hk b hb=>by rw[aE hk];exact out k b hb⟩
  ·rw[aE ne];obtain⟨o1,o2,o3⟩:=r.o j u h1;refine⟨o1,o2,fun k hk b hb=>?_⟩
   by_cases ek:k=i
   ·subst ek;rw[aO];exact fun z=>out j b z hb
   ·rw[aE ek];exact o3 k hk b hb
 ·obtain⟨Fp,h1,h2⟩:=r.h p hp;refine⟨Fp,h1.evo r.d e,fun j u hj b hb z=>?_⟩
  rcases get_set hj with⟨rfl,_,_⟩ |⟨ne,hj⟩
  ·rw[aO]at hb;exact i7.no (h1.r.there b z) (hf b hb)
  ·rw[aE ne]at hb;exact h2 j u hj b hb z
theorem Rel.Lf{i:Nat}{v:V}{t:T}(r:Rel K dl H₀ hs H σ q F)(hi:i<q.length)(hv:Rp K dl H v t F')(hf:∀(j:Nat)(u:T),q[j]? = some (.o u)->j≠i->∀ b∈F j,b ∉ F'):Rel K dl H₀ hs H (σ.set i (some v)) (q.set i (.r t)) (vv F i F'):=by
 refine⟨r.d,fun j x u h1 h2=>?_,fun j x h1 h2=>?_,fun j hj=>?_,fun j u h1=>?_,fun p hp=>?_,r.f,by simp[r.l]⟩
 ·rcases get_set h1 with⟨rfl,rfl,_⟩ |⟨ne,h1⟩
  ·cases h2;exact⟨v,by rw[T4 (by rw[<- r.l];exact hi)],by rw[aO];exact hv⟩
  ·obtain⟨w,h3,h4⟩:=r.g j x u h1 h2;exact⟨w,by rw[TV (fun z=>ne z.symm)];exact h3,by rw[aE ne];exact h4⟩
 ·rcases get_set h1 with⟨rfl,rfl,_⟩ |⟨ne,h1⟩
  ·cases h2
  ·rw[aE ne];exact r.n j x h1 h2
 ·rw[Ue]at hj;rw[aE (by omega)]
  exact r.z j hj
 ·rcases get_set h1 with⟨rfl,e,_⟩ |⟨ne,h1⟩
  ·cases e
  ·rw[aE ne];obtain⟨o1,o2,o3⟩:=r.o j u h1;refine⟨o1,o2,fun k hk b hb=>?_⟩
   have z:=hf j u h1 ne b hb;by_cases ek:k=i
   ·subst ek;rw[aO];exact z
   ·rw[aE ek];exact o3 k hk b hb
 ·obtain⟨Fp,h1,h2⟩:=r.h p hp;refine⟨Fp,h1,fun j u hj b hb z=>?_⟩
  rcases get_set hj with⟨rfl,e,_⟩ |⟨ne,hj⟩
  ·cases e
  ·rw[aE ne]at hb;exact h2 j u hj b hb z
theorem Rel.hold{v:V}{t:T}(r:Rel K dl H₀ hs H σ q F)(hv:Rp K dl H v t F')(hf:∀(j:Nat)(u:T),q[j]? = some (.o u)->∀ b∈F j,b ∉ F'):Rel K dl H₀ ((v,t)::hs) H σ q F :=
 ⟨r.d,r.g,r.n,r.z,r.o,fun p hp=>by
  rcases S1.mp hp with e|hp
  ·subst e;exact⟨F',hv,hf⟩
  ·exact r.h p hp,r.f,r.l⟩
theorem Rel.down{i:Nat}{t:T}(r:Rel K dl H₀ hs H σ q F)(hi:q[i]? = some (.o t)):Rel K dl H₀ hs H σ (q.set i (.r t)) F:=by
 refine⟨r.d,fun j x u h1 h2=>?_,fun j x h1 h2=>?_,fun j hj=>r.z j (by rw[Ue]at hj;exact hj),fun j u h1=>?_,fun p hp=>?_,r.f,by simp[r.l]⟩
 ·rcases get_set h1 with⟨rfl,rfl,_⟩ |⟨ne,h1⟩
  ·cases h2;exact r.g j _ t hi rfl
  ·exact r.g j x u h1 h2
 ·rcases get_set h1 with⟨rfl,rfl,_⟩ |⟨ne,h1⟩
  ·cases h2
  ·exact r.n j x h1 h2
 ·rcases get_set h1 with⟨rfl,e,_⟩ |⟨ne,h1⟩
  ·cases e
  ·exact r.o j u h1
 ·obtain⟨Fp,h1,h2⟩:=r.h p hp;refine⟨Fp,h1,fun j u hj=>?_⟩
  rcases get_set hj with⟨rfl,e,_⟩ |⟨ne,hj⟩
  ·cases e
  ·exact h2 j u hj
theorem Rel.write{i:Nat}{v:V}{t t':T}{p:Addr}{o:HO}(r:Rel K dl H₀ hs H σ q F)(hi:q[i]? = some (.o t))(hv:σ[i]? = some (some v))(hp:p∈F i)(ho:∀ xs,H p=some (.lst xs)->∃ ys,o = .lst ys)(hr:Rp K dl (upd H p o) v t' F')(hn:F'.Nodup)
  (hf:∀ b∈F',b∈F i\/(H₀ b=none/\(∀ j,b ∉ F j)/\∀ w u Fp,Rp K dl H w u Fp ->(w,u)∈hs->b ∉ Fp)):Rel K dl H₀ hs (upd H p o) σ (q.set i (.o t')) (vv F i F'):=by
 obtain⟨o1,o2,o3⟩:=r.o i t hi;have hil:i<q.length:=(QH.mp hi).1;obtain⟨v',hv',rp⟩:=r.g i _ t hi rfl;have pn:Nd dl p:=rp.n p hp;have pth:=r.fb hp;have tf:TF H (upd H p o):=⟨fun a vs h=>(by
  rw[ao];exact h;intro z;subst z;rcases pth with⟨_,e⟩ |⟨_,e⟩ <;> rw[h]at e <;> cases e),fun a ob u h=>(by
  rw[ao];exact h;intro z;subst z;rcases pth with⟨_,e⟩ |⟨_,e⟩ <;> rw[h]at e <;> cases e),fun a φ h=>(by
  rw[ao];exact h;intro z;subst z;rcases pth with⟨_,e⟩ |⟨_,e⟩ <;> rw[h]at e <;> cases e),fun a xs h=>(by
  by_cases z:a=p
  ·subst z;obtain⟨ys,e⟩:=ho xs h;exact⟨ys,by rw[ax,e]⟩
  ·exact⟨xs,by rw[ao z];exact h⟩),fun a x h=>⟨x,Uc _,by
  rw[ao];exact h;intro z;subst z;rcases pth with⟨_,e⟩ |⟨_,e⟩ <;> rw[h]at e <;> cases e⟩⟩
 have st:∀{w:V}{u:T}{Fw:List Addr},Rp K dl H w u Fw->p ∉ Fw->Rp K dl (upd H p o) w u Fw:=fun{w u Fw} h np =>
  ⟨h.r.cY tf (fun _ z=>z) fun b hb ob e=>(by
   have ne:b≠p:=by
    intro z;subst z;exact np hb
   rw[ao ne];exact e),h.n⟩
 refine⟨fun d hd=>(r.d d hd).other (pn d hd).1 (pn d hd).2,fun j x u h1 h2=>?_,fun j x h1 h2=>?_,fun j hj=>?_,fun j u h1=>?_,fun w hw=>?_,⟨fun b ob hb nb nr=>?_,fun b x hb=>?_⟩,by simp[r.l]⟩
 ·rcases get_set h1 with⟨rfl,rfl,_⟩ |⟨ne,h1⟩
  ·cases h2;exact⟨v,hv,by rw[aO];exact hr⟩
  ·obtain⟨w,h3,h4⟩:=r.g j x u h1 h2;exact⟨w,h3,by rw[aE ne];exact st h4 (o3 j ne p hp)⟩
 ·rcases get_set h1 with⟨rfl,rfl,_⟩ |⟨ne,h1⟩
  ·cases h2
  ·rw[aE ne];exact r.n j x h1 h2
 ·rw[Ue]at hj;rw[aE (by omega)]
  exact r.z j hj
 ·rcases get_set h1 with⟨rfl,e,_⟩ |⟨ne,h1⟩
  ·rw[aO];refine⟨hn,fun b hb=>?_,fun k hk b hb=>?_⟩
   ·rcases hf b hb with z|z
    ·exact o2 b z
    ·exact z.1
   ·rw[aE hk];rcases hf b hb with z|z
    ·exact o3 k hk b z
    ·exact z.2.1 k
  ·rw[aE ne];obtain⟨p1,p2,p3⟩:=r.o j u h1;refine⟨p1,p2,fun k hk b hb=>?_⟩
   by_cases ek:k=i
   ·subst ek;rw[aO];intro z;rcases hf b z with z|z
    ·exact o3 j ne b z hb
    ·exact z.2.1 j hb
   ·rw[aE ek];exact p3 k hk b hb
 ·obtain⟨Fp,h1,h2⟩:=r.h w hw;refine⟨Fp,st h1 (h2 i t hi p hp),fun j u hj b hb z=>?_⟩
  rcases get_set hj with⟨rfl,e,_⟩ |⟨ne,hj⟩
  ·rw[aO]at hb;rcases hf b hb with y|y
   ·exact h2 j t hi b y z
   ·exact y.2.2 w.1 w.2 Fp h1 hw z
  ·rw[aE ne]at hb;exact h2 j u hj b hb z
 ·rw[ao]
  ·exact r.f.k b ob hb nb nr
  ·intro z;subst z;rw[o2 b hp]at hb;cases hb
 ·obtain⟨y,hy,e⟩:=r.f.r b x hb;refine⟨y,hy,?_⟩;rw[ao]
  ·exact e
  ·intro z;subst z;rw[o2 b hp]at hb;cases hb
end
structure MF(K:W.Frag)(dl:Dl)(H₀:Hp)(hs:List (V×T))(Dq:rW)(D:Ends):Prop where
 nx:∀ H σ q,i8 K dl H₀ hs H σ q->Dq.nx q->D.nx σ H
 bk:∀ H σ q,i8 K dl H₀ hs H σ q->Dq.bk q->D.bk σ H
 ct:∀ H σ q,i8 K dl H₀ hs H σ q->Dq.ct q->D.ct σ H
 rt:∀ v t F H,Dls dl H->Rp K dl H v t F ->(∀ b∈F,H₀ b=none)->F.Nodup->Frm dl H₀ H->Dq.rt t->D.rt v H
 ru:∀ H σ q F0 v t F,Rel K dl H₀ hs H σ q F0->Rp K dl H v t F ->(∀ b∈F,H₀ b=none)->F.Nodup ->(∀ j,∀ b∈F,b ∉ F0 j)->Dq.ru q t->D.rt v H
def ie(K:W.Frag)(ts:TS)(qs:QS):Prop:=∀(dl:Dl)(H₀:Hp)(hs:List (V×T))(H:Hp)(σ:St)(q:Sq)(Dq:rW)(D:Ends),i8 K dl H₀ hs H σ q->qs Dq q->MF K dl H₀ hs Dq D->ts D σ H
structure QPS(X:Cx)(K:W.Frag)(st:Stmt)(ts:TS)(qs:QS):Prop where
 h:PS X st ts
 s:ie K ts qs
structure qg(X:Cx)(K:W.Frag)(st:List Stmt)(ts:TS)(qs:QS):Prop where
 h:PSs X st ts
 s:ie K ts qs
variable{q:Sq}{pos':Pos}
section
variable{X:Cx}{K:W.Frag}{st:Stmt}{rest sa sb:List Stmt}{t u:TS}{qt qu:QS}{e c:Expr}{te:TE}{qe:QE}{tc:TT}{qc:QT}{pos:Pos}
def zp:QS:=fun D q=>D.nx q
def sP(t u:QS):QS:=fun D q=>t { D with nx:=u D } q
theorem aD:qg X K [] JC zp:=⟨zw,fun _ _ _ H σ q _ _ r hq E=>E.nx H σ q r hq⟩
theorem ag(h1:QPS X K st t qt)(h2:qg X K rest u qu):qg X K (st::rest) (MZ t u) (sP qt qu):=⟨bQ h1.h h2.h,fun dl H₀ hs H σ q Dq D r hq E =>
 h1.s dl H₀ hs H σ q _ _ r hq ⟨fun H σ q r' hq'=>h2.s dl H₀ hs H σ q _ _ r' hq' E,E.bk,E.ct,E.rt,E.ru⟩⟩
theorem aj(h1:QPS X K st t qt):qg X K [st] t qt:=⟨gJ h1.h,h1.s⟩
theorem aI(he:QPF X K e te qe):QPS X K (.Return (some e) pos) (Gx te) (fun D q=>qe q D.rt):=⟨lV he.h,fun dl H₀ hs H σ q Dq D ⟨F,r⟩ hq E =>
 he.s dl H σ q _ _ r.rd hq fun v t F' H' e1 r1 f1 n1 hz=>E.rt v t F' H' e1.d r1 (fun b hb=>r.fz (f1 b hb)) n1 (r.evo e1).f hz⟩
theorem eR{i:Nat}(he:PE X e (bb i)):QPS X K (.Return (some e) pos) (Gx (bb i)) (fun D q=>match q[i]? with|some (.o t)=>D.rt t | _=>False):=⟨lV he,fun dl H₀ hs H σ q Dq D ⟨F,r⟩ hq E=>by
 split at hq
 ·rename_i t e1;obtain⟨v,hv,rp⟩:=r.g i _ t e1 rfl;obtain⟨o1,o2,o3⟩:=r.o i t e1;exact⟨v,hv,E.rt v t (F i) H r.d rp o2 o1 r.f hq⟩
 ·exact hq.elim⟩
def Hn(c:QT)(t u:QS):QS:=fun D q=>c q fun b=>if b=true then t D q else u D q
theorem aX(hc:QPT X K c tc qc)(ha:qg X K sa t qt)(hb:qg X K sb u qu):QPS X K (.If c sa sb pos) (M3 tc t u) (Hn qc qt qu):=⟨JR hc.h ha.h hb.h,fun dl H₀ hs H σ q Dq D ⟨F,r⟩ hq E =>
 hc.s dl H σ q _ _ r.rd hq fun b H' e1 hz=>by
  cases b with
  | true=>exact ha.s dl H₀ hs H' σ q Dq D ⟨F,r.evo e1⟩ hz E
  | false=>exact hb.s dl H₀ hs H' σ q Dq D ⟨F,r.evo e1⟩ hz E⟩
def xw(i:Nat)(qe:QE):QS:=fun D q=>qe q fun t=>D.nx (q.set i (.o t))
theorem Rel.Hq{hs:List (V×T)}{σ:St}{F:Nat->List Addr}{i:Nat}{v:V}{t:T}(r:Rel K dl H₀ hs H σ q F)(e:Evo dl H H')(hv:Rp K dl H' v t F')(hf:∀ b∈F',H b=none)(hn:F'.Nodup):i8 K dl H₀ hs H' (σ.set i (some v)) (q.set i (.o t)):=by
 by_cases hi:i<q.length
 ·exact⟨_,r.put hi e hv hf hn⟩
 ·have hl:=r.l;rw[VE (by omega),VE (by omega)]
  exact⟨F,r.evo e⟩
theorem zb{i:Nat}(he:ig K te qe):ie K (gD te (fA i)) (xw i qe):=fun dl H₀ hs H σ q Dq D ⟨F,r⟩ hq E=>he dl H σ q _ _ r.rd hq fun v t F' H' e1 r1 f1 n1 hz=>E.nx H' _ _ (r.Hq e1 r1 f1 n1) hz
theorem KU{i:Nat}(hN:X.N.Nodup)(hi:X.N[i]? = some x)(hx:Loc X.env.scope x)(he:QPF X K e te qe)(hs:swapsWith e (some (.Name x pos')) pos.line X.env=pure false:=by rfl)(hf:X.fn x=true\/X.env.scope.names.lookup x=some .local:=by first|exact .inl rfl|exact .inr rfl|assumption) :
  QPS X K (.Assign [.Name x pos'] e pos) (gD te (fA i)) (xw i qe):=⟨iF hN hi hx he.h hs hf,zb he.s⟩
inductive PR(tb:QS)(D:rW)(W:Nat->Sq->Prop)(m:Nat)(q:Sq):Prop
 | mk(N:Sq->Prop)(less:∀ q',N q'->∃ m',m'<m/\W m' q')(body:tb { D with nx:=N,ct:=N,bk:=D.nx } q)
inductive WhileI(c:QT)(tb:QS)(D:rW)(q:Sq):Prop
 | mk (W:Nat->Sq->Prop) (h0:∃ m,W m q) (turn:∀ m q,W m q->c q fun b=>if b=true then PR tb D W m q else D.nx q)
def K5(c:QT)(tb:QS):QS:=fun D q=>WhileI c tb D q
theorem ox(hp:Wm (model X.prog X.w) X.A X.env X.xe)(hc:QPT X K c tc qc)(hb:qg X K rest t qt):QPS X K (.While c rest [] pos) (wW tc t) (K5 qc qt):=⟨vI hp hc.h hb.h,fun dl H₀ hs H σ q Dq D r hq E=>by
 obtain⟨W,⟨m0,w0⟩,turn⟩:=hq;refine⟨fun m σ H=>∃ q,i8 K dl H₀ hs H σ q/\W m q,⟨m0,q,r,w0⟩,?_⟩
 rintro m σ H ⟨q,⟨F,r⟩,w⟩
 refine hc.s dl H σ q _ _ r.rd (turn m q w) fun b H1 e1 hz=>?_
 cases b with
 | false=>exact E.nx H1 σ q ⟨F,r.evo e1⟩ hz
 | true =>
  obtain⟨N,hN,hz⟩:=hz;refine⟨fun σ' H'=>∃ q',i8 K dl H₀ hs H' σ' q'/\N q',fun σ' H' ⟨q',r',n'⟩=>?_,?_⟩
  ·obtain⟨m',hm,w'⟩:=hN q' n';exact⟨m',hm,q',r',w'⟩
  ·exact hb.s dl H₀ hs H1 σ q _ _ ⟨F,r.evo e1⟩ hz ⟨fun H σ q r n=>⟨q,r,n⟩,fun H σ q r n=>E.nx H σ q r n,fun H σ q r n=>⟨q,r,n⟩,E.rt,E.ru⟩⟩
end
abbrev PSp:=List T ->(T->Prop)->Prop
def spQ(K:W.Frag)(ps:PSp):Sp:=fun vs H Q _=>∃(dl:Dl)(ts:List T)(F:List Addr)(Qp:T->Prop),Dls dl H/\Rps K dl H vs ts F/\ps ts Qp /\
 ∀ v t F' H',Evo dl H H'->Rp K dl H' v t F' ->(∀ b∈F',H b=none)->F'.Nodup->Qp t->Q v H'
section
variable{X:Cx}{K:W.Frag}{e:Expr}{es:List Expr}{tl:TA}{ql:QA}{pos p:Pos}{k:Nat}{f:Addr}{fd:FuncData}{prs:List Str}{ps:PSp}
def gf(ps:PSp)(ql:QA):QE:=fun q Q=>ql q fun ts=>ps ts Q
theorem CV(ha:FX K n tl ql):ig K (gZ (spQ K ps) [] E0 tl) (gf ps ql):=fun dl H σ q Q R rd hq k=>ha dl H σ q _ _ rd hq fun vs ts F H1 e1 r1 _ hz=>by
 show spQ K ps (vs ++ []) H1 R E0;rw[Td];exact⟨dl,ts,F,Q,e1.d,r1,hz,fun v t F' H' e r f n hz=>k v t F' H' (e1.trans e) r (fun b hb=>e1.free (f b hb)) n hz⟩
theorem Hl(F:a8 X.prog X.w X.K X.mg X.base CX0 k f fd prs (spQ K ps))(hr:cK k X.A)(hg:Gl X x)(hm:X.mg x=some (.ref f))(hk:W.keepIn X.K (.ref f)=true)(hb:Binds X.K fd prs [])(ha:QPA X K (e::es) tl ql)
  (hdb:(x ==("__debug__":Str))=false:=by decide) (he:SN (e::es) X.env =(false,eval e X.env)::SN es X.env:=by rfl) (hpl:(backTo pos (SN es X.env)).any (·.1)=false:=by rfl) :
  QPF X K (.Call (.Name x p) (e::es) [] pos) (gZ (spQ K ps) [] E0 tl) (gf ps ql):=⟨jh F hr hg hm hk hb .nil oJ ha.h hdb he hpl,CV ha.s⟩
end
theorem rg{K:W.Frag}{vs:List V}{ts:List T}{F:List Addr}(D:Dls dl H)(r:Rps K dl H vs ts F)(hn:vs.length<=n):i8 K dl H [] H (vs.map some++TJ (n - vs.length) none) (ts.map Sl.r++TJ (n - vs.length) .no):=by
 have hl:=r.r.len;have main:∀{vs:List V}{ts:List T}{F:List Addr},au K dl H vs ts F ->(∀ b∈F,Nd dl b)->∃ Fs:Nat->List Addr,(∀(i:Nat)(t:T),ts[i]? = some t->∃ v,vs[i]? = some v/\Rp K dl H v t (Fs i))/\∀ i,ts.length<=i->Fs i = []:=by
  intro vs ts F h
  induction ts generalizing vs F with
  | nil=>intro _;exact⟨fun _=>[],fun i t e=>by simp at e,fun _ _=>rfl⟩
  | cons t ts ih =>
   cases h with
   | @cons v0 _ vs0 _ F1 G1 h1 h2 =>
    intro hn;obtain⟨Fs,g1,g2⟩:=ih h2 fun b hb=>hn b (Tc _ hb)
    refine⟨fun i=>match i with | 0=>F1|i+1=>Fs i,fun i u e=>?_,fun i hi=>?_⟩
    ·cases i with
     | zero =>
      simp at e;subst e;exact⟨_,by simp,h1,fun b hb=>hn b (Tj _ hb)⟩
     | succ i =>
      obtain⟨v,e1,e2⟩:=g1 i u (by simpa using e)
      exact⟨v,by simpa using e1,e2⟩
    ·cases i with
     | zero=>simp at hi
     | succ i=>exact g2 i (by simpa using hi)
 obtain⟨Fs,g1,g2⟩:=main r.r r.n;have lk:∀(i:Nat)(y:Sl),(ts.map Sl.r++TJ (n - vs.length) Sl.no)[i]? = some y ->(∃ t,ts[i]? = some t/\y = .r t)\/(ts.length<=i/\y = .no):=fun i y h=>by
  by_cases hi:i<ts.length
  ·rw[TC (by simpa using hi),L7,Es hi]at h
   exact .inl ⟨ts[i],by simp,(Option.some.inj h).symm⟩
  ·rw[Ub (by simpa using hi),U7]at h
   split at h
   ·exact .inr ⟨by omega,(Option.some.inj h).symm⟩
   ·cases h
 refine⟨Fs,D,fun i y t h1 h2=>?_,fun i y h1 h2=>?_,fun i hi=>?_,fun i t h1=>?_,fun p hp=>(by cases hp),.refl,by simp[hl]⟩
 ·rcases lk i y h1 with⟨u,e,rfl⟩ |⟨_,rfl⟩
  ·cases h2;obtain⟨v,e1,e2⟩:=g1 i t e;refine⟨v,?_,e2⟩;have hi:i<vs.length:=(QH.mp e1).1;rw[TC (by simpa using hi),L7,e1]
   rfl
  ·cases h2
 ·rcases lk i y h1 with⟨u,e,rfl⟩ |⟨hi,rfl⟩
  ·cases h2
  ·exact g2 i hi
 ·refine g2 i ?_;simp at hi;omega
 ·rcases lk i _ h1 with⟨u,e,z⟩ |⟨_,z⟩ <;> cases z
variable{P:Program}{mg:Str->Option Value}{base:Heap}{qual:Str}{st:Stmt}{fd:FuncData}{N:List Str}{ps:List Str}
theorem Fun.okQ{w:World}{K:W.Frag}{f:Addr}{k:Nat}{psp:PSp}(F:Fun K x qual st f fd)(S:aH N ps (aw st))(len:∀ ts Q,psp ts Q->ts.length=ps.length)
  (k7:∀(cdv:Value)(A:Around)(outer:List Env)(s:Shared)(H:Hp)(E:XK),cK k (A.deeper (envOfC qual (aw st) s.heap.objs.size f cdv)) ->
   ∃ t qs,qg (qL CX0 P w K mg base N qual (aw st) f cdv A outer s H E).nox K (bV st) t qs/\∀ ts Q,psp ts Q->qs { nx:=fun _=>Q .n,rt:=Q } (ts.map Sl.r++TJ (N.length - ts.length) .no)):a8 P w K mg base CX0 (k+1) f fd ps (spQ K psp):=by
 have hPN:ps.length<=N.length:=by have:=congrArg UB S.pre;rw[Ti]at this;omega
 refine F.ok S (fun vs H Q E h=>?_) (fun cdv A outer s H vs Q E hr h=>?_)
 ·obtain⟨dl,ts,F,Qp,_,r,h,_⟩:=h;rw[r.r.len];exact len ts Qp h
 ·obtain⟨dl,ts,Fp,Qp,D,r,h,fin⟩:=h;obtain⟨t,qs,hb,hq⟩:=k7 cdv A outer s H E hr;refine⟨t,hb.h,?_⟩;have hlen:=len ts Qp h;have hl:=r.r.len;have z:=hq ts Qp h;have R:=rg (n:=N.length) D r (by omega)
  rw[<- hl]at z;refine hb.s dl H [] H _ _ _ _ R z ⟨fun H' σ q ⟨F,r'⟩ hz=>?_,fun _ _ _ _ hz=>hz.elim,fun _ _ _ _ hz=>hz.elim,fun v t F H' D' r' f' n' fr hz=>?_,fun _ _ _ _ _ _ _ _ _ _ _ _ z=>z.elim⟩
  ·exact fin .non .n [] H' (r'.f.evo r'.d) ⟨.n,fun _ z=>nomatch z⟩ (fun _ z=>nomatch z) S6 hz
  ·exact fin v t F H' (fr.evo D') r' f' n' hz
structure uW(K:W.Frag)(dl:Dl)(J:It)(xs:List T)(hv:List (V×T)):Prop where
 go:∀(H:Hp)(i:Nat),Dls dl H ->(∀ p∈hv,∃ F,Rp K dl H p.1 p.2 F)->i<xs.length->J.go i H
 yld:∀(H:Hp)(i:Nat)(x:T)(fp:V×T->List Addr)(v:V)(H':Hp),Dls dl H ->(∀ p∈hv,Rp K dl H p.1 p.2 (fp p))->xs[i]? = some x->J.yld i H v H'->Evo dl H H'/\∃ F,Rp K dl H' v x F/\∀ b∈F,H b=none\/∃ p∈hv,b∈fp p
 stop:∀(H:Hp),Dls dl H ->(∀ p∈hv,∃ F,Rp K dl H p.1 p.2 F)->J.stop xs.length H
variable{lo:Int}
section
variable{X:Cx}{K:W.Frag}
theorem kZ{xs:List T}:uW K dl (Itl K a) xs [(.ref a,.l xs)] where
 go:=fun H i D h hi=>by
  obtain⟨F,r⟩:=h _ (qr.mpr rfl);obtain⟨p,vs,G,e,_,h1,h2⟩:=r.r.lst;cases e;exact⟨vs,vs[i]'(by rw[h2.len];exact hi),SqL.of h1,by simp[h2.len,hi]⟩
 yld:=fun H i x fp v H' D h hx y=>by
  have r:=h _ (qr.mpr rfl);obtain⟨p,vs,G,e,eF,h1,h2⟩:=r.r.lst;cases e;obtain⟨rfl,y⟩:=y;obtain⟨w,G',hw,rw',hs⟩:=h2.get hx;have e2:=y vs (SqL.of h1);rw[hw]at e2;cases e2;have sub:∀ b∈G',b∈fp (V.ref a,T.l xs):=fun b hb=>by
   rw[eF];exact SK _ (hs b hb)
  exact⟨.refl D,G',⟨rw',fun b hb=>r.n b (sub b hb)⟩,fun b hb=>.inr ⟨_,qr.mpr rfl,sub b hb⟩⟩
 stop:=fun H D h=>by
  obtain⟨F,r⟩:=h _ (qr.mpr rfl);obtain⟨p,vs,G,e,_,h1,h2⟩:=r.r.lst;cases e;exact⟨vs,SqL.of h1,by rw[h2.len];exact S3 _⟩
theorem J6{xs:List T}:uW K dl (Itl K a) xs [(.ref a,.zl xs)] where
 go:=fun H i D h hi=>by
  obtain⟨F,r⟩:=h _ (qr.mpr rfl);obtain⟨p,o,vs,e,_,h1,h2⟩:=r.r.zls;cases e;exact⟨vs,vs[i]'(by rw[h2.len];exact hi),.inl (.inr ⟨o,h1⟩),by simp[h2.len,hi]⟩
 yld:=fun H i x fp v H' D h hx y=>by
  have r:=h _ (qr.mpr rfl);obtain⟨p,o,vs,e,eF,h1,h2⟩:=r.r.zls;cases e;obtain⟨rfl,y⟩:=y;obtain⟨w,G',hw,rw',hs⟩:=h2.get hx;have e2:=y vs (.inl (.inr ⟨o,h1⟩));rw[hw]at e2;cases e2;exact⟨.refl D,G',⟨rw',fun b hb=>nomatch hs b hb⟩,fun b hb=>nomatch hs b hb⟩
 stop:=fun H D h=>by
  obtain⟨F,r⟩:=h _ (qr.mpr rfl);obtain⟨p,o,vs,e,_,h1,h2⟩:=r.r.zls;cases e;exact⟨vs,.inl (.inr ⟨o,h1⟩),by rw[h2.len];exact S3 _⟩
theorem yd{xs:List T}:uW K dl (Itt K a) xs [(.ref a,.t xs)] where
 go:=fun H i D h hi=>by
  obtain⟨F,r⟩:=h _ (qr.mpr rfl);obtain⟨p,vs,e,h1,h2⟩:=r.r.tup;cases e;exact⟨vs,vs[i]'(by rw[h2.len];exact hi),SqT.of h1,by simp[h2.len,hi]⟩
 yld:=fun H i x fp v H' D h hx y=>by
  have r:=h _ (qr.mpr rfl);obtain⟨p,vs,e,h1,h2⟩:=r.r.tup;cases e;obtain⟨rfl,y⟩:=y;obtain⟨w,G',hw,rw',hs⟩:=h2.get hx;have e2:=y vs (SqT.of h1);rw[hw]at e2;cases e2;exact⟨.refl D,G',⟨rw',fun b hb=>r.n b (hs b hb)⟩,fun b hb=>.inr ⟨_,qr.mpr rfl,hs b hb⟩⟩
 stop:=fun H D h=>by
  obtain⟨F,r⟩:=h _ (qr.mpr rfl);obtain⟨p,vs,e,h1,h2⟩:=r.r.tup;cases e;exact⟨vs,SqT.of h1,by rw[h2.len];exact S3 _⟩
theorem EL:uW K dl (Itr lo n) ((TR n).map fun i=>.i (lo+(i:Nat))) [] where
 go:=fun H i D h hi=>by
  show i<n;simpa using hi
 yld:=fun H i x fp v H' D h hx y=>by
  obtain⟨rfl,rfl⟩:=y;rw[L7]at hx;cases e:(TR n)[i]? with
  | none=>rw[e]at hx;cases hx
  | some j =>
   rw[e]at hx;have hj:j=i:=by
    have:=QH.mp e
    obtain⟨h1,h2⟩:=this;simp at h2;exact h2.symm
   subst hj;cases hx;exact⟨.refl D,[],.c (.i _),fun _ z=>nomatch z⟩
 stop:=fun H D h=>by show n<=_;simp
abbrev QI:=Sq ->(List T->Prop)->Prop
def PU(K:W.Frag)(wi:TI)(iq:QI):Prop:=∀(dl:Dl)(H:Hp)(σ:St)(q:Sq)(Q:List T->Prop)(R:It->Hp->Prop),RdR K dl H σ q->iq q Q ->
 (∀ xs J hv H',Evo dl H H'->uW K dl J xs hv ->(∀ p∈hv,∃ F,Rp K dl H' p.1 p.2 F)->Q xs->R J H')->wi σ H R
structure QPI(X:Cx)(K:W.Frag)(tg iter:Expr)(wi:TI)(iq:QI):Prop where
 h:PI X tg iter wi
 s:PU K wi iq
abbrev QJ:=Sq ->(List T->Sq->Prop)->Prop
def Sx(K:W.Frag)(wi:TI)(iq:QJ):Prop:=∀(dl:Dl)(H₀:Hp)(hs:List (V×T))(H:Hp)(σ:St)(q:Sq)(Q:List T->Sq->Prop)(R:It->Hp->Prop),i8 K dl H₀ hs H σ q->iq q Q ->
 (∀ xs J hv H' q',i8 K dl H₀ (hv++hs) H' σ q'->uW K dl J xs hv->Q xs q'->R J H')->wi σ H R
structure QPJ(X:Cx)(K:W.Frag)(tg iter:Expr)(wi:TI)(iq:QJ):Prop where
 h:PI X tg iter wi
 s:Sx K wi iq
variable{tg e a b:Expr}{te ta tb:TE}{qe qa qb:QE}{tl:TA}{ql:QA}{pos p:Pos}
theorem kN(hK:X.K=K)(h:PE X e te):PI X tg e (rG K te):=by subst hK;exact nJ h
theorem sU(hK:X.K=K)(h:PE X e te):PI X tg e (EO K te):=by subst hK;exact Lr h
def asL(qe:QE):QI:=fun q Q=>qe q fun t=>match t with | .l xs=>Q xs | .zl xs=>Q xs | _=>False
def asT(qe:QE):QI:=fun q Q=>qe q fun t=>match t with | .t xs=>Q xs | _=>False
theorem dD(h:QPE X K e te qe)(hK:X.K=K:=by rfl):QPI X K tg e (rG K te) (asL qe):=⟨kN hK h.h,fun dl H σ q Q R rd hq k=>h.s dl H σ q _ _ rd hq fun v t F H' e1 r hz=>by
 split at hz
 ·obtain⟨p,vs,G,rfl,rfl,h1,h2⟩:=r.r.lst;exact⟨p,rfl,⟨vs,SqL.of h1⟩,k _ _ _ H' e1 kZ (fun p hp=>by rw[qr.mp hp];exact⟨_,r⟩) hz⟩
 ·obtain⟨p,o,vs,rfl,rfl,h1,h2⟩:=r.r.zls;exact⟨p,rfl,⟨vs,.inl (.inr ⟨o,h1⟩)⟩,k _ _ _ H' e1 J6 (fun p hp=>by rw[qr.mp hp];exact⟨_,r⟩) hz⟩
 ·exact hz.elim⟩
theorem fJ(h:QPE X K e te qe)(hK:X.K=K:=by rfl):QPI X K tg e (EO K te) (asT qe):=⟨sU hK h.h,fun dl H σ q Q R rd hq k=>h.s dl H σ q _ _ rd hq fun v t F H' e1 r hz=>by
 split at hz
 ·obtain⟨p,vs,rfl,h1,h2⟩:=r.r.tup;exact⟨p,rfl,⟨vs,SqT.of h1⟩,k _ _ _ H' e1 yd (fun p hp=>by rw[qr.mp hp];exact⟨_,r⟩) hz⟩
 ·exact hz.elim⟩
def C4(lo:Int)(n:Nat):List T:=(TR n).map fun i=>.i (lo+(i:Nat))
theorem jQ{i:Nat}{x:T}(h:(C4 lo n)[i]? = some x):x = .i (lo+(i:Nat))/\i<n:=by
 unfold C4 at h;rw[L7]at h;obtain⟨j,hj,rfl⟩:=QX.mp h;obtain⟨h1,h2⟩:=QH.mp hj;simp at h1 h2;subst h2;exact⟨rfl,h1⟩
theorem dC:(C4 lo n).length=n:=by simp[C4]
def Pz(ql:QA):QI:=fun q Q=>ql q fun ts=>match ts with | [.i n]=>-(2 ^ 62)<=n/\n<2 ^ 62/\Q (C4 0 n.toNat) | _=>False
theorem lR(hg:Gl X "range")(hm:X.mg "range" = none)(ha:QPA X K [a] tl ql)(hs:SN [a] X.env = [(false,eval a X.env)]:=by rfl):QPI X K tg (.Call (.Name "range" p) [a] [] pos) (ER tl) (Pz ql):=⟨rB hg hm ha.h hs,fun dl H σ q Q R rd hq k=>ha.s dl H σ q _ _ rd hq fun vs ts F H' e1 r _ hz=>by
 split at hz
 ·obtain⟨v,rfl,r'⟩:=r.one;obtain⟨rfl,_⟩:=r'.r.int;exact⟨_,rfl,hz.1,hz.2.1,k _ _ [] H' e1 EL (fun _ z=>nomatch z) hz.2.2⟩
 ·exact hz.elim⟩
def asJ(iq:QI):QJ:=fun q Q=>iq q fun xs=>Q xs q
theorem jf(hg:Gl X "range")(hm:X.mg "range" = none)(ha:QPA X K [a] tl ql)(hs:SN [a] X.env = [(false,eval a X.env)]:=by rfl):QPJ X K tg (.Call (.Name "range" p) [a] [] pos) (ER tl) (asJ (Pz ql)):=⟨rB hg hm ha.h hs,fun dl H₀ hs H σ q Q R ⟨F0,r0⟩ hq k=>ha.s dl H σ q _ _ r0.rd hq fun vs ts F H' e1 r _ hz=>by
 split at hz
 ·obtain⟨v,rfl,r'⟩:=r.one;obtain⟨rfl,_⟩:=r'.r.int;exact⟨_,rfl,hz.1,hz.2.1,k _ _ [] H' q ⟨F0,r0.evo e1⟩ EL hz.2.2⟩
 ·exact hz.elim⟩
theorem zk(h:QPF X K e te qe)(hK:X.K=K:=by rfl):QPJ X K tg e (rG K te) (asJ (asL qe)):=⟨kN hK h.h,fun dl H₀ hs H σ q Q R ⟨F0,r0⟩ hq k=>h.s dl H σ q _ _ r0.rd hq fun v t F H' e1 r f n hz=>by
 split at hz
 ·have r1:=(r0.evo e1).hold r fun j u hj b hb z=>(r0.fb hb).no (f b z)
  obtain⟨p,vs,G,rfl,rfl,h1,h2⟩:=r.r.lst;exact⟨p,rfl,⟨vs,SqL.of h1⟩,k _ _ _ H' q ⟨F0,r1⟩ kZ hz⟩
 ·have r1:=(r0.evo e1).hold r fun j u hj b hb z=>(r0.fb hb).no (f b z)
  obtain⟨p,o,vs,rfl,rfl,h1,h2⟩:=r.r.zls;exact⟨p,rfl,⟨vs,.inl (.inr ⟨o,h1⟩)⟩,k _ _ _ H' q ⟨F0,r1⟩ J6 hz⟩
 ·exact hz.elim⟩
theorem gH(h:QPF X K e te qe)(hK:X.K=K:=by rfl):QPJ X K tg e (EO K te) (asJ (asT qe)):=⟨sU hK h.h,fun dl H₀ hs H σ q Q R ⟨F0,r0⟩ hq k=>h.s dl H σ q _ _ r0.rd hq fun v t F H' e1 r f n hz=>by
 split at hz
 ·have r1:=(r0.evo e1).hold r fun j u hj b hb z=>(r0.fb hb).no (f b z)
  obtain⟨p,vs,rfl,h1,h2⟩:=r.r.tup;exact⟨p,rfl,⟨vs,SqT.of h1⟩,k _ _ _ H' q ⟨F0,r1⟩ yd hz⟩
 ·exact hz.elim⟩
def asN(i:Nat):QJ:=fun q Q=>match q[i]? with
 | some (.o (.l xs))=>Q xs (q.set i (.r (.l xs)))
 | some (.r (.l xs))=>Q xs q
 | _=>False
theorem He{i:Nat}(h:PE X e (bb i))(hK:X.K=K:=by rfl):QPJ X K tg e (rG K (bb i)) (asN i):=⟨kN hK h,fun dl H₀ hs H σ q Q R ⟨F0,r0⟩ hq k=>by
 unfold asN at hq
 split at hq
 ·rename_i xs e1;obtain⟨v,hv,r⟩:=r0.g i _ _ e1 rfl;obtain⟨o1,o2,o3⟩:=r0.o i _ e1;have r1:=(r0.down e1).hold r fun j u hj b hb=>by
   rcases get_set hj with⟨_,z,_⟩ |⟨ne,hj⟩
   ·cases z
   ·exact(r0.o j u hj).2.2 i (fun z=>ne z.symm) b hb
  obtain⟨p,vs,G,rfl,_,h1,h2⟩:=r.r.lst;exact⟨_,hv,p,rfl,⟨vs,SqL.of h1⟩,k _ _ _ H _ ⟨F0,r1⟩ kZ hq⟩
 ·rename_i xs e1;obtain⟨v,hv,r⟩:=r0.g i _ _ e1 rfl;have r1:=r0.hold r fun j u hj b hb=>(r0.o j u hj).2.2 i (fun z=>by subst z;rw[e1]at hj;cases hj) b hb
  obtain⟨p,vs,G,rfl,_,h1,h2⟩:=r.r.lst;exact⟨_,hv,p,rfl,⟨vs,SqL.of h1⟩,k _ _ _ H _ ⟨F0,r1⟩ kZ hq⟩
 ·exact hq.elim⟩
inductive Tg where
 | nm(i:Nat)|tp (is:List Nat)
def m8(q:Sq):List Nat->List T->Option Sq
 | [],[]=>some q
 | i::is,x::xs=>if i<q.length then m8 (q.set i (.r x)) is xs else none
 | _,_=>none
def Tg.put(g:Tg)(x:T)(q:Sq):Option Sq:=match g with
 | .nm i=>if i<q.length then some (q.set i (.r x))else none
 | .tp is=>match x with | .t xs=>m8 q is xs | _=>none
def um:List Nat->TGs
 | []=>Mh
 | i::is=>zX (fA i) (um is)
def Tg.h(K:W.Frag):Tg->TG
 | .nm i=>fA i
 | .tp is=>IL K is.length (um is)
theorem rh{H₀ H:Hp}{hs:List (V×T)}:∀{is:List Nat}{vs:List V}{xs:List T}{G:List Addr}{σ:St}{q q':Sq}{F:Nat->List Addr}{R:St->Hp->Prop},Rel K dl H₀ hs H σ q F->au K dl H vs xs G ->(∀ b∈G,Nd dl b) ->
  (∀(j:Nat)(u:T),q[j]? = some (.o u)->∀ b∈F j,b ∉ G)->m8 q is xs=some q' ->(∀ σ',i8 K dl H₀ hs H σ' q'->R σ' H)->um is vs σ H R
 | [],vs,xs,G,σ,q,q',F,R,r,rs,_,_,hp,k=>by
  cases xs with
  | cons _ _=>cases hp
  | nil =>
   cases rs;cases hp;exact⟨rfl,k σ ⟨F,r⟩⟩
 | i::is,vs,xs,G,σ,q,q',F,R,r,rs,hn,ho,hp,k=>by
  cases xs with
  | nil=>cases hp
  | cons x xs =>
   cases rs with
   | cons r1 r2 =>
    unfold m8 at hp;by_cases hi:i<q.length
    ·rw[if_pos hi]at hp;refine⟨_,_,rfl,?_⟩;have r':=r.Lf hi ⟨r1,fun b hb=>hn b (Tj _ hb)⟩ fun j u hj _ b hb z=>ho j u hj b hb (Tj _ z)
     refine rh r' r2 (fun b hb=>hn b (Tc _ hb)) (fun j u hj b hb z=>?_) hp k
     rcases get_set hj with⟨_,z',_⟩ |⟨ne,hj⟩
     ·cases z'
     ·rw[aE ne]at hb;exact ho j u hj b hb (Tc _ z)
    ·rw[if_neg hi]at hp;cases hp
variable{g:Tg}
theorem xo{hs:List (V×T)}{v:V}{x:T}{σ:St}{q':Sq}{F:Nat->List Addr}{R:St->Hp->Prop}(r:Rel K dl H₀ hs H σ q F)(rx:Rp K dl H v x G)
  (ho:∀(j:Nat)(u:T),q[j]? = some (.o u)->∀ b∈F j,b ∉ G) (hp:g.put x q=some q') (k:∀ σ',i8 K dl H₀ hs H σ' q'->R σ' H):g.h K v σ H R:=by
 cases g with
 | nm i =>
  replace hp:(if i<q.length then some (q.set i (.r x))else none)=some q':=hp
  by_cases hi:i<q.length
  ·rw[if_pos hi]at hp;cases hp;exact k _ ⟨_,r.Lf hi rx fun j u hj _=>ho j u hj⟩
  ·rw[if_neg hi]at hp;cases hp
 | tp is =>
  cases x with
  | t xs =>
   replace hp:m8 q is xs=some q':=hp
   obtain⟨p,vs,rfl,h1,h2⟩:=rx.r.tup;have hl:∀{is:List Nat}{xs:List T}{q q':Sq},m8 q is xs=some q'->xs.length=is.length:=fun{is}=>by
    induction is with
    | nil=>intro xs q q' h;cases xs with
     | nil=>rfl
     | cons _ _=>cases h
    | cons i is ih=>intro xs q q' h;cases xs with
     | nil=>cases h
     | cons x xs =>
      unfold m8 at h;by_cases hi:i<q.length
      ·rw[if_pos hi]at h;simp[ih h]
      ·rw[if_neg hi]at h;cases h
   exact⟨p,vs,rfl,SqT.of h1,by rw[h2.len];exact hl hp,rh r h2 rx.n ho hp k⟩
  | _=>cases hp
end
variable{tg:Expr}{iter:Expr}{body:List Stmt}{g:Tg}{cap:List (Option Nat)}{iq:QI}{tst:TT}{lP:QT}{te:TE}{qe:QE}{N':List Str}{sc:Scope}{elt:Expr}{ifs:List Expr}
section
variable{X:Cx}{K:W.Frag}{hs:List (V×T)}{σ:St}{F:Nat->List Addr}
theorem Rel.sd{hv:List (V×T)}(r:Rel K dl H₀ (hv++hs) H σ q F):Rel K dl H₀ hs H σ q F:=⟨r.d,r.g,r.n,r.z,r.o,fun p hp=>r.h p (Tc _ hp),r.f,r.l⟩
theorem Rel.fps{hv:List (V×T)}(r:Rel K dl H₀ (hv++hs) H σ q F):∃ fp:V×T->List Addr,∀ p∈hv,Rp K dl H p.1 p.2 (fp p)/\∀(i:Nat)(t:T),q[i]? = some (.o t)->∀ b∈F i,b ∉ fp p:=by
 classical
 refine⟨fun p=>if h:p∈hv then(r.h p (Tj _ h)).choose else [],fun p hp=>?_⟩
 have z:=(r.h p (Tj _ hp)).choose_spec;simp only[dif_pos hp];exact z
inductive Sz(g:Tg)(qb:QS)(D:rW)(xs:List T)(q0:Sq):Prop
 | mk(I:Nat->Sq->Prop)(h0:I 0 q0)(step:∀ i x q,xs[i]? = some x->I i q->∃ q',g.put x q=some q'/\qb { D with nx:=I (i+1),ct:=I (i+1),bk:=D.nx } q')(fin:∀ q,I xs.length q->D.nx q)
def Rt(iq:QJ)(g:Tg)(qb:QS):QS:=fun D q=>iq q fun xs q0=>Sz g qb D xs q0
theorem bp{wi:TI}{iq:QJ}{tb:TS}{qb:QS}{pos:Pos}(hp:Wm (model X.prog X.w) X.A X.env X.xe)(hc:X.calm=true)(hi:QPJ X K tg iter wi iq)(hg:PG X tg (g.h K))(hb:qg X K body tb qb)
  (hs:∀ x,foldedSetIterable iter X.env x=pure x:=by intro _;rfl):QPS X K (.For tg iter body [] pos) (M4 wi (g.h K) tb) (Rt iq g qb):=⟨DS hp hc hi.h hg hb.h hs,fun dl H₀ hs H σ q Dq D r hq E=>by
 refine hi.s dl H₀ hs H σ q _ _ r hq fun xs J hv H1 q1 r1 it hz=>?_
 obtain⟨I,i0,turn,fin⟩:=hz;refine⟨fun i m σ H=>m=xs.length - i/\i<=xs.length/\∃ q,i8 K dl H₀ (hv++hs) H σ q/\I i q,⟨xs.length,by simp,TX _,q1,r1,i0⟩,?_⟩
 rintro i m σ H ⟨rfl,hi',q,⟨F,r⟩,hI⟩
 have held:∀ p∈hv,∃ F,Rp K dl H p.1 p.2 F:=fun p hp=>let⟨Fp,h,_⟩:=r.h p (Tj _ hp);⟨Fp,h⟩
 by_cases hlt:i<xs.length
 ·refine .inr ⟨it.go H i r.d held hlt,fun σ' H'=>∃ q,i8 K dl H₀ (hv++hs) H' σ' q/\I (i+1) q,fun σ' H' h=>⟨xs.length - (i+1),by omega,rfl,hlt,h⟩,fun v H' y=>?_⟩
  obtain⟨fp,hfp⟩:=r.fps;have hx:xs[i]? = some xs[i]:=by simp[hlt]
  obtain⟨e1,G,rx,hG⟩:=it.yld H i xs[i] fp v H' r.d (fun p hp=>(hfp p hp).1) hx y
  obtain⟨q',hq',hz⟩:=turn i xs[i] q hx hI;refine xo (r.evo e1) rx (fun j u hj b hb z=>?_) hq' fun σ2 r2=>hb.s dl H₀ (hv++hs) H' σ2 q' _ _ r2 hz ⟨fun H σ q r n=>⟨q,r,n⟩,fun H σ q ⟨F,r⟩ n=>E.nx H σ q ⟨F,r.sd⟩ n,fun H σ q r n=>⟨q,r,n⟩,E.rt,fun H σ q F0 v t F r=>E.ru H σ q F0 v t F r.sd⟩
  rcases hG b z with h |⟨p,hp,h⟩
  ·exact(r.fb hb).no h
  ·exact(hfp p hp).2 j u hj b hb h
 ·have e:i=xs.length:=by omega
  subst e;exact .inl ⟨it.stop H r.d held,E.nx H σ q ⟨F,r.sd⟩ (fin q hI)⟩⟩
def iX(cap:List (Option Nat))(q:Sq):Sq:=cap.map fun o=>match o with
 | none=>.no
 | some i=>match q[i]? with
  | some (.o t)=>.r t
  | some (.r t)=>.r t
  | _=>.no
theorem G6(r:RdR K dl H σ q):RdR K dl H (lg cap σ) (iX cap q):=⟨r.d,fun j x t h1 h2=>by
 unfold iX at h1;rw[L7]at h1;cases e:cap[j]? with
 | none=>rw[e]at h1;cases h1
 | some o =>
  rw[e]at h1;cases o with
  | none=>cases h1;cases h2
  | some i =>
   have go:∀ y:Sl,q[i]? = some y->y.get=some t->∃ v F,(lg cap σ)[j]? = some (some v)/\Rp K dl H v t F:=fun y hy ht=>by
    obtain⟨v,F,h3,h4⟩:=r.g i y t hy ht;refine⟨v,F,?_,h4⟩;unfold lg;rw[L7,e];show some ((σ[i]?).join)=_;rw[h3];rfl
   replace h1:(match q[i]? with|some (.o t)=>Sl.r t|some (.r t)=>.r t | _=>.no)=x:=Option.some.inj h1
   split at h1
   ·rename_i u eq;subst h1;cases h2;exact go _ eq rfl
   ·rename_i u eq;subst h1;cases h2;exact go _ eq rfl
   ·subst h1;cases h2⟩
theorem RdR.set{i:Nat}{v:V}{x:T}{G:List Addr}(r:RdR K dl H σ q)(hl:i < σ.length)(rx:Rp K dl H v x G):RdR K dl H (σ.set i (some v)) (q.set i (.r x)):=⟨r.d,fun j y t h1 h2=>by
 rcases get_set h1 with⟨rfl,rfl,_⟩ |⟨ne,h1⟩
 ·cases h2;exact⟨v,G,by rw[T4 hl],rx⟩
 ·obtain⟨w,F,h3,h4⟩:=r.g j y t h1 h2;exact⟨w,F,by rw[TV (fun z=>ne z.symm)];exact h3,h4⟩⟩
theorem RdR.any{i:Nat}{o:Option V}(r:RdR K dl H σ q)(hn:q[i]? = some .no):RdR K dl H (σ.set i o) q:=⟨r.d,fun j y t h1 h2=>by
 obtain⟨w,F,h3,h4⟩:=r.g j y t h1 h2;refine⟨w,F,?_,h4⟩;rw[TV]
 ·exact h3
 ·intro z;subst z;rw[hn]at h1;cases h1;cases h2⟩
def Tg.ixs:Tg->List Nat
 | .nm i=>[i]
 | .tp is=>is
theorem vy:∀{is:List Nat}{vs:List V}{xs:List T}{G:List Addr}{σ:St}{q q0 q':Sq}{R:St->Hp->Prop},RdR K dl H σ q->RdR K dl H σ q0->σ.length=q.length->au K dl H vs xs G ->(∀ b∈G,Nd dl b) ->(∀ i∈is,q0[i]? = some .no)->m8 q is xs=some q' ->
  (∀ σ',RdR K dl H σ' q'->RdR K dl H σ' q0->σ'.length=σ.length->R σ' H)->um is vs σ H R
 | [],vs,xs,G,σ,q,q0,q',R,r,r0,_,rs,_,_,hp,k=>by
  cases xs with
  | cons _ _=>cases hp
  | nil =>
   cases rs;cases hp;exact⟨rfl,k σ r r0 rfl⟩
 | i::is,vs,xs,G,σ,q,q0,q',R,r,r0,hl,rs,hn,hf,hp,k=>by
  cases xs with
  | nil=>cases hp
  | cons x xs =>
   cases rs with
   | cons r1 r2 =>
    unfold m8 at hp;by_cases hi:i<q.length
    ·rw[if_pos hi]at hp;refine⟨_,_,rfl,?_⟩;refine vy (r.set (by omega) ⟨r1,fun b hb=>hn b (Tj _ hb)⟩) (r0.any (hf i SG)) (by simp[hl]) r2 (fun b hb=>hn b (Tc _ hb)) (fun j hj=>hf j (SK _ hj)) hp fun σ' a b c=>k σ' a b (by simpa using c)
    ·rw[if_neg hi]at hp;cases hp
theorem vH:∀{is:List Nat}{xs:List T}{q q':Sq},m8 q is xs=some q'->xs.length=is.length
 | [],[],_,_,_=>rfl
 | [],_::_,_,_,h=>by cases h
 | _::_,[],_,_,h=>by cases h
 | i::is,x::xs,q,q',h=>by
  unfold m8 at h;by_cases hi:i<q.length
  ·rw[if_pos hi]at h;simp[vH h]
  ·rw[if_neg hi]at h;cases h
theorem Nj{v:V}{x:T}{q':Sq}{R:St->Hp->Prop}(r:RdR K dl H σ q)(hl:σ.length=q.length)(rx:Rp K dl H v x G)(hf:∀ i∈g.ixs,q[i]? = some .no)(hp:g.put x q=some q')
  (k:∀ σ',RdR K dl H σ' q'->RdR K dl H σ' q->σ'.length=σ.length->R σ' H):g.h K v σ H R:=by
 cases g with
 | nm i =>
  replace hp:(if i<q.length then some (q.set i (.r x))else none)=some q':=hp
  by_cases hi:i<q.length
  ·rw[if_pos hi]at hp;cases hp;exact k _ (r.set (by omega) rx) (r.any (hf i (qr.mpr rfl))) (by simp)
  ·rw[if_neg hi]at hp;cases hp
 | tp is =>
  cases x with
  | t xs =>
   replace hp:m8 q is xs=some q':=hp
   obtain⟨p,vs,rfl,h1,h2⟩:=rx.r.tup;exact⟨p,vs,rfl,SqT.of h1,by rw[h2.len];exact vH hp,vy r r hl h2 rx.n hf hp k⟩
  | _=>cases hp
def DG:QT:=fun _ Q=>Q true
theorem CM:km K y0 DG:=fun dl H σ q Q R rd hq k=>k true H (.refl rd.d) hq
inductive CompI(cap:List (Option Nat))(g:Tg)(tst:QT)(qe:QE)(q:Sq)(Q:T->Prop)(xs:List T):Prop
 | mk (hl:xs.length<S4) (I:Nat->List T->Prop) (h0:I 0 []) (step:∀ i x ys,xs[i]? = some x->I i ys->∃ q',g.put x (iX cap q)=some q'/\tst q' fun b=>if b=true then qe q' fun y=>I (i+1) (ys ++ [y])else I (i+1) ys) (fin:∀ ys,I xs.length ys->Q (.l ys))
def zr(cap:List (Option Nat))(iq:QI)(g:Tg)(tst:QT)(qe:QE):QE:=fun q Q=>iq q fun xs=>CompI cap g tst qe q Q xs
theorem vq{wi:TI}(hi:PU K wi iq)(ht:km K tst lP)(he:ig K te qe)(hf:(g.ixs.all fun i=>cap[i]? == some none)=true):ig K (q9 cap wi (g.h K) tst te) (zr cap iq g lP qe):=by
 intro dl H σ q Q R rd hq k;refine hi dl H σ q _ _ rd hq fun xs J hv H1 e1 it held hz=>?_
 obtain⟨hlen,I,i0,turn,fin⟩:=hz;have rd1:=G6 (cap:=cap) (rd.evo e1);have hno:∀ i∈g.ixs,(iX cap q)[i]? = some .no:=fun i hi=>by
  have z:=T9.mp hf i hi;have z:cap[i]? = some none:=by simpa using z
  unfold iX;rw[L7,z];rfl
 have hcl:(lg cap σ).length =(iX cap q).length:=by simp[lg,iX]
 refine⟨fun i m vs σ' H'=>m=xs.length - i/\i<=xs.length/\∃ ts F,Evo dl H1 H'/\RdR K dl H' σ' (iX cap q)/\σ'.length =(iX cap q).length/\(∀ p∈hv,∃ F,Rp K dl H' p.1 p.2 F)/\Rps K dl H' vs ts F/\(∀ b∈F,H b=none)/\F.Nodup/\vs.length<=i/\I i ts,
  ⟨xs.length,by simp,TX _,[],[],.refl e1.d,rd1,hcl,held,⟨.nil,fun _ z=>nomatch z⟩,(fun _ z=>nomatch z),S6,S3 _,i0⟩,?_⟩
 rintro i m vs σ' H' ⟨rfl,hi',ts,F,e2,rd2,hl2,wg,rs,fr,nd,hvl,hI⟩
 by_cases hlt:i<xs.length
 ·refine .inr ⟨it.go H' i e2.d wg hlt,by omega,fun vs2 σ2 H2=>∃ ts F,Evo dl H1 H2/\RdR K dl H2 σ2 (iX cap q)/\σ2.length =(iX cap q).length/\(∀ p∈hv,∃ F,Rp K dl H2 p.1 p.2 F)/\Rps K dl H2 vs2 ts F/\(∀ b∈F,H b=none)/\F.Nodup/\vs2.length<=i+1/\I (i+1) ts,
   fun vs2 σ2 H2 h=>⟨xs.length - (i+1),by omega,rfl,hlt,h⟩,fun v H2 y=>?_⟩
  have hx:xs[i]? = some xs[i]:=by simp[hlt]
  obtain⟨fp,hfp⟩:∃ fp:V×T->List Addr,∀ p∈hv,Rp K dl H' p.1 p.2 (fp p):=by
   classical
   refine⟨fun p=>if h:p∈hv then(wg p h).choose else [],fun p hp=>?_⟩
   simp only[dif_pos hp];exact(wg p hp).choose_spec
  obtain⟨e3,G,rx,hG⟩:=it.yld H' i xs[i] fp v H2 e2.d hfp hx y;obtain⟨q',hq',hz⟩:=turn i xs[i] ts hx hI;have J9:∀{H3:Hp},Evo dl H' H3->∀ p∈hv,∃ F,Rp K dl H3 p.1 p.2 F:=fun{H3} e p hp=>let⟨F,r⟩:=wg p hp;⟨F,r.evo e2.d e⟩
  refine Nj (rd2.evo e3) hl2 rx hno hq' fun σ3 r3 r30 l3=>?_
  refine ht dl H2 σ3 q' _ _ r3 hz fun b H4 e4 hz=>?_
  cases b with
  | false=>exact⟨ts,F,(e2.trans e3).trans e4,r30.evo e4,by omega,J9 (e3.trans e4),(rs.evo e2.d e3).evo e3.d e4,fr,nd,by omega,hz⟩
  | true =>
   refine he dl H4 σ3 q' _ _ (r3.evo e4) hz fun w t G' H5 e5 rw' f5 n5 hz=>?_
   have E:=(e2.trans e3).trans (e4.trans e5);have rs5:=((rs.evo e2.d e3).evo e3.d (e4.trans e5));refine⟨ts ++ [t],F++(G' ++ []),E,r30.evo (e4.trans e5),by omega,J9 (e3.trans (e4.trans e5)),⟨rs5.r.append (.cons rw'.r .nil),fun b hb=>?_⟩,fun b hb=>?_,?_,by simp;omega,hz⟩
   ·rcases SY.mp hb with hb|hb
    ·exact rs.n b hb
    ·rw[Td]at hb;exact rw'.n b hb
   ·rcases SY.mp hb with hb|hb
    ·exact fr b hb
    ·rw[Td]at hb;exact((e1.trans e2).trans (e3.trans e4)).free (f5 b hb)
   ·rw[Td];refine T1.mpr ⟨nd,n5,fun x hx y hy exy=>?_⟩
    subst exy;have rs4:=(rs.evo e2.d e3).evo e3.d e4;exact i7.no (rs4.r.there x hx) (f5 x hy)
 ·have e:i=xs.length:=by omega
  subst e;refine .inl ⟨it.stop H' e2.d wg,by omega,fun D hD=>?_⟩
  exact k _ _ _ _ ((e1.trans e2).new hD) (rs.lst e2.d hD) (fun b hb=>by
   rcases S1.mp hb with e|hb
   ·rw[e];exact(e1.trans e2).free hD
   ·exact fr b hb) (rs.fresh hD nd) (fin ts hI)
structure QB(X:Cx)(K:W.Frag)(N':List Str)(sc:Scope)(tg:Expr)(g:Tg)(ifs:List Expr)(tst:TT)(lP:QT)(elt:Expr)(te:TE)(qe:QE):Prop where
 b:∀ cl C s₂ H₂ fp,PG (blk X N' sc cl C s₂ H₂ fp) tg (g.h K)/\PTs (blk X N' sc cl C s₂ H₂ fp) ifs tst/\PE (blk X N' sc cl C s₂ H₂ fp) elt te
 t:km K tst lP
 e:ig K te qe
theorem bZ(h:∀ cl C s₂ H₂ fp,PG (blk X N' sc cl C s₂ H₂ fp) tg (g.h K)/\QPF (blk X N' sc cl C s₂ H₂ fp) K elt te qe):QB X K N' sc tg g [] y0 DG elt te qe :=
 ⟨fun cl C s₂ H₂ fp=>⟨(h cl C s₂ H₂ fp).1,zv,(h cl C s₂ H₂ fp).2.h⟩,CM,(h [] 0 X.s₀ (fun _=>none) []).2.s⟩
theorem oC{c:Expr}(h:∀ cl C s₂ H₂ fp,PG (blk X N' sc cl C s₂ H₂ fp) tg (g.h K)/\QPT (blk X N' sc cl C s₂ H₂ fp) K c tst lP/\QPF (blk X N' sc cl C s₂ H₂ fp) K elt te qe):QB X K N' sc tg g [c] tst lP elt te qe :=
 ⟨fun cl C s₂ H₂ fp=>⟨(h cl C s₂ H₂ fp).1,zu (h cl C s₂ H₂ fp).2.1.h,(h cl C s₂ H₂ fp).2.2.h⟩,(h [] 0 X.s₀ (fun _=>none) []).2.1.s,(h [] 0 X.s₀ (fun _=>none) []).2.2.s⟩
theorem bj{pos:Pos}{wi:TI}(hc:X.calm=true)(hi:QPI X K tg iter wi iq)(qK:lE X sc N' cap)(hb:QB X K N' sc tg g ifs tst lP elt te qe)
  (hf:(g.ixs.all fun i=>cap[i]? == some none)=true:=by rfl)
  (gn:sc.kind = .function:=by rfl) (gp:∀ y∈sc.names,y.2 ≠ .cell:=by decide) (gS:∀ y∈sc.names,y.2 = .local->sc.names.lookup y.1=some .local:=by decide)
  (g6:(sc.names.all fun y=>y.2 != .free ||(X.env.kindOf y.1==some .cell||X.env.kindOf y.1==some .free))=true:=by rfl)
  (hs:∀ x,foldedSetIterable iter X.env x=pure x:=by intro _;rfl):QPF X K (.ListComp elt [⟨tg,iter,ifs,0⟩] sc pos) (q9 cap wi (g.h K) tst te) (zr cap iq g lP qe) :=
 ⟨zB hc hi.h qK hb.b gn gp gS g6 hs,vq hi.s hb.t hb.e hf⟩
theorem kG{i:Nat}{y:Str}{pos fE py:Pos}{wi:TI}(hN:X.N.Nodup)(hi':X.N[i]? = some y)(hy:Loc X.env.scope y)
  (hc:X.calm=true) (hi:QPI X K tg iter wi iq) (qK:lE X sc N' cap) (hb:QB X K N' sc tg g ifs tst lP elt te qe)
  (hf':(g.ixs.all fun i=>cap[i]? == some none)=true:=by rfl)
  (hsw:swapsWith (.ListComp elt [⟨tg,iter,ifs,0⟩] sc pos) (some (.Name y py)) fE.line X.env=pure true:=by rfl)
  (hf:X.fn y=true\/X.env.scope.names.lookup y=some .local:=by first|exact .inl rfl|exact .inr rfl|assumption)
  (gn:sc.kind = .function:=by rfl) (gp:∀ y∈sc.names,y.2 ≠ .cell:=by decide) (gS:∀ y∈sc.names,y.2 = .local->sc.names.lookup y.1=some .local:=by decide)
  (g6:(sc.names.all fun y=>y.2 != .free ||(X.env.kindOf y.1==some .cell||X.env.kindOf y.1==some .free))=true:=by rfl)
  (hs:∀ x,foldedSetIterable iter X.env x=pure x:=by intro _;rfl):QPS X K (.Assign [.Name y py] (.ListComp elt [⟨tg,iter,ifs,0⟩] sc pos) fE) (gD (q9 cap wi (g.h K) tst te) (fA i)) (xw i (zr cap iq g lP qe)) :=
 ⟨zx hN hi' hy hc hi.h qK hb.b hsw hf gn gp gS g6 hs,zb (vq hi.s hb.t hb.e hf')⟩
end
section
variable{X:Cx}{K:W.Frag}{hs:List (V×T)}{σ:St}{F:Nat->List Addr}{e o:Expr}{pos apos aV:Pos}
theorem aA.uniq{v:V}{t:T}{F:List Addr}(h:aA K dl H v t F):∀{F':List Addr},aA K dl H v t F'->F=F' :=
 aA.rec (motive_1:=fun v t F _=>∀{F'},aA K dl H v t F'->F=F') (motive_2:=fun v t F _=>∀{F'},au K dl H v t F'->F=F') (motive_3:=fun v t F _=>∀{F'},aQ K dl H v t F'->F=F')
  (fun h=>(h.im rfl).symm) (fun _ _ h=>(h.im rfl).symm) (fun _ _ h=>(h.im rfl).symm) (fun _ _ h=>(h.im rfl).symm) (fun _ _ h=>(h.im rfl).symm)
  (fun h1 _ ih _ h=>by obtain⟨a,vs,e,h2,r⟩:=h.tup;cases e;rw[h1]at h2;cases h2;exact ih r)
  (fun h1 _ ih _ h=>by obtain⟨a,vs,G,e,rfl,h2,r⟩:=h.lst;cases e;rw[h1]at h2;cases h2;rw[ih r])
  (fun h1 _ ih _ h=>by obtain⟨a,vs,G,e,rfl,h2,r⟩:=h.dic;cases e;rw[h1]at h2;cases h2;rw[ih r])
  (fun _ _ h=>(h.im rfl).symm) (fun _ _ h=>(h.im rfl).symm) (fun _ _ h=>(h.im rfl).symm) (fun _ _ _ _ h=>(h.im rfl).symm) (fun _ _ h=>(h.im rfl).symm) (fun _ _ _ _ h=>(h.im rfl).symm)
  (fun _ _ _ h=>(h.im rfl).symm) (fun _ _ _ _ h=>(h.im rfl).symm) (fun h1 _ ih _ h=>by obtain⟨vs,G,e,rfl,h2,r⟩:=h.dpp;rw[h1]at h2;cases h2;rw[ih r]) (fun h1 _ ih _ h=>by obtain⟨vs,G,e,rfl,h2,r⟩:=h.lpp;rw[h1]at h2;cases h2;rw[ih r]) (fun _ _ _ _ h=>(h.im rfl).symm)
  (fun h=>by cases h;rfl) (fun _ _ i1 i2 _ h=>by cases h with|cons h2 r2=>rw[i1 h2,i2 r2])
  (fun h=>by cases h;rfl) (fun _ _ i1 i2 _ h=>by cases h with|cons h2 r2=>rw[i1 h2,i2 r2]) h
theorem Rel.IG(r:Rel K dl H₀ hs H σ q F)(e:Evo dl H H'){p:V×T}(hp:p∈hs){Fp:List Addr}(h:Rp K dl H' p.1 p.2 Fp){b:Addr}(hb:H b=none):b ∉ Fp:=fun z=>by
 obtain⟨Fq,h1,_⟩:=r.h p hp;have e1:=(h1.evo r.d e).r.uniq h.r;subst e1;exact i7.no (h1.r.there b z) hb
theorem Rel.jS{i:Nat}{p:Addr}{ws:List V}{xs ys:List T}{G':List Addr}(r:Rel K dl H₀ hs H σ q F)(hi:q[i]? = some (.o (.l xs)))(hv:σ[i]? = some (some (.ref p)))(hF:F i=p::G)(e:Evo dl H H')
  (rs:au K dl H' ws ys G') (hn:G'.Nodup) (hG:∀ b∈G',b∈G\/(H b=none/\Nd dl b)):i8 K dl H₀ hs (upd H' p (.lst ws)) σ (q.set i (.o (.l ys))):=by
 have r':=r.evo e;obtain⟨o1,o2,o3⟩:=r.o i _ hi;obtain⟨v',hv',rp⟩:=r'.g i _ _ hi rfl;rw[hv]at hv';cases hv';obtain⟨p2,vs2,G2,e2,eF,h1,h2⟩:=rp.r.lst;cases e2;rw[hF]at eF;cases eF;rw[hF]at o1;have pG:p ∉ G:=(TB.mp o1).1;have pth:i7 H p:=r.fb (i:=i) (by rw[hF];exact SG)
 have pG':p ∉ G':=fun z=>by
  rcases hG p z with z|z
  ·exact pG z
  ·exact pth.no z.1
 have pn:Nd dl p:=rp.n p (by rw[hF];exact SG)
 have tf:TF H' (upd H' p (.lst ws)):=⟨fun a us h=>(by
  rw[ao];exact h;intro z;subst z;rw[h]at h1;cases h1),fun a ob u h=>(by
  rw[ao];exact h;intro z;subst z;rw[h]at h1;cases h1),fun a φ h=>(by
  rw[ao];exact h;intro z;subst z;rw[h]at h1;cases h1),fun a xs' h=>(by
  by_cases z:a=p
  ·subst z;exact⟨_,ax⟩
  ·exact⟨xs',by rw[ao z];exact h⟩),fun a x h=>⟨x,Uc _,by
  rw[ao];exact h;intro z;subst z;rw[h]at h1;cases h1⟩⟩
 have rs2:au K dl (upd H' p (.lst ws)) ws ys G':=rs.cY tf (fun _ z=>z) fun b hb ob eb=>by
  have ne:b≠p:=by
   intro z;subst z;exact pG' hb
  rw[ao ne];exact eb
 refine⟨_,r'.write (t':=.l ys) (F':=p::G') hi hv (by rw[hF];exact SG) (fun _ _=>⟨_,rfl⟩) ⟨.l ax rs2,fun b hb=>?_⟩ (TB.mpr ⟨pG',hn⟩) fun b hb=>?_⟩
 ·rcases S1.mp hb with z|hb
  ·rw[z];exact pn
  ·rcases hG b hb with z|z
   ·exact rp.n b (by rw[hF];exact SK _ z)
   ·exact z.2
 ·rcases S1.mp hb with z|hb
  ·rw[z,hF];exact .inl SG
  ·rcases hG b hb with z|z
   ·rw[hF];exact .inl (SK _ z)
   ·exact .inr ⟨r.fz z.1,fun j hj=>(r.fb hj).no z.1,fun w u Fp h1 h2=>r.IG e (p:=(w,u)) h2 h1 z.1⟩
def sR(i:Nat)(qe:QE):QS:=fun D q=>match q[i]? with
 | some (.o (.l xs))=>xs.length<S4/\qe q fun t=>D.nx (q.set i (.o (.l (xs ++ [t]))))
 | _=>False
theorem xQ(hK:X.K=K){i:Nat}(ho:PE X o (bb i))(he:PE X e te)(cE:attributeBase o "append" X.env (eval o X.env)=eval o X.env:=by rfl)
  (iT:((backTo aV (SN [e] X.env)).all (fun x=>!x.1)&&(backToKw aV (keywordEach [] X.env)).all (fun x=>x.1.isSome)
   && decide (([e]:List Expr).length+([]:List Keyword).length+(if([]:List Keyword).isEmpty then 0 else 1)<30))=true:=by rfl)
  (cD:(apos.endLine==aV.line)=true:=by rfl) (hs:SN [e] X.env =(false,eval e X.env)::SN [] X.env:=by rfl) (cC:(backTo aV (SN [] X.env)).any (·.1)=false:=by rfl) :
  PE X (.Call (.Attribute o "append" apos) [e] [] aV) (tBM K "list" nG (bb i) (bC te fD)):=by
 subst hK;exact vO PySem.F.plainAttrs_list PySem.F.slot_list_append PySem.F.type_list_append By ho (a9 he c9 hs) cE iT cD hs cC
theorem xf{i:Nat}(he:ig K te qe):ie K (ip (tBM K "list" nG (bb i) (bC te fD))) (sR i qe):=fun dl H₀ hs H σ q Dq D ⟨F,r⟩ hq E=>by
 unfold sR at hq
 split at hq
 ·rename_i xs ei;obtain⟨hz,hq⟩:=hq;obtain⟨v,hv,rp⟩:=r.g i _ _ ei rfl;obtain⟨o1,o2,o3⟩:=r.o i _ ei;obtain⟨p,vs,G,rfl,eF,h1,h2⟩:=rp.r.lst;refine⟨_,hv,.inl ⟨rfl,vs,SqL.of h1⟩,he dl H σ q _ _ r.rd hq fun w t F' H' e1 r1 f1 n1 hz'=>?_⟩
  have pn:Nd dl p:=rp.n p (by rw[eF];exact SG)
  refine⟨p,vs,w,rfl,rfl,e1.k p _ h1 pn (fun _ z=>nomatch z),by rw[h2.len];exact hz,?_⟩
  have hG:∀ b∈G,Nd dl b:=fun b hb=>rp.n b (by rw[eF];exact SK _ hb)
  have rs2:au K dl H' vs xs G:=h2.cY (e1.tf r.d) (fun _ z=>z) fun b hb o eo=>e1.k b o eo (hG b hb) (.of (h2.there b hb) eo)
  refine E.nx _ σ _ (r.jS ei hv eF e1 (rs2.append (.cons r1.r .nil)) ?_ fun b hb=>?_) hz'
  ·rw[Td];rw[eF]at o1;refine T1.mpr ⟨(TB.mp o1).2,n1,fun x hx y hy exy=>?_⟩
   subst exy;exact i7.no (h2.there x hx) (f1 x hy)
  ·rcases SY.mp hb with hb|hb
   ·exact .inl hb
   ·rw[Td]at hb;exact .inr ⟨f1 b hb,r1.n b hb⟩
 ·exact hq.elim
theorem aY{i:Nat}{fE:Pos}(ho:PE X o (bb i))(he:QPF X K e te qe)(hK:X.K=K:=by rfl)(cE:attributeBase o "append" X.env (eval o X.env)=eval o X.env:=by rfl)
  (iT:((backTo aV (SN [e] X.env)).all (fun x=>!x.1)&&(backToKw aV (keywordEach [] X.env)).all (fun x=>x.1.isSome)
   && decide (([e]:List Expr).length+([]:List Keyword).length+(if([]:List Keyword).isEmpty then 0 else 1)<30))=true:=by rfl)
  (cD:(apos.endLine==aV.line)=true:=by rfl) (hs:SN [e] X.env =(false,eval e X.env)::SN [] X.env:=by rfl) (cC:(backTo aV (SN [] X.env)).any (·.1)=false:=by rfl)
  (hsw:swapsWith (.Call (.Attribute o "append" apos) [e] [] aV) none fE.line X.env=pure false:=by rfl) :
  QPS X K (.Expr (.Call (.Attribute o "append" apos) [e] [] aV) fE) (ip (tBM K "list" nG (bb i) (bC te fD))) (sR i qe):=⟨kK (xQ hK ho he.h cE iT cD hs cC) hsw,xf he.s⟩
def sQ(i:Nat)(qe:QE):QS:=fun D q=>match q[i]? with
 | some (.o (.l xs))=>qe q fun t=>match t with
  | .l ys=>xs.length+ys.length<=S4/\D.nx (q.set i (.o (.l (xs++ys))))
  | _=>False
 | _=>False
theorem oO(hK:X.K=K){i:Nat}(ho:PE X o (bb i))(he:PE X e te)(cE:attributeBase o "extend" X.env (eval o X.env)=eval o X.env:=by rfl)
  (iT:((backTo aV (SN [e] X.env)).all (fun x=>!x.1)&&(backToKw aV (keywordEach [] X.env)).all (fun x=>x.1.isSome)
   && decide (([e]:List Expr).length+([]:List Keyword).length+(if([]:List Keyword).isEmpty then 0 else 1)<30))=true:=by rfl)
  (cD:(apos.endLine==aV.line)=true:=by rfl) (hs:SN [e] X.env =(false,eval e X.env)::SN [] X.env:=by rfl) (cC:(backTo aV (SN [] X.env)).any (·.1)=false:=by rfl) :
  PE X (.Call (.Attribute o "extend" apos) [e] [] aV) (tBM K "list" je (bb i) (bC te fD)):=by
 subst hK;exact vO PySem.F.plainAttrs_list PySem.F.slot_list_extend PySem.F.type_list_extend Bx ho (a9 he c9 hs) cE iT cD hs cC
theorem xb{i:Nat}(he:ig K te qe):ie K (ip (tBM K "list" je (bb i) (bC te fD))) (sQ i qe):=fun dl H₀ hs H σ q Dq D ⟨F,r⟩ hq E=>by
 unfold sQ at hq
 split at hq
 ·rename_i xs ei;obtain⟨v,hv,rp⟩:=r.g i _ _ ei rfl;obtain⟨o1,o2,o3⟩:=r.o i _ ei;obtain⟨p,vs,G,rfl,eF,h1,h2⟩:=rp.r.lst;refine⟨_,hv,.inl ⟨rfl,vs,SqL.of h1⟩,he dl H σ q _ _ r.rd hq fun w t F' H' e1 r1 f1 n1 hz'=>?_⟩
  split at hz'
  ·rename_i ys _;obtain⟨p2,ws,G2,rfl,rfl,h3,h4⟩:=r1.r.lst;have pn:Nd dl p:=rp.n p (by rw[eF];exact SG)
   refine⟨p,p2,vs,ws,rfl,rfl,e1.k p _ h1 pn (fun _ z=>nomatch z),h3,by rw[h2.len,h4.len];exact hz'.1,?_⟩
   have hG:∀ b∈G,Nd dl b:=fun b hb=>rp.n b (by rw[eF];exact SK _ hb)
   have rs2:au K dl H' vs xs G:=h2.cY (e1.tf r.d) (fun _ z=>z) fun b hb o eo=>e1.k b o eo (hG b hb) (.of (h2.there b hb) eo)
   refine E.nx _ σ _ (r.jS ei hv eF e1 (rs2.append h4) ?_ fun b hb=>?_) hz'.2
   ·rw[eF]at o1;refine T1.mpr ⟨(TB.mp o1).2,(TB.mp n1).2,fun x hx y hy exy=>?_⟩
    subst exy;exact i7.no (h2.there x hx) (f1 x (SK _ hy))
   ·rcases SY.mp hb with hb|hb
    ·exact .inl hb
    ·exact .inr ⟨f1 b (SK _ hb),r1.n b (SK _ hb)⟩
  ·exact hz'.elim
 ·exact hq.elim
theorem bA{i:Nat}{fE:Pos}(ho:PE X o (bb i))(he:QPF X K e te qe)(hK:X.K=K:=by rfl)(cE:attributeBase o "extend" X.env (eval o X.env)=eval o X.env:=by rfl)
  (iT:((backTo aV (SN [e] X.env)).all (fun x=>!x.1)&&(backToKw aV (keywordEach [] X.env)).all (fun x=>x.1.isSome)
   && decide (([e]:List Expr).length+([]:List Keyword).length+(if([]:List Keyword).isEmpty then 0 else 1)<30))=true:=by rfl)
  (cD:(apos.endLine==aV.line)=true:=by rfl) (hs:SN [e] X.env =(false,eval e X.env)::SN [] X.env:=by rfl) (cC:(backTo aV (SN [] X.env)).any (·.1)=false:=by rfl)
  (hsw:swapsWith (.Call (.Attribute o "extend" apos) [e] [] aV) none fE.line X.env=pure false:=by rfl) :
  QPS X K (.Expr (.Call (.Attribute o "extend" apos) [e] [] aV) fE) (ip (tBM K "list" je (bb i) (bC te fD))) (sQ i qe):=⟨kK (oO hK ho he.h cE iT cD hs cC) hsw,xb he.s⟩
end
variable{to:TE}
section
variable{X:Cx}{K:W.Frag}{hs:List (V×T)}{σ:St}{F:Nat->List Addr}{a b e o c:Expr}{ta tb tk tv:TE}{qa qb qk qv:QE}{pos apos aV:Pos}
theorem au.last:∀{ts:List T}{x:T}{vs:List V}{F:List Addr},au K dl H vs (ts ++ [x]) F->∃ us w F1 F2,vs=us ++ [w]/\au K dl H us ts F1/\aA K dl H w x F2/\F=F1++F2
 | [],x,vs,F,h=>by
  cases h with
  | cons h1 h2 =>
   cases h2;exact⟨[],_,[],_,rfl,.nil,h1,by simp⟩
 | t::ts,x,vs,F,h=>by
  cases h with
  | cons h1 h2 =>
   obtain⟨us,w,F1,F2,rfl,r1,r2,rfl⟩:=au.last h2;exact⟨_::us,w,_,F2,rfl,.cons h1 r1,r2,by rw[Tp]⟩
def K8(i j:Nat):QS:=fun D q=>match q[i]? with
 | some (.o (.l xs))=>∃ ys x,xs=ys ++ [x]/\T.ims xs=true/\i≠j/\D.nx ((q.set i (.o (.l ys))).set j (.o x))
 | _=>False
theorem j7{xs ys:List T}:T.ims (xs++ys) =(T.ims xs&&T.ims ys):=by
 induction xs with
 | nil=>rfl
 | cons x r ih=>show(x.im&&T.ims (r++ys)) =((x.im&&T.ims r)&&T.ims ys);rw[ih,Bool.and_assoc]
theorem GO{i:Nat}:ie K (gD (Cy K "list" KO (bb i)) (fA j)) (K8 i j):=fun dl H₀ hs H σ q Dq D ⟨F,r⟩ hq E=>by
 unfold K8 at hq
 split at hq
 ·rename_i xs ei;obtain⟨ys,x,rfl,him,hij,hq⟩:=hq;obtain⟨v,hv,rp⟩:=r.g i _ _ ei rfl;obtain⟨p,vs,G,rfl,eF,h1,h2⟩:=rp.r.lst;obtain⟨us,w,F1,F2,rfl,r1,r2,rfl⟩:=h2.last;rw[j7,To]at him;obtain rfl:=r1.im him.1;have hx:x.im=true:=by have:=him.2;simpa [T.ims]using this
  obtain rfl:=r2.im hx;refine⟨_,hv,.inl ⟨rfl,_,SqL.of h1⟩,p,_,w,rfl,rfl,h1,by simp,?_⟩
  rw[VS];obtain⟨F3,r3⟩:=r.jS (H':=H) (ws:=us) (ys:=ys) (G':=[]) ei hv eF (.refl r.d) r1 S6 (fun _ z=>nomatch z)
  have tf:aA K dl (upd H p (.lst us)) w x []:=by
   have tf:TF H (upd H p (.lst us)):=⟨fun a us' h=>(by
    rw[ao];exact h;intro z;subst z;rw[h]at h1;cases h1),fun a ob u h=>(by
    rw[ao];exact h;intro z;subst z;rw[h]at h1;cases h1),fun a φ h=>(by
    rw[ao];exact h;intro z;subst z;rw[h]at h1;cases h1),fun a xs' h=>(by
    by_cases z:a=p
    ·subst z;exact⟨_,ax⟩
    ·exact⟨xs',by rw[ao z];exact h⟩),fun a x h=>⟨x,Uc _,by
    rw[ao];exact h;intro z;subst z;rw[h]at h1;cases h1⟩⟩
   exact r2.cY tf (fun _ z=>z) fun _ z=>nomatch z
  exact E.nx _ _ _ (r3.Hq (i:=j) (.refl r3.d) (.c tf) (fun _ z=>nomatch z) S6) hq
 ·exact hq.elim
theorem Dt{i:Nat}(hN:X.N.Nodup)(hi:X.N[j]? = some x)(hx:Loc X.env.scope x)(ho:PE X o (bb i))(hK:X.K=K:=by rfl)(cE:attributeBase o "pop" X.env (eval o X.env)=eval o X.env:=by rfl)(cD:(apos.endLine==aV.line)=true:=by rfl)
  (hs:swapsWith (.Call (.Attribute o "pop" apos) [] [] aV) (some (.Name x pos')) pos.line X.env=pure false:=by rfl) (hf:X.fn x=true\/X.env.scope.names.lookup x=some .local:=by first|exact .inl rfl|exact .inr rfl|assumption) :
  QPS X K (.Assign [.Name x pos'] (.Call (.Attribute o "pop" apos) [] [] aV) pos) (gD (Cy K "list" KO (bb i)) (fA j)) (K8 i j) :=
 ⟨by subst hK;exact iF hN hi hx (xJ PySem.F.plainAttrs_list PySem.F.slot_list_pop PySem.F.type_list_pop Ew ho cE cD) hs hf,GO⟩
def DF(g:Tg)(qe:QE):QS:=fun D q=>qe q fun t=>t.im=true/\∃ q',g.put t q=some q'/\D.nx q'
theorem GK(he:fZ K te qe):ie K (gD te (g.h K)) (DF g qe):=fun dl H₀ hs H σ q Dq D ⟨F,r⟩ hq E=>he dl H σ q _ _ r.rd hq fun v t F' H' e1 r1 ⟨him,q',hq',hz⟩=>by
 obtain rfl:=r1.r.im him;exact xo (r.evo e1) r1 (fun _ _ _ _ _ z=>nomatch z) hq' fun σ' r'=>E.nx _ _ _ r' hz
theorem lQ(he:QPE X K e te qe)(hg:PG X tg (g.h K))(hs:swapsWithSole [tg] e pos.line X.env=pure false:=by rfl)(hw:swappedStores [tg] e X.env=pure none:=by rfl)
  (h1:(assignEach [tg] X.env).map (·.2) = [assign tg X.env]:=by rfl):QPS X K (.Assign [tg] e pos) (gD te (g.h K)) (DF g qe):=⟨oF he.h hg hs hw h1,GK he.s⟩
def Nz(i j:Nat)(qa qb:QE):QS:=fun D q=>qa q fun t=>t.im=true/\qb q fun u=>u.im=true/\D.nx ((q.set i (.o t)).set j (.o u))
theorem GP{i:Nat}(ha:fZ K ta qa)(hb:fZ K tb qb):ie K (Kt i j (bC ta (bC tb fD))) (Nz i j qa qb):=fun dl H₀ hs H σ q Dq D ⟨F,r⟩ hq E=>by
 refine ha dl H σ q _ _ r.rd hq fun v t F1 H1 e1 r1 ⟨m1,hq⟩=>hb dl H1 σ q _ _ (r.rd.evo e1) hq fun w u F2 H2 e2 r2 hPP=>?_
 obtain⟨m2,hq⟩:=hPP;obtain rfl:=r1.r.im m1;obtain rfl:=r2.r.im m2;refine⟨v,w,rfl,?_⟩;obtain⟨F1,R1⟩:=r.Hq (i:=i) (e1.trans e2) (r1.evo e1.d e2) (fun _ z=>nomatch z) S6
 exact E.nx _ _ _ (R1.Hq (.refl R1.d) r2 (fun _ z=>nomatch z) S6) hq
def T.key:T->Option Key
 | .i x=>some (.inl x)
 | .s x=>some (.inr x)
 | _=>none
theorem aA.key{v:V}{t:T}{F:List Addr}{k:Key}(h:aA K dl H v t F)(e:t.key=some k):v=kV k:=by
 cases h <;> first |(cases e;rfl)|cases e
def bS(ks:List (Key×T))(k:Key):Option T:=(ks.find? fun p=>decide (p.1=k)).map (·.2)
def sS(ks:List (Key×T))(k:Key)(t:T):List (Key×T):=if(ks.any fun p=>decide (p.1=k))=true then ks.map (fun p=>if p.1=k then(p.1,t)else p)else ks ++ [(k,t)]
theorem aQ.look{vs:List (Key×V)}{ts:List (Key×T)}{F:List Addr}(k:Key)(h:aQ K dl H vs ts F):(bS ts k=none/\dR vs k=none)\/∃ t v G,bS ts k=some t/\dR vs k=some v/\aA K dl H v t G/\∀ b∈G,b∈F :=
 h.ind (M:=fun vs ts F=>(bS ts k=none/\dR vs k=none)\/∃ t v G,bS ts k=some t/\dR vs k=some v/\aA K dl H v t G/\∀ b∈G,b∈F) (.inl ⟨rfl,rfl⟩) fun k0 v x vs ts F G h r ih=>by
  by_cases e:k0=k
  ·subst e;exact .inr ⟨_,_,_,by simp[bS],by simp[dR],h,fun b hb=>Tj _ hb⟩
  ·rcases ih with⟨h1,h2⟩ |⟨t,v,G,h1,h2,h3,h4⟩
   ·refine .inl ⟨?_,?_⟩
    ·unfold bS at h1 ⊢;rw[TN,decide_eq_false e];exact h1
    ·unfold dR at h2 ⊢;rw[TN,decide_eq_false e];exact h2
   ·refine .inr ⟨t,v,G,?_,?_,h3,fun b hb=>Tc _ (h4 b hb)⟩
    ·unfold bS at h1 ⊢;rw[TN,decide_eq_false e];exact h1
    ·unfold dR at h2 ⊢;rw[TN,decide_eq_false e];exact h2
mutual
def T.imk:List (Key×T)->Bool
 | []=>true
 | (_,x)::r=>x.im&&T.imk r
end
theorem aQ.im{vs:List (Key×V)}{ts:List (Key×T)}{F:List Addr}(h:aQ K dl H vs ts F):T.imk ts=true->F = []:=h.ind (M:=fun _ t F=>T.imk t=true->F = []) (fun _=>rfl) (fun _ _ _ _ _ _ _ h _ ih=>pz h.im ih)
theorem aQ.keys{vs:List (Key×V)}{ts:List (Key×T)}{F:List Addr}(h:aQ K dl H vs ts F)(k:Key):(vs.any fun p=>decide (p.1=k))=ts.any fun p=>decide (p.1=k) :=
 h.ind (M:=fun vs ts _=>(vs.any fun p=>decide (p.1=k))=ts.any fun p=>decide (p.1=k)) rfl fun _ _ _ _ _ _ _ _ _ ih=>by rw[UR,UR,ih]
theorem aQ.put{k:Key}{w:V}{t:T}(hw:aA K dl H w t []):∀{vs:List (Key×V)}{ts:List (Key×T)},aQ K dl H vs ts []->aQ K dl H (putK vs k w) (sS ts k t) []:=by
 have mp:∀{vs:List (Key×V)}{ts:List (Key×T)}{F:List Addr},aQ K dl H vs ts F->F = []->aQ K dl H (vs.map fun p=>if p.1=k then(p.1,w)else p) (ts.map fun p=>if p.1=k then(p.1,t)else p) []:=by
  intro vs ts F h
  induction ts generalizing vs F with
  | nil=>intro _;cases h;exact .nil
  | cons p ts ih =>
   cases h with
   | @cons k0 v x vs _ F1 F2 h1 h2 =>
    intro e;obtain⟨e1,e2⟩:=TU.mp e;subst e1 e2;have z:=ih h2 rfl;rw[Tx,Tx];by_cases e0:k0=k
    ·show aQ K dl H ((if k0=k then(k0,w)else(k0,v))::_) ((if k0=k then(k0,t)else(k0,x))::_) ([] ++ [])
     rw[if_pos e0,if_pos e0];exact .cons hw z
    ·show aQ K dl H ((if k0=k then(k0,w)else(k0,v))::_) ((if k0=k then(k0,t)else(k0,x))::_) ([] ++ [])
     rw[if_neg e0,if_neg e0];exact .cons h1 z
 have sn:∀{vs:List (Key×V)}{ts:List (Key×T)}{F:List Addr},aQ K dl H vs ts F->aQ K dl H (vs ++ [(k,w)]) (ts ++ [(k,t)]) F:=by
  intro vs ts F h
  induction ts generalizing vs F with
  | nil=>cases h;exact .cons (F:=[]) hw .nil
  | cons p ts ih =>
   cases h with
   | cons h1 h2=>exact .cons h1 (ih h2)
 intro vs ts h;unfold putK sS;rw[h.keys k]
 split
 ·exact mp h rfl
 ·exact sn h
theorem Rel.C7{i:Nat}{p:Addr}{ws:List (Key×V)}{xs ys:List (Key×T)}(r:Rel K dl H₀ hs H σ q F)(hi:q[i]? = some (.o (.d xs)))(hv:σ[i]? = some (some (.ref p)))(e:Evo dl H H')
  (rs:aQ K dl H' ws ys []):i8 K dl H₀ hs (upd H' p (.dK ws)) σ (q.set i (.o (.d ys))):=by
 have r':=r.evo e;obtain⟨v',hv',rp⟩:=r'.g i _ _ hi rfl;rw[hv]at hv';cases hv';obtain⟨p2,vs2,G2,e2,eF,h1,h2⟩:=rp.r.dic;cases e2;have pn:Nd dl p:=rp.n p (by rw[eF];exact SG)
 have tf:TF H' (upd H' p (.dK ws)):=⟨fun a us h=>(by
  rw[ao];exact h;intro z;subst z;rw[h]at h1;cases h1),fun a ob u h=>(by
  rw[ao];exact h;intro z;subst z;rw[h]at h1;cases h1),fun a φ h=>(by
  rw[ao];exact h;intro z;subst z;rw[h]at h1;cases h1),fun a xs' h=>(by
  have ne:a≠p:=by
   intro z;subst z;rw[h]at h1;cases h1
  exact⟨xs',by rw[ao ne];exact h⟩),fun a x h=>⟨x,Uc _,by
  rw[ao];exact h;intro z;subst z;rw[h]at h1;cases h1⟩⟩
 have rs2:aQ K dl (upd H' p (.dK ws)) ws ys []:=rs.cY tf (fun _ z=>z) fun _ z=>nomatch z
 exact⟨_,r'.write (t':=.d ys) (F':=[p]) hi hv (by rw[eF];exact SG) (fun xs' h=>by rw[h1]at h;cases h) ⟨.d ax rs2,fun b hb=>by rw[qr.mp hb];exact pn⟩ (by simp) fun b hb=>by rw[qr.mp hb,eF];exact .inl SG⟩
def K7(i:Nat)(qk qv:QE):QS:=fun D q=>match q[i]? with
 | some (.o (.d xs))=>qv q fun t=>qk q fun u=>match u.key with
  | some k=>xs.length<S4/\T.imk xs=true/\t.im=true/\D.nx (q.set i (.o (.d (sS xs k t))))
  | none=>False
 | _=>False
theorem GN{i:Nat}(hk:fZ K tk qk)(hv:fZ K tv qv):ie K (C2 (bb i) tk tv) (K7 i qk qv):=fun dl H₀ hs H σ q Dq D ⟨F,r⟩ hq E=>by
 unfold K7 at hq
 split at hq
 ·rename_i xs ei;refine hv dl H σ q _ _ r.rd hq fun w t F1 H1 e1 r1 hq=>?_
  obtain⟨v,hv',rp⟩:=(r.evo e1).g i _ _ ei rfl;refine⟨v,hv',hk dl H1 σ q _ _ (r.rd.evo e1) hq fun y u F2 H2 e2 r2 hq=>?_⟩
  split at hq
  ·rename_i k ek;obtain⟨hz,hm,ht,hq⟩:=hq;obtain rfl:=r1.r.im ht;have rp2:=rp.evo e1.d e2;obtain⟨p,vs,G,rfl,eF,h1,h2⟩:=rp2.r.dic;obtain rfl:=h2.im hm;rw[r2.r.key ek];exact⟨p,_,rfl,vd.k h1 (by rw[h2.len];exact hz),E.nx _ _ _ (r.C7 ei hv' (e1.trans e2) (aQ.put (r1.evo e1.d e2).r h2)) hq⟩
  ·exact hq.elim
 ·exact hq.elim
theorem KW{i:Nat}(hu:X.A.units+1<cLine)(ho:PE X o (bb i))(hk:QPE X K a tk qk)(hv:QPE X K b tv qv)(hs:swapsWith b (some (.Subscript o a pos')) pos.line X.env=pure false:=by rfl) :
  QPS X K (.Assign [.Subscript o a pos'] b pos) (C2 (bb i) tk tv) (K7 i qk qv):=⟨nH hu ho hk.h hv.h hs,GN hk.s hv.s⟩
def KR(neg:Bool):R2:=fun y x H Q=>∃ a o,x = .ref a/\jb H a y o/\Q (.bl (if neg then !o.isSome else o.isSome)) H
theorem D9(hu:X.A.units+1<cLine):OpR X (compareOp .In) (KR false):=by
 intro gV s σ H y x u v Q I ry rx h;obtain⟨a,o,rfl,g,q⟩:=h;cases rx;exact Sk hu I g ry fun s' I'=>⟨.bl _,H,I',rfl,q⟩
theorem Bl(hu:X.A.units+1<cLine):OpR X (compareOp .NotIn) (KR true):=by
 intro gV s σ H y x u v Q I ry rx h;obtain⟨a,o,rfl,g,q⟩:=h;cases rx;exact Ja hu I g ry fun s' I'=>⟨.bl _,H,I',rfl,q⟩
def Py:T->Option Str
 | .s x=>some x
 | _=>none
abbrev txs:List T->Option (List Str):=picks Py
theorem au.txs{vs:List V}{ts:List T}{F:List Addr}{bs:List Str}(h:au K dl H vs ts F)(e:L2.txs ts=some bs):vs=bs.map V.str :=
 h.picks (f:=Py) (fun v t F a h e=>by cases t <;> first |(cases e;exact h.str.1)|cases e) e
theorem Gw(bs:List Str):txs (bs.map T.s)=some bs:=by
 induction bs with
 | nil=>rfl
 | cons b r ih=>show(txs (r.map T.s)).map (b :: ·)=_;rw[ih];rfl
def NB(qo qe:QE):QE:=fun q Q=>qo q fun s=>match s with
 | .s sep=>qe q fun t=>match t with
  | .l xs=>∃ ys,txs xs=some ys/\(ys.map (·.length)).sum+ys.length*sep.length<=16777216/\Q (.s (Txt.join sep ys))
  | _=>False
 | _=>False
theorem Hi{qo:QE}(ho:QPE X K o to qo)(he:QPE X K e te qe)(hK:X.K=K:=by rfl)(cE:attributeBase o "join" X.env (eval o X.env)=eval o X.env:=by rfl)
  (iT:((backTo aV (SN [e] X.env)).all (fun x=>!x.1)&&(backToKw aV (keywordEach [] X.env)).all (fun x=>x.1.isSome)
   && decide (([e]:List Expr).length+([]:List Keyword).length+(if([]:List Keyword).isEmpty then 0 else 1)<30))=true:=by rfl)
  (cD:(apos.endLine==aV.line)=true:=by rfl) (hs:SN [e] X.env =(false,eval e X.env)::SN [] X.env:=by rfl) (cC:(backTo aV (SN [] X.env)).any (·.1)=false:=by rfl) :
  QPF X K (.Call (.Attribute o "join" apos) [e] [] aV) (tBM K "str" (rJoin K) to (bC te fD)) (NB qo qe):=⟨by
 subst hK;exact vO PySem.F.plainAttrs_str PySem.F.slot_str_join PySem.F.type_str_join Ij ho.h (a9 he.h c9 hs) cE iT cD hs cC,fun dl H σ q Q R rd hq k=>ho.s dl H σ q _ _ rd hq fun v t F H1 e1 r1 hq=>by
  split at hq
  ·obtain⟨rfl,_⟩:=r1.r.str;refine⟨rfl,he.s dl H1 σ q _ _ (rd.evo e1) hq fun w u F2 H2 e2 r2 hq=>?_⟩
   split at hq
   ·obtain⟨ys,hy,hz,hq⟩:=hq;obtain⟨p,vs,G,rfl,eF,h1,h2⟩:=r2.r.lst;have ev:=h2.txs hy;subst ev;exact⟨_,p,ys,rfl,rfl,SqL.of h1,hz,k _ _ [] H2 (e1.trans e2) (.c (.s _)) (fun _ z=>nomatch z) S6 hq⟩
   ·exact hq.elim
  ·exact hq.elim⟩
def JN(i:Nat)(qk qv:QE):QS:=fun D q=>qv q fun t=>match q[i]? with
 | some (.o (.l xs))=>qk q fun u=>match u with
  | .i k=>∃ j,ixN xs.length k=some j/\T.ims xs=true/\t.im=true/\D.nx (q.set i (.o (.l (xs.set j t))))
  | _=>False
 | _=>False
end
def wm(vs ws:List V):Bool:=vs.length==ws.length&&(TR vs.length).all fun j=>match vs[j]?,ws[j]? with|some x,some y=>eqV x y | _,_=>false
variable{its:List Value}
section
variable{X:Cx}{K:W.Frag}
theorem Vals.at'{vs:List V}(r:Vals vs its)(h:j<its.toArray.size):∃ v,vs[j]? = some v/\RelV v its.toArray[j]:=by
 have hl:=r.length;have hj:j<its.length:=by simpa using h
 have hv:j<vs.length:=by omega
 obtain⟨u,h1,h2⟩:=r.get (i:=j) (x:=vs[j]) (by simp[hv])
 have:its[j]? = some its[j]:=by simp[hj]
 rw[this]at h1;cases h1;exact⟨vs[j],by simp[hv],by simpa using h2⟩
theorem nN{vs:List V}{v:V}(h:vs.all cR=true)(e:vs[j]? = some v):cR v=true:=T9.mp h v (RB e)
def Nt(K:W.Frag):R2:=fun x y H Q=>∃ p q vs ws,x = .ref p/\y = .ref q/\((SqL K H p vs/\SqL K H q ws)\/(SqT K H p vs/\SqT K H q ws))/\vs.all cR=true/\ws.all cR=true/\Q (.bl (wm vs ws)) H
theorem LA(hu:X.A.units+1<cLine):OpR X (compareOp .Eq) (Nt X.K):=by
 intro gV s σ H x y v u Q I rx ry h;obtain⟨p,q,vs,ws,rfl,rfl,hs,f1,f2,k⟩:=h;cases rx;cases ry;rcases hs with⟨h1,h2⟩ |⟨h1,h2⟩
 ·obtain⟨its,r1,p1,_⟩:=I.list h1;obtain⟨bJ,r2,p2,_⟩:=I.list h2;have l1:=r1.length;have l2:=r2.length;by_cases hl:its.length=bJ.length
  ·refine SeqAt.eq_listAt (e:=fun j=>match vs[j]?,ws[j]? with|some x,some y=>eqV x y | _,_=>false) p1.isList p2.isList (by simpa using hl) (by omega) (fun j g1 g2=>?_) ⟨.bl _,H,I,rfl,?_⟩
   ·obtain⟨a,ea,ra⟩:=r1.at' g1;obtain⟨b,eb,rb⟩:=r2.at' g2;simp only[ea,eb];exact mz ra rb (nN f1 ea) (nN f2 eb)
   ·have e:wm vs ws =(TR its.toArray.size).all fun j=>match vs[j]?,ws[j]? with|some x,some y=>eqV x y | _,_=>false:=by
     unfold wm;rw[show(vs.length==ws.length)=true from by simp;omega,Bool.true_and,S7,l1]
    rw[<- e];exact k
  ·refine SeqAt.eq_list_lengthsAt p1.isList p2.isList (by simpa using hl) (by omega) ⟨.bl _,H,I,rfl,?_⟩
   have e:wm vs ws=false:=by
    unfold wm;rw[show(vs.length==ws.length)=false from by simp;omega,Bool.false_and]
   rw[<- e];exact k
 ·obtain⟨its,r1,p1,_⟩:=I.tuple h1;obtain⟨bJ,r2,p2,_⟩:=I.tuple h2;have l1:=r1.length;have l2:=r2.length;refine SeqAt.eq_tupleAt (e:=fun j=>match vs[j]?,ws[j]? with|some x,some y=>eqV x y | _,_=>false) (show s.heap.IsTuple p its.toArray from p1) (show s.heap.IsTuple q bJ.toArray from p2) (by omega) (fun j g1 g2=>?_) ⟨.bl _,H,I,rfl,?_⟩
  ·obtain⟨a,ea,ra⟩:=r1.at' g1;obtain⟨b,eb,rb⟩:=r2.at' g2;simp only[ea,eb];exact mz ra rb (nN f1 ea) (nN f2 eb)
  ·have e:wm vs ws =((TR (min its.toArray.size bJ.toArray.size)).all (fun j=>match vs[j]?,ws[j]? with|some x,some y=>eqV x y | _,_=>false)&&its.toArray.size==bJ.toArray.size):=by
    unfold wm;rw[S7,S7,<- l1,<- l2,Bool.and_comm];by_cases hl:vs.length=ws.length
    ·rw[hl,Nat.min_self]
    ·rw[show(vs.length==ws.length)=false from by simpa using hl,VQ,VQ]
   rw[<- e];exact k
def eqF(xs ys:List T):Bool:=wm (xs.map T.v) (ys.map T.v)
def Ho:Q2:=fun t u Q=>match t,u with
 | .l xs,.l ys=>(fls xs&&fls ys)=true/\Q (.b (eqF xs ys))
 | .t xs,.t ys=>(fls xs&&fls ys)=true/\Q (.b (eqF xs ys))
 | t,u=>qEq t u Q
def KQ(K:W.Frag):R2:=fun x y H Q=>rEq x y H Q\/Nt K x y H Q
theorem tG(hu:X.A.units+1<cLine)(hK:X.K=K):OpR X (compareOp .Eq) (KQ K):=by subst hK;exact JW.or (LA hu)
theorem nC:dq K (KQ K) Ho:=by
 intro dl H x y t u F G Q R D r1 r2 hq k;unfold Ho at hq
 split at hq
 ·obtain⟨p,vs,G1,rfl,rfl,h1,h2⟩:=r1.r.lst;obtain⟨p',vs',G2,rfl,rfl,h3,h4⟩:=r2.r.lst;obtain⟨f,hq⟩:=hq;rw[To]at f;obtain⟨rfl,rfl⟩:=h2.vs f.1;obtain⟨rfl,rfl⟩:=h4.vs f.2;exact .inr ⟨p,p',_,_,rfl,rfl,.inl ⟨SqL.of h1,SqL.of h3⟩,pE f.1,pE f.2,k _ _ [] H (.refl D) (.c (.b _)) (fun _ z=>nomatch z) S6 hq⟩
 ·obtain⟨p,vs,rfl,h1,h2⟩:=r1.r.tup;obtain⟨p',vs',rfl,h3,h4⟩:=r2.r.tup;obtain⟨f,hq⟩:=hq;rw[To]at f;obtain⟨rfl,rfl⟩:=h2.vs f.1;obtain⟨rfl,rfl⟩:=h4.vs f.2;exact .inr ⟨p,p',_,_,rfl,rfl,.inr ⟨SqT.of h1,SqT.of h3⟩,pE f.1,pE f.2,k _ _ [] H (.refl D) (.c (.b _)) (fun _ z=>nomatch z) S6 hq⟩
 ·exact .inl (KH dl H x y t u F G Q R D r1 r2 hq k)
end
end L2
namespace PySem
open Sem (wp)
section
variable{prog:Program}{w:World}{A:Around}{E:Value->Shared->Prop}
theorem nc:typeLookup (.type "tuple") "keys" = pure none:=am_miss_of_fast (by decide +kernel)
theorem oX:typeLookup (.type "list") "keys" = pure none:=am_miss_of_fast (by decide +kernel)
set_option maxRecDepth 8000 in
theorem ng{s:Shared}{a:Addr}{o:Obj}{xs:Array Value}{k:Nat}{Q:Option Value->Shared->Prop}
  (hx:s.heap.get? a=some o) (hc:o.cls = .type "tuple") (EX:o.data = .seq xs k) (hd:o.dict=none) (hA:A.handled=none)
  (h:∀ h' tk,(∀ b o,s.heap.get? b=some o->h'.get? b=some o)->Q none { s with heap:=h',toks:=tk }) :
  wpAny (model prog w) A (getAttr? (.ref a) "keys") Q E s:=by
 obtain⟨c,dct,dat,sl⟩:=o;simp only at hc EX hd;subst hc EX hd;obtain⟨hp,g,d,tk,os⟩:=s;have hT:∀ tk',(⟨hp,g,d,tk',os⟩:Shared).TypeIs (.ref a) "tuple":=fun _=>⟨_,hx,rfl⟩
 have f1:=sub_AttributeError;have f3:=F.slot_tuple_getattribute.lookup;have f4:=F.slot_tuple_getattribute.bind (.ref a);have f5:=am_tuple_getattr_none;unfold getAttr? getAttrBy? getAttrBy
 repeat (any_goals (first|assumption|exact hT _ |((with_reducible show wpAny _ _ (call (Value.builtin "tuple.__getattribute__") _ _) _ _ _);refine call_meets F.slot_tuple_getattribute (hT _) am_entry_tuple_getattribute (F.args_tuple_getattribute_2 _ _) (meets_getattribute_miss_tuple a xs k sl "keys" _ nc (by decide +kernel) (by decide +kernel)) ⟨hx,hA,fun h' tk' e hx'=>?_⟩)|wp_step))
 obtain⟨t',u',he⟩:=hx'.there;show wpAny _ _ (getattributeRaised _ _ _ _ _ _ _) _ _ _;unfold getattributeRaised
 repeat (any_goals (first|assumption|wp_step))
 exact h _ _ hx'.keeps
set_option maxRecDepth 8000 in
theorem oW{s:Shared}{a:Addr}{o:Obj}{xs:Array Value}{k:Nat}{Q:Option Value->Shared->Prop}
  (hx:s.heap.get? a=some o) (hc:o.cls = .type "list") (EX:o.data = .seq xs k) (hd:o.dict=none) (hA:A.handled=none)
  (h:∀ h' tk,(∀ b o,s.heap.get? b=some o->h'.get? b=some o)->Q none { s with heap:=h',toks:=tk }) :
  wpAny (model prog w) A (getAttr? (.ref a) "keys") Q E s:=by
 obtain⟨c,dct,dat,sl⟩:=o;simp only at hc EX hd;subst hc EX hd;obtain⟨hp,g,d,tk,os⟩:=s;have hT:∀ tk',(⟨hp,g,d,tk',os⟩:Shared).TypeIs (.ref a) "list":=fun _=>⟨_,hx,rfl⟩
 have f1:=sub_AttributeError;have f3:=F.slot_list_getattribute.lookup;have f4:=F.slot_list_getattribute.bind (.ref a);have f5:=am_list_getattr_none;unfold getAttr? getAttrBy? getAttrBy
 repeat (any_goals (first|assumption|exact hT _ |((with_reducible show wpAny _ _ (call (Value.builtin "list.__getattribute__") _ _) _ _ _);refine call_meets F.slot_list_getattribute (hT _) am_entry_list_getattribute (F.args_list_getattribute_2 _ _) (meets_getattribute_miss_list a xs k sl "keys" _ oX (by decide +kernel) (by decide +kernel)) ⟨hx,hA,fun h' tk' e hx'=>?_⟩)|wp_step))
 obtain⟨t',u',he⟩:=hx'.there;show wpAny _ _ (getattributeRaised _ _ _ _ _ _ _) _ _ _;unfold getattributeRaised
 repeat (any_goals (first|assumption|wp_step))
 exact h _ _ hx'.keeps
end
end PySem
namespace PySem
open Sem (wp)
namespace F
theorem dg:entryFor table "dict.update.loop" = some Builtin.«dict.update.loop»:=entryFor_of_tree (by kernel_rfl)
theorem bf:plainId "dict.update.loop" = true:=by decide +kernel
end F
section
variable{prog:Program}{w:World}{A:Around}{R:Result->Shared->Prop}{I:Addr}{fp wr:List Addr}{n:Nat}{P:Nat->Value->Prop}{St:Nat->Heap->Prop}{κ:Type}[DecidableEq κ]{knd:KeyKind prog w κ}
theorem qF(kvs:List (κ×Value))(k:κ)(v:Value):(stored kvs k v).length<=kvs.length+1:=by
 unfold stored
 split <;> simp
theorem qI(kvs:List (κ×Value)):∀(more:List (κ×Value)),(merged kvs more).length<=kvs.length+more.length:=by
 intro more
 induction more generalizing kvs with
 | nil=>exact S3 _
 | cons p r ih =>
  have h1:=ih (stored kvs p.1 p.2);have h2:=qF kvs p.1 p.2;show(merged (stored kvs p.1 p.2) r).length<=_;simp only[Te];omega
theorem fS(W:Walks prog w A.in1 I fp wr n P St)(S:Addr)(hSf:S ∉ fp)(res:Value)(h0:Heap)(kvs pairs:List (κ×Value))(hsz:kvs.length+pairs.length<=S4)(hnl:pairs.length=n)
  (hp:∀ i v,P i v->∃(a:Addr)(o:Obj)(key val:Value)(k:κ)(m:Nat),v = .ref a/\pairs[i]? = some (k,val)/\knd.is k key=true/\h0.get? a=some o/\o.cls = .type "tuple" /\ o.data = .seq #[key,val] m/\a ∉ wr/\a≠S) :
  ∀(j i:Nat)(s:Shared),n - i=j->i<=n->St i s.heap->s.heap.DictOf knd S (merged kvs (pairs.take i)) ->(∀ b o,b ∉ wr->b≠S->h0.get? b=some o->s.heap.get? b=some o) ->
  (∀ h' tk,(∀ b o,b ∉ wr->b≠S->s.heap.get? b=some o->h'.get? b=some o)->h'.DictOf knd S (merged kvs pairs)->R (.ok (.ret res)) { s with heap:=h',toks:=tk }) ->
  codeAny (model prog w) A (.builtin "dict.update.loop" ⟨[.ref S,.ref I,rawInt i,res],[]⟩) R s:=by
 have hSw:S ∉ wr:=fun h=>hSf (W.sub _ h)
 intro j
 induction j with
 | zero =>
  intro i s hk hi hst hS hk0 hR;have hin:i=n:=by omega
  subst hin;refine Ui F.dg ?_;rw[T6 F.bf _];show wpAny _ A.in1 (pyNext (.ref I) >>= _) _ _ s;refine j0 (W.done s _ _ hst fun h' tk hk'=>?_)
  show wpAny _ A.in1 (Builtin.Dict.addKeywords S [] >>= _) _ _ _;refine j0 (M7 (M7 (hR h' tk (fun b o hb _ e=>hk' b o hb e) ?_)))
  rw[<- hnl,Tb]at hS;obtain⟨o,es,ep,ho,r⟩:=hS;exact⟨o,es,ep,hk' S o hSw ho,r⟩
 | succ j ih =>
  intro i s hk hi hst hS hk0 hR;have hlt:i<n:=by omega
  refine Ui F.dg ?_;rw[T6 F.bf _];show wpAny _ A.in1 (pyNext (.ref I) >>= _) _ _ s;refine j0 (W.item i s _ _ hlt hst fun v h' tk hP ES hk'=>?_)
  obtain⟨a,o,key,val,k,m,rfl,hpi,BN,ho,hc,hd,haw,haS⟩:=hp i v hP;have ho':h'.get? a=some o:=hk' a o haw (hk0 a o haw haS ho);have hS':h'.DictOf knd S (merged kvs (pairs.take i)):=by
   obtain⟨o,es,ep,ho,r⟩:=hS;exact⟨o,es,ep,hk' S o hSw ho,r⟩
  show wpAny _ A.in1 (holding [Value.ref a] _ >>= _) _ _ _;refine j0 (TY ?_);refine j0 (wpAny_tryCatch ?_);unfold Builtin.Dict.pairItems;refine j0 (Uo (T:="tuple") ⟨o,ho',hc⟩ ?_);rw[if_pos (by decide)]
  refine j0 (wpAny_seqItems ho' hd (M7 ?_));show wpAny _ A.in1 (holding [key,val] (dictSet S key val)) _ _ _;have hml:(merged kvs (pairs.take i)).length<=S4:=by
   have h1:=qI kvs (pairs.take i);rw[Ti]at h1;omega
  refine TY (wpAny_dictSet_pairs (hsz:=hml) BN hS' fun h'' IJ hsb=>?_)
  have e:=merged_take_succ kvs pairs i (k,val) hpi;rw[<- e]at IJ;have fr:∀ b o,b≠S->h'.get? b=some o->h''.get? b=some o:=fun b o hb eb=>(hsb.2 b hb).trans eb
  refine M7 ⟨Uv F.bf _,ih (i+1) _ (by omega) hlt (W.frame _ _ _ ES fun b hb o eb=>fr b o (fun z=>hSf (z▸hb)) eb) IJ (fun b o hb hbS eb=>fr b o hbS (hk' b o hb (hk0 b o hb hbS eb))) fun h3 tk3 hk3 hS3=>?_⟩
  exact hR h3 tk3 (fun b o hb hbS eb=>hk3 b o hb hbS (fr b o hbS (hk' b o hb eb))) hS3
end
end PySem
namespace PySem
open Sem (wp)
section
variable{prog:Program}{w:World}{A:Around}{E:Value->Shared->Prop}{s:Shared}{κ:Type}[DecidableEq κ]{knd:KeyKind prog w κ}
theorem f7{S p:Addr}{its:Array Value}{kvs pairs:List (κ×Value)}{id:String}{res:Value}{R:Result->Shared->Prop}(hh:A.handled=none)(hS:s.heap.DictOf knd S kvs)(hpS:p≠S)
  (ho:∃(o:Obj)(n:Nat),s.heap.get? p=some o/\o.dict=none/\o.data = .seq its n/\(o.cls = .type "tuple" \/ o.cls = .type "list")) (hsz:kvs.length+pairs.length<=S4) (hnl:pairs.length=its.size)
  (hp:∀(i:Nat)(v:Value),its[i]? = some v->∃(a:Addr)(o:Obj)(key val:Value)(k:κ)(m:Nat),v = .ref a/\pairs[i]? = some (k,val)/\knd.is k key=true/\s.heap.get? a=some o/\o.cls = .type "tuple" /\ o.data = .seq #[key,val] m)
  (hR:∀ h' tk,(∀ b o,b≠S->s.heap.get? b=some o->h'.get? b=some o)->h'.DictOf knd S (merged kvs pairs)->R (.ok (.ret res)) { s with heap:=h',toks:=tk }) :
  wpAny (model prog w) A.in1 (Builtin.Dict.updateFrom id S (.ref p) [] res) (fun fin s'=>match fin with | .done f=>R (.ok f) s' | .again c'=>c'.quiet=true/\codeAny (model prog w) A c' R s') (fun e s'=>R (.error e) s') s:=by
 obtain⟨o,n,hg,hdn,hdt,hcl⟩:=ho;have SR:p<s.heap.objs.size:=Sy hg;have SX:S<s.heap.objs.size:=by obtain⟨_,_,_,e,_⟩:=hS;exact Sy e
 have fin:∀(h1:Heap)(tk:Nat)(h2:Heap)(I:Addr)(St:Nat->Heap->Prop),(∀ b o,s.heap.get? b=some o->h1.get? b=some o) ->(∀ b o,h1.get? b=some o->h2.get? b=some o)->h1.objs.size<=I->Walks prog w A.in1 I [I,p] [I] its.size (fun i v=>its[i]? = some v) St->St 0 h2 ->
   codeAny (model prog w) A (.builtin "dict.update.loop" ⟨[.ref S,.ref I,rawInt 0,res],[]⟩) R { s with heap:=h2,toks:=tk }:=by
  intro h1 tk h2 I St k1 k2 hI W hst;have lt1:∀ b o,s.heap.get? b=some o->b≠I:=fun b o e z=>by
   have:b<h1.objs.size:=Sy (k1 b o e)
   exact absurd (Tq this hI) (by rw[z];exact Um _)
  have hSI:S ∉ [I,p]:=fun z=>by
   obtain⟨o,_,_,e,_⟩:=hS;rcases S1.mp z with z|z
   ·exact lt1 S o e z
   ·exact hpS (qr.mp z).symm
  refine fS (knd:=knd) W S hSI res s.heap kvs pairs hsz hnl (fun i v hP=>?_) its.size 0 _ rfl (TX _) hst ?_ (fun b o _ _ e=>k2 b o (k1 b o e)) fun h' tk' hk hS'=>?_
  ·obtain⟨a,oa,key,val,k,m,e1,e2,e3,e4,e5,e6⟩:=hp i v hP;refine⟨a,oa,key,val,k,m,e1,e2,e3,e4,e5,e6,fun z=>lt1 a oa e4 (qr.mp z),fun z=>?_⟩
   obtain⟨o,_,_,e,hc,hd,_⟩:=hS;rw[<- z,e4]at e;cases e;rw[e6]at hd;cases hd
  ·obtain⟨o,es,ep,e,r⟩:=hS;exact⟨o,es,ep,k2 _ _ (k1 _ _ e),r⟩
  ·exact hR h' tk' (fun b o hb e=>hk b o (fun z=>lt1 b o e (qr.mp z)) hb (k2 b o (k1 b o e))) hS'
 unfold Builtin.Dict.updateFrom;rcases hcl with hcl|hcl
 ·refine j0 (Uo (T:="tuple") ⟨o,hg,hcl⟩ ?_);rw[if_pos (by decide)]
  refine j0 (ng hg hcl hdt hdn hh fun h1 tk k1=>?_)
  rw[if_pos (show(none:Option Value).isNone=true from rfl)];refine j0 (Uz ?_);have hT:h1.IsTuple p its:=⟨o,k1 _ _ hg,hcl,n,hdt⟩;refine j0 (wpAny_pyIter_tuple hT ?_);refine M7 ⟨Uv F.bf _,?_⟩;exact fin h1 tk _ h1.objs.size _ k1 (fun b o e=>j5 _ e) (S3 _) (Walks.tuple (show A.in1.handled=none from hh) _ p (Tf (Sy (k1 _ _ hg))) its) ⟨⟨_,S2 _ rfl,rfl,rfl⟩,hT.push _⟩
 ·refine j0 (Uo (T:="list") ⟨o,hg,hcl⟩ ?_);rw[if_pos (by decide)]
  refine j0 (oW hg hcl hdt hdn hh fun h1 tk k1=>?_)
  rw[if_pos (show(none:Option Value).isNone=true from rfl)];refine j0 (Uz ?_);have hT:h1.IsList p its:=⟨o,k1 _ _ hg,hcl,n,hdt⟩;refine j0 (wpAny_pyIter_list hT ?_);refine M7 ⟨Uv F.bf _,?_⟩;exact fin h1 tk _ h1.objs.size _ k1 (fun b o e=>j5 _ e) (S3 _) (Walks.list (show A.in1.handled=none from hh) _ p (Tf (Sy (k1 _ _ hg))) its) ⟨⟨_,S2 _ rfl,rfl,rfl⟩,hT.push _⟩
end
end PySem
namespace L2
open PySem PySem.Spec PyProof.Rows
variable{gV:List (Addr×Obj)}{H:Hp}{a:Addr}
section
variable{X:Cx}{K:W.Frag}
theorem Inv.Kq{σ:St}{s:Shared}{xs:List V}(I:Inv X gV σ H s)(h:H a=some (.tup xs)):∃ its:List Value,Vals xs its/\kr s.heap a its.toArray/\xs.length<=S4:=by
 obtain⟨z,its,r,p⟩:=(show a5 X.prog X.w H s.heap a (.tup xs)from I.hok a _ h);exact⟨its,r,p,z⟩
theorem vP{σ:St}{s:Shared}(I:Inv X gV σ H s):∀{ps:List Addr}{kvs:List (Key×V)}{us:List Value},Vals (ps.map V.ref) us->ps.length=kvs.length ->(∀(i:Nat)(p:Addr)(kv:Key×V),ps[i]? = some p->kvs[i]? = some kv->H p=some (.tup [kV kv.1,kv.2])) ->
  ∃ pairs:List (Key×Value),KV kvs pairs/\∀(i:Nat)(v:Value),us[i]? = some v->∃(a:Addr)(o:Obj)(key val:Value)(k:Key)(m:Nat),v = .ref a/\pairs[i]? = some (k,val)/\(bh X.prog X.w).is k key=true/\s.heap.get? a=some o/\o.cls = .type "tuple" /\ o.data = .seq #[key,val] m:=by
 intro ps
 induction ps with
 | nil =>
  intro kvs us r hl _;have e:kvs = []:=by cases kvs with|nil=>rfl|cons _ _=>simp at hl
  subst e;cases r;exact⟨[],.nil,fun i v h=>by simp at h⟩
 | cons p ps ih =>
  intro kvs us r hl h;cases kvs with
  | nil=>simp at hl
  | cons kv kvs =>
   cases r with
   | @cons _ u _ us r1 r2 =>
    obtain⟨pairs,h1,h2⟩:=ih (kvs:=kvs) (us:=us) r2 (by simpa using hl) fun i p kv e1 e2=>h (i+1) p kv (by simpa using e1) (by simpa using e2)
    have hp:=h 0 p kv (by simp) (by simp)
    obtain⟨its,ri,⟨o,ho,hc,m,hd⟩,_⟩:=I.tuple (SqT.of (K:=X.K) hp);cases ri with
    | @cons _ key _ rest k1 k2 =>
     cases k2 with
     | @cons _ val _ SD k3 k4 =>
      cases k4;refine⟨(kv.1,val)::pairs,.cons ⟨rfl,k3⟩ h1,fun i v hv=>?_⟩
      cases i with
      | zero =>
       simp at hv;subst hv
       cases(show u=Value.ref p from r1)
       exact⟨p,o,key,val,kv.1,m,rfl,by simp,mV k1,ho,hc,hd⟩
      | succ i =>
       obtain⟨a,oa,RK,Rc,k,m',e1,e2,e3⟩:=h2 i v (by simpa using hv)
       exact⟨a,oa,RK,Rc,k,m',e1,by simpa using e2,e3⟩
def sJ:List V->Hp->VK->Prop:=fun xs H Q=>∃(p:Addr)(ps:List Addr)(kvs:List (Key×V)),xs = [.ref p]/\(H p=some (.tup (ps.map V.ref))\/H p=some (.lst (ps.map V.ref)))/\ps.length=kvs.length /\
 (∀(i:Nat)(a:Addr)(kv:Key×V),ps[i]? = some a->kvs[i]? = some kv->H a=some (.tup [kV kv.1,kv.2]))/\∀ d,H d=none->Q (.ref d) (upd H d (.dK (da [] kvs)))
theorem bW(hc:X.calm=true):cI X (.type "dict") sJ:=by
 intro gV s σ H xs us Q I r h;obtain⟨p,ps,kvs,rfl,hp,hl,hps,q⟩:=h;obtain⟨u,rfl,ru⟩:=vals1 r;cases ru;have hh:X.A.handled=none:=I.ok.hd hc;obtain⟨its,rv,hz,ob⟩:∃ its:List Value,Vals (ps.map V.ref) its/\(ps.map V.ref).length<=S4/\∃(o:Obj)(n:Nat),s.heap.get? p=some o/\o.dict=none/\o.data = .seq its.toArray n/\(o.cls = .type "tuple" \/ o.cls = .type "list"):=by
  rcases hp with hp|hp
  ·obtain⟨its,rv,⟨⟨o,ho,h1,n,h2⟩,o',ho',h3⟩,hz⟩:=I.Kq hp;rw[ho]at ho';cases ho';exact⟨its,rv,hz,o,n,ho,h3,h2,.inl h1⟩
  ·obtain⟨hz,its,n,rv,e⟩:=(show a5 X.prog X.w H s.heap p (.lst (ps.map V.ref))from I.hok p _ hp);exact⟨its,rv,hz,_,n,e,rfl,rfl,.inr rfl⟩
 obtain⟨pairs,kv,yg⟩:=vP I rv hl hps;refine callType_codes (Q₁:=fun obj s₁=>obj = .ref s.heap.objs.size/\s₁ ={ s with heap:=s.heap.push { cls:=.type "dict",data:=.dict #[] } }) F.kt_called_dict (F.kt_typeCall_dict_1 _) F.entry_dict_init (kt_code_dict_new _ ⟨rfl,rfl⟩) ?_
 rintro obj s₁ ⟨rfl,rfl⟩
 have yh:(s.heap.push { cls:=.type "dict",data:=.dict #[] }).DictOf (bh X.prog X.w) s.heap.objs.size []:=Heap.DictOf.new s.heap;refine⟨yh.typeIs,F.args_dict_init_2 _ _,?_⟩;unfold Builtin.«dict.__init__»;refine j0 ?_;unfold Builtin.Dict.selfAndRest;refine j0 (wpAny_notOrdered_dict yh.typeIs ?_);show wpAny _ _ (pure (s.heap.objs.size,[Value.ref p])) _ _ _;refine M7 ?_;show wpAny _ _ (Builtin.Dict.updateFrom "dict.__init__" s.heap.objs.size (.ref p) [] .none) _ _ _;obtain⟨o,n,ho,hdn,hdt,hcl⟩:=ob;have hlv:=rv.length;rw[j3]at hlv hz;have hkl:=kv.length;refine f7 (A:=X.A.in1) (knd:=bh X.prog X.w) (kvs:=[]) (pairs:=pairs) (its:=its.toArray) hh yh (Tf (Sy ho)) ⟨o,n,j5 _ ho,hdn,hdt,hcl⟩ (by simp only[Ur];omega) (by rw[S7];omega) (fun i v hv=>?_) fun h' tk hk hd=>?_
 ·obtain⟨a,oa,key,val,k,m,e1,e2,e3,e4,e5,e6⟩:=yg i v (by simpa using hv)
  exact⟨a,oa,key,val,k,m,e1,e2,e3,j5 _ e4,e5,e6⟩
 ·refine⟨rfl,.ref s.heap.objs.size,_,I.laid (t':=tk) (h':=h') (a:=s.heap.objs.size) (o:=.dK (da [] kvs)) (fun b u e=>hk b u (Tf (Sy e)) (j5 _ e)) (S3 _) ?_,rfl,q _ (I.hok.fresh (S3 _))⟩
  refine pJ ?_ ?_ (KV.merge kv .nil) hd
  ·have:=dI kvs []
   simp only[Ur]at this;omega
  ·have:=I.big
   exact beq_eq_false_iff_ne.mpr (T8 this)
end
def du:List T->Option (List (Key×T))
 | []=>some []
 | .t [k,x]::r=>match k.key,du r with
  | some k,some r=>some ((k,x)::r)
  | _,_=>none
 | _=>none
def b7(ks more:List (Key×T)):List (Key×T):=more.foldl (fun acc p=>sS acc p.1 p.2) ks
section
variable{X:Cx}{K:W.Frag}{dl:Dl}
theorem au.pairs:∀{vs:List V}{xs:List T}{F:List Addr}{kts:List (Key×T)},au K dl H vs xs F->F = []->du xs=some kts ->
  ∃(ps:List Addr)(kvs:List (Key×V)),vs=ps.map V.ref/\ps.length=kvs.length/\(∀(i:Nat)(a:Addr)(kv:Key×V),ps[i]? = some a->kvs[i]? = some kv->H a=some (.tup [kV kv.1,kv.2]))/\aQ K dl H kvs kts []
 | _,_,_,kts,.nil,_,h=>by
  cases h;exact⟨[],[],rfl,rfl,fun i a kv h=>by simp at h,.nil⟩
 | _,x::xs,_,kts,.cons (F:=F1) h r,e,q=>by
  obtain⟨e1,e2⟩:=TU.mp e;unfold du at q
  split at q
  ·rename_i z;cases z
  ·rename_i k y r' z;cases z
   split at q
   ·rename_i k0 r0 ek er;cases q;obtain⟨ps,kvs,rfl,hl,ht,hk⟩:=au.pairs r e2 er;obtain⟨a,ws,rfl,ha,hws⟩:=h.tup;cases hws with
    | @cons w1 _ _ _ G1 G2 w1r w2r =>
     cases w2r with
     | @cons w2 _ _ _ G3 G4 h2 h3 =>
      cases h3;have e3:=w1r.key ek;subst e3;obtain⟨z1,z2⟩:=TU.mp e1;rw[Td]at z2;subst z1 z2;refine⟨a::ps,(k0,w2)::kvs,rfl,by simp[hl],fun i b kv h1 h2=>?_,.cons (F:=[]) h2 hk⟩
      cases i with
      | zero =>
       simp at h1 h2;subst h1 h2;exact ha
      | succ i=>exact ht i b kv (by simpa using h1) (by simpa using h2)
   ·cases q
  ·cases q
theorem aQ.b7{kvs':List (Key×V)}{kts':List (Key×T)}{kvs:List (Key×V)}{kts:List (Key×T)}{F:List Addr}(h:aQ K dl H kvs kts F):F = []->∀{vs:List (Key×V)}{ts:List (Key×T)},aQ K dl H vs ts []->aQ K dl H (da vs kvs) (L2.b7 ts kts) [] :=
 h.ind (M:=fun kvs kts F=>F = []->∀{vs:List (Key×V)}{ts:List (Key×T)},aQ K dl H vs ts []->aQ K dl H (da vs kvs) (L2.b7 ts kts) []) (fun _ _ _ h=>h) fun _ _ _ _ _ _ _ h1 _ ih e _ _ h=>by
  obtain⟨e1,e2⟩:=TU.mp e;subst e1;exact ih e2 (aQ.put h1 h)
def zq:QC:=fun ts Q=>match ts with
 | [.t xs]=>T.ims xs=true/\∃ kts,du xs=some kts/\Q (.d (b7 [] kts))
 | [.l xs]=>T.ims xs=true/\∃ kts,du xs=some kts/\Q (.d (b7 [] kts))
 | _=>False
theorem cA:qd K sJ zq:=by
 intro dl H vs ts F Q R D r hq k;have go:∀(p:Addr)(ws:List V)(xs:List T),vs = [.ref p] ->(H p=some (.tup ws)\/H p=some (.lst ws))->au K dl H ws xs [] ->(∃ kts,du xs=some kts/\Q (.d (b7 [] kts)))->sJ vs H R:=by
  rintro p ws xs rfl hp rs ⟨kts,e,hq⟩
  obtain⟨ps,kvs,rfl,hl,ht,hk⟩:=rs.pairs rfl e;refine⟨p,ps,kvs,rfl,hp,hl,ht,fun d hd=>?_⟩
  have ev:=(Evo.refl D).new (o:=.dK (da [] kvs)) hd;have h2:aQ K dl H (da [] kvs) (b7 [] kts) []:=aQ.b7 (kvs':=[]) (kts':=[]) hk rfl .nil;exact k _ _ [d] _ ev ⟨.d ax (h2.cY (ev.tf D) (fun _ z=>z) fun _ z=>nomatch z),fun b hb=>by rw[qr.mp hb];exact D.nd0 hd⟩ (fun b hb=>by rw[qr.mp hb];exact hd) (by simp) hq
 unfold zq at hq
 split at hq
 ·obtain⟨v,rfl,r'⟩:=r.one;obtain⟨p,ws,rfl,h1,h2⟩:=r'.r.tup;have e:=h2.im hq.1;subst e;exact go p ws _ rfl (.inl h1) h2 hq.2
 ·obtain⟨v,rfl,r'⟩:=r.one;obtain⟨p,ws,G,rfl,_,h1,h2⟩:=r'.r.lst;have e:=h2.im hq.1;subst e;exact go p ws _ rfl (.inr h1) h2 hq.2
 ·exact hq.elim
end
variable{j:Nat}{x:Str}{py:Pos}{P:Program}{mg:Str->Option Value}{base:Heap}{fd:FuncData}{ps:List Str}
section
variable{X:Cx}{K:W.Frag}{a b:Expr}{ta tb:TE}{qa qb:QE}{pos:Pos}
theorem KY{i:Nat}{y:Str}{px pt:Pos}{kt k2 pt2}(hc:X.calm=true)(hN:X.N.Nodup)(hi:X.N[i]? = some x)(hj:X.N[j]? = some y)(hij:i≠j)
  (hx:X.env.scope.names.lookup x=some .local) (hy:X.env.scope.names.lookup y=some .local) (ha:QPE X K a ta qa) (hb:QPE X K b tb qb)
  (hw:swappedStores [.Tuple [.Name x px,.Name y py] kt pt] (.Tuple [a,b] k2 pt2) X.env=pure (some [x,y]))
  (hs:swapsWithSole [.Tuple [.Name x px,.Name y py] kt pt] (.Tuple [a,b] k2 pt2) pos.line X.env=pure false:=by rfl)
  (h1:SN [a,b] X.env =(false,eval a X.env)::SN [b] X.env:=by rfl) (h2:SN [b] X.env =(false,eval b X.env)::SN [] X.env:=by rfl) :
  QPS X K (.Assign [.Tuple [.Name x px,.Name y py] kt pt] (.Tuple [a,b] k2 pt2) pos) (Kt i j (bC ta (bC tb fD))) (Nz i j qa qb) :=
 ⟨Lh hc hN hi hj hij hx hy (a9 ha.h (a9 hb.h c9 h2) h1) hw hs,GP ha.s hb.s⟩
def lY:PSp:=fun ts Q=>match ts with
 | [.cZ,.i m]=>0<m/\m<18446744073709551616/\∀ r,0<=r->r<m->Q (.i r)
 | _=>False
theorem kc{w:World}{K:W.Frag}{k:Nat}{f:Addr}(F:a8 P w K mg base CX0 k f fd ps CB):a8 P w K mg base CX0 k f fd ps (spQ K lY):=by
 refine F.imp fun vs H Q E h=>?_
 obtain⟨dl,ts,Fp,Qp,D,r,h,fin⟩:=h;unfold lY at h
 split at h
 ·obtain⟨v,w',F1,F2,rfl,r1,r2⟩:=r.two;obtain⟨a,l,rfl,hm,_⟩:=r1.r.dea;obtain⟨rfl,_⟩:=r2.r.int;refine⟨a,l,_,rfl,D _ hm,h.1,h.2.1,fun r H' r0 r1' D' K'=>fin _ _ [] H' ⟨fun b o e n _=>K' b o e (n _ hm).1 (n _ hm).2,fun p hp=>?_,fun b x e=>⟨x,Uc _,by
   obtain⟨s2,n2,l2,Q2⟩:=D _ hm;exact K' b _ e (iJ e Q2.hd (fun z=>nomatch z)) (iJ e Q2.hl (fun z=>nomatch z))⟩⟩ (.c (.i _)) (fun _ z=>nomatch z) S6 (h.2.2 r r0 r1')⟩
  by_cases e:p =(a,l)
  ·rw[e];exact D'
  ·obtain⟨s1,n1,l1,Q1⟩:=D p hp;obtain⟨s2,n2,l2,Q2⟩:=D _ hm;obtain⟨s3,n3,l3,Q3⟩:=D';have pa:p.1≠a:=fun z=>by
    have z1:=Q1.hd;have z2:=Q2.hd;rw[z]at z1;rw[z1]at z2;have z3:dk s1 n1 p.2=dk s2 n2 l:=by injection (Option.some.inj z2)
    have z4:=congrArg (fun kv=>dR kv (.inr "left":Key)) z3
    simp only[z6]at z4;exact e (Prod.ext z (V.ref.inj (Option.some.inj z4)))
   have pl:p.1≠l:=iJ Q1.hd Q2.hl (fun z=>nomatch z)
   have p2a:p.2≠a:=iJ Q1.hl Q2.hd (fun z=>nomatch z)
   by_cases p2l:p.2=l
   ·exact⟨s1,n1,l3,K' _ _ Q1.hd pa pl,by rw[p2l];exact Q3.hl,Q1.s0,Q1.s1,Q1.n0,Q3.l0⟩
   ·exact⟨s1,n1,l1,K' _ _ Q1.hd pa pl,K' _ _ Q1.hl p2a p2l,Q1.s0,Q1.s1,Q1.n0,Q1.l0⟩
 ·exact h.elim
end
section
variable{X:Cx}{K:W.Frag}{a b c e o:Expr}{ta tb tk tv te:TE}{qa qb qk qv qe:QE}{pos pos':Pos}
theorem au.set{dl:Dl}{H:Hp}{w:V}{t:T}(hw:aA K dl H w t []):∀{vs:List V}{xs:List T}{F:List Addr}(j:Nat),au K dl H vs xs F->F = []->au K dl H (vs.set j w) (xs.set j t) []
 | _,_,_,_,.nil,_=>.nil
 | _,_,_,0,.cons h r,e=>by
  obtain⟨e1,e2⟩:=TU.mp e;subst e1 e2;exact .cons (F:=[]) hw r
 | _,_,_,j+1,.cons h r,e=>by
  obtain⟨e1,e2⟩:=TU.mp e;subst e1 e2;exact .cons (F:=[]) h (au.set hw j r rfl)
theorem CO{i:Nat}(hk:fZ K tk qk)(hv:fZ K tv qv):ie K (gD tv (ym (bb i) tk vz)) (JN i qk qv):=fun dl H₀ hs H σ q Dq D ⟨F,r⟩ hq E=>by
 refine hv dl H σ q _ _ r.rd hq fun w t F1 H1 e1 r1 hq=>?_
 split at hq
 ·rename_i xs ei;obtain⟨v,hv',rp⟩:=(r.evo e1).g i _ _ ei rfl;refine⟨v,hv',hk dl H1 σ q _ _ (r.rd.evo e1) hq fun y u F2 H2 e2 r2 hq=>?_⟩
  split at hq
  ·obtain⟨j,hj,hm,ht,hq⟩:=hq;obtain⟨rfl,_⟩:=r2.r.int;obtain rfl:=r1.r.im ht;have rp2:=rp.evo e1.d e2;obtain⟨p,vs,G,rfl,eF,h1,h2⟩:=rp2.r.lst;have eG:=h2.im hm;subst eG;refine⟨p,vs,_,j,rfl,rfl,h1,by rw[h2.len];exact hj,?_⟩
   exact E.nx _ _ _ (r.jS ei hv' eF (e1.trans e2) (au.set (r1.evo e1.d e2).r j h2 rfl) S6 fun _ z=>nomatch z) hq
  ·exact hq.elim
 ·exact hq.elim
theorem G9{i:Nat}(ho:PE X o (bb i))(hk:QPE X K a tk qk)(hv:QPE X K b tv qv)(hs:swapsWithSole [.Subscript o a pos'] b pos.line X.env=pure false:=by rfl)(hw:swappedStores [.Subscript o a pos'] b X.env=pure none:=by rfl)
  (h1:(assignEach [.Subscript o a pos'] X.env).map (·.2) = [assign (.Subscript o a pos') X.env]:=by rfl)
  (ha:∀ v,assign (.Subscript o a pos') X.env v =(do
   let ov <- holding [v] (eval o X.env)
   let iv <- holding [v,ov] (eval a X.env)
   standAt pos'
   holding [v,ov,iv] (setItem ov iv v)
   release [v,ov,iv] []):=by intro _;rfl):QPS X K (.Assign [.Subscript o a pos'] b pos) (gD tv (ym (bb i) tk vz)) (JN i qk qv) :=
 ⟨oF hv.h (xG ho hk.h set_list ha) hs hw h1,CO hk.s hv.s⟩
end
variable{elts:List Expr}{pos':Pos}{t1:Bool}{t2:Bool}
section
variable{X:Cx}{K:W.Frag}{dl:Dl}
def kz(xs ys:List T):List T:=(xs.zip ys).map fun p=>.t [p.1,p.2]
theorem Gs{xs ys:List T}{i:Nat}{z:T}(h:(kz xs ys)[i]? = some z):∃ x y,xs[i]? = some x/\ys[i]? = some y/\z = .t [x,y]:=by
 unfold kz at h;rw[L7]at h;obtain⟨p,hp,rfl⟩:=QX.mp h;rw[Ut]at hp;exact⟨p.1,p.2,hp.1,hp.2,rfl⟩
theorem ky{xs ys:List T}:(kz xs ys).length=min xs.length ys.length:=by simp[kz]
theorem L6{b:Addr}{xs ys:List T}:uW K dl (Itz K true true a b) (kz xs ys) [(.ref a,.t xs),(.ref b,.t ys)] where
 go:=fun H i D h hi=>by
  obtain⟨F,r⟩:=h (.ref a,.t xs) (by simp)
  obtain⟨F',r'⟩:=h (.ref b,.t ys) (by simp)
  obtain⟨p,vs,e,h1,h2⟩:=r.r.tup;cases e;obtain⟨p',vs',e',h1',h2'⟩:=r'.r.tup;cases e';rw[ky]at hi;have l1:i<vs.length:=by rw[h2.len];omega
  have l2:i<vs'.length:=by rw[h2'.len];omega
  exact⟨vs,vs',vs[i],vs'[i],SqT.of h1,SqT.of h1',by simp[l1],by simp[l2]⟩
 yld:=fun H i x fp v H' D h hx y=>by
  have r:=h (.ref a,.t xs) (by simp)
  have r':=h (.ref b,.t ys) (by simp)
  obtain⟨p,vs,e,h1,h2⟩:=r.r.tup;cases e;obtain⟨p',vs',e',h1',h2'⟩:=r'.r.tup;cases e';obtain⟨x1,y1,hx1,hy1,rfl⟩:=Gs hx;obtain⟨w1,G1,hw1,rw1,hs1⟩:=h2.get hx1;obtain⟨w2,G2,hw2,rw2,hs2⟩:=h2'.get hy1;obtain⟨q,u1,u2,hq,rfl,rfl,y1',y2'⟩:=y;have e1:=y1' vs (SqT.of h1);rw[hw1]at e1;cases e1;have e2:=y2' vs' (SqT.of h1');rw[hw2]at e2;cases e2;have rs:Rps K dl H [w1,w2] [x1,y1] (G1++(G2 ++ [])):=Rps.cons ⟨rw1,fun b hb=>r.n b (hs1 b hb)⟩ (Rps.cons ⟨rw2,fun b hb=>r'.n b (hs2 b hb)⟩ ⟨.nil,fun _ z=>nomatch z⟩)
  refine⟨(Evo.refl D).new hq,_,rs.tup D hq,fun c hb=>.inr ?_⟩
  rw[Td]at hb;rcases SY.mp hb with z|z
  ·exact⟨_,by simp,hs1 c z⟩
  ·exact⟨(.ref b,.t ys),by simp,hs2 c z⟩
 stop:=fun H D h=>by
  obtain⟨F,r⟩:=h (.ref a,.t xs) (by simp)
  obtain⟨F',r'⟩:=h (.ref b,.t ys) (by simp)
  obtain⟨p,vs,e,h1,h2⟩:=r.r.tup;cases e;obtain⟨p',vs',e',h1',h2'⟩:=r'.r.tup;cases e';refine⟨vs,vs',SqT.of h1,SqT.of h1',?_⟩;rw[ky,h2.len,h2'.len];omega
variable{tg e a b:Expr}{te ta tb:TE}{qe qa qb:QE}{tl:TA}{ql:QA}{pos p:Pos}
def asZ(ql:QA):QI:=fun q Q=>ql q fun ts=>match ts with | [.t xs,.t ys]=>Q (kz xs ys) | _=>False
theorem HF{x1}{ta:TA}(hK:X.K=K)(hg:Gl X "zip")(hm:X.mg "zip" = none)(fj:bootBuiltins "zip" = some (.type "zip"))(ha:PA X [a,b] ta)(hs:SN [a,b] X.env = [(false,eval a X.env),(false,eval b X.env)])(hs2:SN [b] X.env = [(false,eval b X.env)]) :
  PI X (.Tuple elts x1 pos') (.Call (.Name "zip" p) [a,b] [] pos) (L8 K t1 t2 ta):=by subst hK;exact Lq hg hm fj ha hs hs2
theorem K0{x1}(hg:Gl X "zip")(hm:X.mg "zip" = none)(fj:bootBuiltins "zip" = some (.type "zip"))(ha:QPA X K [a,b] tl ql)(hs:SN [a,b] X.env = [(false,eval a X.env),(false,eval b X.env)]:=by rfl)(hs2:SN [b] X.env = [(false,eval b X.env)]:=by rfl)(hK:X.K=K:=by rfl) :
  QPI X K (.Tuple elts x1 pos') (.Call (.Name "zip" p) [a,b] [] pos) (L8 K true true tl) (asZ ql):=⟨HF hK hg hm fj ha.h hs hs2,fun dl H σ q Q R rd hq k=>ha.s dl H σ q _ _ rd hq fun vs ts F H' e1 r _ hz=>by
 split at hz
 ·obtain⟨v,w,F1,F2,rfl,r1,r2⟩:=r.two;obtain⟨l1,vs1,rfl,h1,h2⟩:=r1.r.tup;obtain⟨l2,vs2,rfl,h3,h4⟩:=r2.r.tup;exact⟨l1,l2,rfl,⟨vs1,SqT.of h1⟩,⟨vs2,SqT.of h3⟩,k _ _ _ H' e1 L6 (fun p hp=>by
   simp only[S1,Ts,or_false]at hp;rcases hp with rfl|rfl
   ·exact⟨_,r1⟩
   ·exact⟨_,r2⟩) hz⟩
 ·exact hz.elim⟩
end
variable{H2:Hp}
section
variable{X:Cx}{K:W.Frag}{e a b:Expr}{tl:TA}{ql:QA}{pos p b9 p2:Pos}{dl:Dl}
def vF(ql:QA):QE:=fun q Q=>ql q fun ts=>match ts with | [.t xs,.t ys]=>T.ims xs=true/\T.ims ys=true/\Q (.l (kz xs ys)) | _=>False
theorem A7{vs:List V}{xs:List T}{F:List Addr}(h:au K dl H2 vs xs F):F = []->∀{ws:List V}{ys:List T}{G:List Addr},au K dl H2 ws ys G->G = []->∀{ps:List Addr},ps.length=min vs.length ws.length ->
  (∀(j:Nat) p x y,ps[j]? = some p->vs[j]? = some x->ws[j]? = some y->H2 p=some (.tup [x,y]))->au K dl H2 (ps.map V.ref) (kz xs ys) [] :=
 h.ind (M:=fun vs xs F=>F = []->∀{ws:List V}{ys:List T}{G:List Addr},au K dl H2 ws ys G->G = []->∀{ps:List Addr},ps.length=min vs.length ws.length ->
  (∀(j:Nat) p x y,ps[j]? = some p->vs[j]? = some x->ws[j]? = some y->H2 p=some (.tup [x,y]))->au K dl H2 (ps.map V.ref) (kz xs ys) []) (fun _ _ _ _ _ _ ps hl _=>by
   have e:ps = []:=TM.mp (by rw[hl];exact Nat.zero_min _)
   subst e;exact .nil) fun v x vs xs F G h _ ih e ws ys G' h' e' ps hl hp=>by
  obtain⟨e1,e2⟩:=TU.mp e;subst e1;cases h' with
  | nil =>
   have e:ps = []:=TM.mp (by rw[hl];exact Nat.min_zero _)
   subst e;exact .nil
  | cons h' r' =>
   obtain⟨e3,e4⟩:=TU.mp e';subst e3;cases ps with
   | nil=>simp at hl
   | cons p ps =>
    exact au.cons (F:=[]) (.t (hp 0 p _ _ rfl rfl rfl) (au.cons (F:=[]) h (au.cons (F:=[]) h' .nil))) (ih e2 r' e4 (by simp at hl;omega) fun j p x y h1 h2 h3=>hp (j+1) p x y h1 h2 h3)
theorem vp(ha:FX K 2 tl ql):ig K (nY K tl) (vF ql):=by
 intro dl H σ q Q R rd hq k;refine ha dl H σ q _ _ rd hq fun vs ts F H1 e1 r1 _ hz=>?_
 split at hz
 ·rename_i xs ys;obtain⟨v,w,F1,F2,rfl,r1',r2'⟩:=r1.two;obtain⟨l1,vs1,rfl,h1,h2⟩:=r1'.r.tup;obtain⟨l2,vs2,rfl,h3,h4⟩:=r2'.r.tup;obtain⟨i1,i2,hz⟩:=hz;obtain rfl:=h2.im i1;obtain rfl:=h4.im i2;refine⟨l1,l2,vs1,vs2,rfl,SqT.of h1,SqT.of h3,fun H2 L ps hL hl hn hf hk hLL hp=>?_⟩
  have sm:∀ b o,H1 b=some o->H2 b=some o:=fun b o e=>by
   rw[hk b (fun z=>by rw[(hf b z).1]at e;cases e) (fun z=>by rw[z,hL]at e;cases e)]
   exact e
  have ev:Evo dl H1 H2:=⟨fun b o e _ _=>sm b o e,fun p hp=>(by
   obtain⟨s,n,ls,D⟩:=e1.d p hp;exact⟨s,n,ls,sm _ _ D.hd,sm _ _ D.hl,D.s0,D.s1,D.n0,D.l0⟩),fun b x e=>⟨x,Uc _,sm _ _ e⟩⟩
  obtain⟨_,SJ,z1,b1,c1⟩:=(r1'.evo e1.d ev).r.tup;cases z1;rw[sm _ _ h1]at b1;cases b1;obtain⟨_,SI,z2,b2,c2⟩:=(r2'.evo e1.d ev).r.tup;cases z2;rw[sm _ _ h3]at b2;cases b2;exact k _ _ [L] H2 (e1.trans ev) ⟨.l hLL (A7 c1 rfl c2 rfl hl hp),fun b hb=>by rw[qr.mp hb];exact e1.d.nd0 hL⟩ (fun b hb=>by rw[qr.mp hb];exact e1.free hL) (by simp) hz
 ·exact hz.elim
theorem xv(hK:X.K=K)(hg:Gl X "list")(hm:X.mg "list" = none)(hg2:Gl X "zip")(hm2:X.mg "zip" = none)(ha:QPA X K [a,b] tl ql)
  (hs:SN [a,b] X.env = [(false,eval a X.env),(false,eval b X.env)]:=by rfl) (hs2:SN [b] X.env = [(false,eval b X.env)]:=by rfl)
  (hs3:SN [.Call (.Name "zip" p2) [a,b] [] b9] X.env =(false,eval (.Call (.Name "zip" p2) [a,b] [] b9) X.env)::SN [] X.env:=by rfl) (hc:X.calm=true:=by rfl) :
  QPF X K (.Call (.Name "list" p) [.Call (.Name "zip" p2) [a,b] [] b9] [] pos) (nY K tl) (vF ql):=⟨by subst hK;exact xI hg hm hg2 hm2 ha.h hs hs2 hs3 hc,vp ha.s⟩
end
def lJ(K:W.Frag):Sp:=fun vs H Q _=>∃(a:Addr)(ns:List Int),vs = [.ref a]/\FzL K H a (ns.map V.int)/\ns.length<=63/\∀ H',Q (.bl true) H'
theorem O4{K:W.Frag}{xs:List V}(h:Jv H)(hS:SqL K H a xs):FzL K H a xs:=by
 rcases hS with(z |⟨o,z⟩)|z
 ·rcases h a with e |⟨o,ys,e⟩
  ·rw[e]at z;cases z
  ·rw[e]at z;cases z
 ·exact .inl ⟨o,z⟩
 ·exact .inr z
variable{H':Hp}
theorem FzL.same{K:W.Frag}{xs:List V}(h:FzL K H a xs)(s:ko H H'):FzL K H' a xs:=by
 rcases h with⟨o,z⟩|z
 ·exact .inl ⟨o,s _ _ z⟩
 ·exact .inr z
variable{qual:Str}{st:Stmt}{N:List Str}{n:Nat}
theorem Fun.RI{w:World}{K:W.Frag}{f:Addr}{k:Nat}{s1:Stmt}{rest:List Stmt}(F:Fun K x qual st f fd)(S:aH N ["_law_script"] (aw st))(hN:N.length=n+2)(hst:bV st=s1::rest)
  (k7:∀(cdv:Value)(A:Around)(outer:List Env)(s:Shared)(H:Hp)(E:XK),cK k (A.deeper (envOfC qual (aw st) s.heap.objs.size f cdv)) ->
   ∃ t1 t qs,PS (qL CX0 P w K mg base N qual (aw st) f cdv A outer s H E).nox s1 t1/\qg (qL CX0 P w K mg base N qual (aw st) f cdv A outer s H E).nox K rest t qs /\
    (∀(a:Addr)(ns:List Int)(D:Ends),SqL K H a (ns.map V.int)->ns.length<=63 ->(∀(d l:Addr)(H':Hp),H d=none->H l=none->ku H' d l->ko H H'->D.nx ([some (.ref a),some (.ref d)]++TJ n none) H')->t1 D ([some (.ref a),none]++TJ n none) H) /\
    ∀ ns:List Int,ns.length<=63->qs { nx:=fun _=>False,rt:=fun t=>t = .b true } ([.r (.z ns),.r .cZ]++TJ n .no)):a8 P w K mg base CX0 (k+1) f fd ["_law_script"] (lJ K):=by
 refine F.ok S (fun vs H Q E h=>?_) (fun cdv A outer s H vs Q E hr h=>?_)
 ·obtain⟨a,ns,rfl,_⟩:=h;rfl
 ·obtain⟨a,ns,rfl,hS,hlen,k⟩:=h;obtain⟨t1,t,qs,h1,hb,r1,hq⟩:=k7 cdv A outer s H E hr;rw[hst];refine⟨_,bQ h1 hb.h,?_⟩;have es:start N [V.ref a] = [some (.ref a),none]++TJ n none:=by
   unfold start;rw[hN];rfl
  rw[es];refine r1 a ns _ hS.sq hlen fun d l H' hd hl D1 sm=>?_
  have Dq:Dls [(d,l)] H':=fun p hp=>by rw[qr.mp hp];exact D1
  have rp:Rps K [(d,l)] H' [.ref a,.ref d] [.z ns,.cZ] ([]++([] ++ [])):=⟨.cons (.z (hS.same sm)) (.cons (.x (l:=l) (qr.mpr rfl)) .nil),fun _ z=>nomatch z⟩
  have R:=rg (n:=n+2) Dq rp (by simp)
  refine hb.s [(d,l)] H' [] H' _ _ _ _ R (hq ns hlen) ⟨fun _ _ _ _ z=>z.elim,fun _ _ _ _ z=>z.elim,fun _ _ _ _ z=>z.elim,fun v t F H2 _ r' _ _ _ hz=>?_,fun _ _ _ _ _ _ _ _ _ _ _ _ z=>z.elim⟩
  subst hz;obtain⟨rfl,_⟩:=r'.r.bl;exact k H2
def vOf:Value->V
 | .none=>.non
 | .bool b=>.bl b
 | .int i _=>.int i
 | .str x _=>.str x
 | _=>.ty ""
variable{u:Value}
theorem yX{v:V}(r:RelV v u)(f:cR v=true):vOf u=v:=by
 cases v with
 | non=>cases r;rfl
 | bl b=>cases r;rfl
 | int i=>obtain⟨t,rfl⟩:=r;rfl
 | str x=>obtain⟨t,rfl⟩:=r;rfl
 | _=>exact absurd (show false=true from f) Ta
variable{us:List Value}
theorem Vals.RE{vs:List V}(r:Vals vs us):∀{u:Value},u∈us->∃ v∈vs,RelV v u:=by
 induction r with
 | nil=>intro u h;cases h
 | cons r1 _ ih =>
  intro u h;rcases S1.mp h with e|h
  ·subst e;exact⟨_,SG,r1⟩
  ·obtain⟨v,hv,rv⟩:=ih h;exact⟨v,SK _ hv,rv⟩
theorem Vals.Im{vs:List V}(r:Vals vs us)(f:vs.all cR=true):us.map vOf=vs:=by
 induction r with
 | nil=>rfl
 | cons r1 _ ih =>
  rw[VC,To]at f;rw[Tx,yX r1 f.1,ih f.2]
section
variable{X:Cx}{K:W.Frag}{o e:Expr}{apos aV pos:Pos}{tl te:TE}{ql qe:QE}
def Di(K:W.Frag):V->List V->Hp->VK->Prop:=fun x vs H Q=>∃ l xs y j,x = .ref l/\vs = [y]/\SqL K H l xs/\xs.all cR=true/\cR y=true/\xs.findIdx? (fun z=>eqV z y)=some j/\Q (.int (j:Nat)) H
theorem Ex:MtR X "list.index" (Di X.K):=by
 intro gV s σ H x vs v us Q I rx rv h;obtain⟨l,xs,y,j,rfl,rfl,hl,fx,fy,hj,q⟩:=h;cases rx;obtain⟨u,rfl,ru⟩:=rv.one;obtain⟨its,r,pl,hz⟩:=I.list hl;obtain⟨⟨c,dd,dat,sl⟩,ho,hc,n,hd⟩:=pl.isList;simp only at hc hd;subst hc hd;have hj':its.findIdx? (fun v=>eqV (vOf v) y)=some j:=by
  rw[<- r.Im fx,VA]at hj;exact hj
 obtain⟨hlt,hit,hno⟩:=UJ.mp hj';have hlen:=r.length;have hn:=gQ;refine call_meets PySem.F.slot_list_index ⟨_,ho,rfl⟩ PySem.F.entry_list_index (PySem.F.args_list_index_2 _ _) (SeqAt.list_indexAt l its.toArray n dd sl u (fun v=>eqV (vOf v) y) j (by simpa using hlt) (by omega) (by simpa using hit) (fun m hm hmj=>?_)) ⟨ho,fun z hz=>?_,?_⟩
 ·have:=hno m hmj
  simpa using this
 ·obtain⟨w,hw,rw'⟩:=r.RE (by simpa using hz)
  have fw:=T9.mp fx w hw;rw[yX rw' fw];exact mz rw' ru fw fy
 ·exact⟨.int _,H,I.tok _,⟨_,rfl⟩,q⟩
def Rr(ql qe:QE):QE:=fun q Q=>ql q fun t=>match t with
 | .l xs=>qe q fun u=>fls xs=true/\u.fl=true/\∃ j,xs.findIdx? (fun z=>eqV z.v u.v)=some j/\Q (.i (j:Nat))
 | _=>False
theorem BQ{xs:List T}(f:fls xs=true):(xs.map T.v).all cR=true:=by
 rw[Wd,T9];exact fun x hx=>uo (T9.mp f x hx)
theorem DB(ho:QPE X K o tl ql)(he:QPE X K e te qe)(hK:X.K=K:=by rfl)(cE:attributeBase o "index" X.env (eval o X.env)=eval o X.env:=by rfl)
  (iT:((backTo aV (SN [e] X.env)).all (fun x=>!x.1)&&(backToKw aV (keywordEach [] X.env)).all (fun x=>x.1.isSome)
   && decide (([e]:List Expr).length+([]:List Keyword).length+(if([]:List Keyword).isEmpty then 0 else 1)<30))=true:=by rfl)
  (cD:(apos.endLine==aV.line)=true:=by rfl) (hs:SN [e] X.env =(false,eval e X.env)::SN [] X.env:=by rfl) (cC:(backTo aV (SN [] X.env)).any (·.1)=false:=by rfl) :
  QPF X K (.Call (.Attribute o "index" apos) [e] [] aV) (tBM K "list" (Di K) tl (bC te fD)) (Rr ql qe) :=
 ⟨by subst hK;exact vO PySem.F.plainAttrs_list PySem.F.slot_list_index PySem.F.type_list_index Ex ho.h (a9 he.h c9 hs) cE iT cD hs cC,fun dl H σ q Q R rd hq k=>ho.s dl H σ q _ _ rd hq fun v t F H1 e1 r1 hq=>by
  split at hq
  ·obtain⟨p,vs,G,rfl,eF,h1,h2⟩:=r1.r.lst;refine⟨.inl ⟨rfl,vs,SqL.of h1⟩,he.s dl H1 σ q _ _ (rd.evo e1) hq fun y u F2 H2 e2 r2 hPP=>?_⟩
   obtain⟨f1,f2,j,hj,hq⟩:=hPP;have rp:=r1.evo e1.d e2;obtain⟨p',vs',G',e',eF',h1',h2'⟩:=rp.r.lst;cases e';obtain⟨ev,_⟩:=h2'.vs f1;obtain⟨ey,_⟩:=r2.r.v f2;subst ev ey;refine⟨p,_,_,j,rfl,rfl,SqL.of h1',BQ f1,uo f2,by rw[VA];exact hj,?_⟩
   exact k _ _ [] H2 (e1.trans e2) (.c (.i _)) (fun _ z=>nomatch z) S6 hq
  ·exact hq.elim⟩
end
variable{tp:Bool}
section
variable{X:Cx}{K:W.Frag}{dl:Dl}
def g7(xs:List T):List T:=xs.zipIdx.map fun p=>.t [.i (p.2:Nat),p.1]
theorem cj{xs:List T}{i:Nat}{z:T}(h:(g7 xs)[i]? = some z):∃ x,xs[i]? = some x/\z = .t [.i (i:Nat),x]:=by
 unfold g7 at h;rw[L7]at h;obtain⟨p,hp,rfl⟩:=QX.mp h;rw[List.getElem?_zipIdx]at hp;obtain⟨x,hx,rfl⟩:=QX.mp hp;exact⟨x,hx,by simp⟩
theorem bg{xs:List T}:(g7 xs).length=xs.length:=by simp[g7]
theorem zR{xs:List T}:uW K dl (Ite K true a) (g7 xs) [(.ref a,.t xs)] where
 go:=fun H i D h hi=>by
  obtain⟨F,r⟩:=h (.ref a,.t xs) (by simp)
  obtain⟨p,vs,e,h1,h2⟩:=r.r.tup;cases e;rw[bg]at hi;have l1:i<vs.length:=by rw[h2.len];omega
  exact⟨vs,vs[i],SqT.of h1,by simp[l1]⟩
 yld:=fun H i x fp v H' D h hx y=>by
  have r:=h (.ref a,.t xs) (by simp)
  obtain⟨p,vs,e,h1,h2⟩:=r.r.tup;cases e;obtain⟨x1,hx1,rfl⟩:=cj hx;obtain⟨w1,G1,hw1,rw1,hs1⟩:=h2.get hx1;obtain⟨q,u1,hq,rfl,rfl,y1'⟩:=y;have e1:=y1' vs (SqT.of h1);rw[hw1]at e1;cases e1;have rs:Rps K dl H [.int (i:Nat),w1] [.i (i:Nat),x1] ([]++(G1 ++ [])):=Rps.cons ⟨.i _,fun _ z=>nomatch z⟩ (Rps.cons ⟨rw1,fun b hb=>r.n b (hs1 b hb)⟩ ⟨.nil,fun _ z=>nomatch z⟩)
  refine⟨(Evo.refl D).new hq,_,rs.tup D hq,fun c hb=>.inr ?_⟩
  rw[Td]at hb;exact⟨_,by simp,hs1 c hb⟩
 stop:=fun H D h=>by
  obtain⟨F,r⟩:=h (.ref a,.t xs) (by simp)
  obtain⟨p,vs,e,h1,h2⟩:=r.r.tup;cases e;exact⟨vs,SqT.of h1,by rw[bg,h2.len];exact S3 _⟩
variable{tg e a b c:Expr}{te ta tb:TE}{qe qa qb:QE}{tl:TA}{ql:QA}{pos p:Pos}
def So(ql:QA):QI:=fun q Q=>ql q fun ts=>match ts with | [.t xs]=>Q (g7 xs) | _=>False
theorem kO{x1}{ta:TA}(hK:X.K=K)(hg:Gl X "enumerate")(hm:X.mg "enumerate" = none)(fj:bootBuiltins "enumerate" = some (.type "enumerate"))(ha:PA X [a] ta)(hs:SN [a] X.env = [(false,eval a X.env)]) :
  PI X (.Tuple elts x1 pos') (.Call (.Name "enumerate" p) [a] [] pos) (rH K tp ta):=by subst hK;exact HG hg hm fj ha hs
theorem zm{x1}(hg:Gl X "enumerate")(hm:X.mg "enumerate" = none)(fj:bootBuiltins "enumerate" = some (.type "enumerate"))(ha:QPA X K [a] tl ql)(hs:SN [a] X.env = [(false,eval a X.env)]:=by rfl)(hK:X.K=K:=by rfl) :
  QPI X K (.Tuple elts x1 pos') (.Call (.Name "enumerate" p) [a] [] pos) (rH K true tl) (So ql):=⟨kO hK hg hm fj ha.h hs,fun dl H σ q Q R rd hq k=>ha.s dl H σ q _ _ rd hq fun vs ts F H' e1 r _ hz=>by
 split at hz
 ·obtain⟨v,rfl,r1⟩:=r.one;obtain⟨l1,vs1,rfl,h1,h2⟩:=r1.r.tup;exact⟨l1,rfl,⟨vs1,SqT.of h1⟩,k _ _ _ H' e1 zR (fun p hp=>by rw[qr.mp hp];exact⟨_,r1⟩) hz⟩
 ·exact hz.elim⟩
theorem au.snoc{v:V}{t:T}(hv:aA K dl H v t []){vs:List V}{ts:List T}{F:List Addr}(h:au K dl H vs ts F):F = []->au K dl H (vs ++ [v]) (ts ++ [t]) [] :=
 h.ind (M:=fun vs ts F=>F = []->au K dl H (vs ++ [v]) (ts ++ [t]) []) (fun _=>.cons (F:=[]) (G:=[]) hv .nil) fun _ _ _ _ _ _ h _ ih e=>by
  obtain⟨e1,e2⟩:=TU.mp e;subst e1;exact .cons (F:=[]) (G:=[]) h (ih e2)
theorem au.rev{vs:List V}{ts:List T}{F:List Addr}(h:au K dl H vs ts F):F = []->au K dl H vs.reverse ts.reverse [] :=
 h.ind (M:=fun vs ts F=>F = []->au K dl H vs.reverse ts.reverse []) (fun _=>.nil) fun _ _ _ _ _ _ h _ ih e=>by
  obtain⟨e1,e2⟩:=TU.mp e;subst e1;rw[U8,U8];exact au.snoc h (ih e2) rfl
theorem E6{v:V}(h:cR v=true):eqV v v=true:=by cases v <;> first|rfl|exact absurd h Ta|simp[eqV]
def Dj:V->List V->Hp->VK->Prop:=fun x vs H Q=>∃(a p:Addr)(ps:List Addr)(kvs more:List (Key×V)),x = .ref a/\vs = [.ref p]/\H a=some (.dK kvs)/\H p=some (.lst (ps.map V.ref))/\ps.length=more.length /\
 (∀(i:Nat)(b:Addr)(kv:Key×V),ps[i]? = some b->more[i]? = some kv->H b=some (.tup [kV kv.1,kv.2]))/\kvs.length+more.length<=S4/\Q .non (upd H a (.dK (da kvs more)))
theorem Ey(hc:X.calm=true):MtR X "dict.update" Dj:=by
 intro gV s σ H x vs v us Q I rx rv h;obtain⟨a,p,ps,kvs,more,rfl,rfl,ha,hp,hl,hps,hz,q⟩:=h;cases rx;obtain⟨u,rfl,ru⟩:=rv.one;cases ru;have hh:X.A.handled=none:=I.ok.hd hc;obtain⟨z1,hd1,vs1,r1,d1⟩:=Fb I.hok ha;obtain⟨hzp,its,n,rvl,e⟩:=(show a5 X.prog X.w H s.heap p (.lst (ps.map V.ref))from I.hok p _ hp);obtain⟨pairs,kv,yg⟩:=vP I rvl hl hps;have hlv:=rvl.length;rw[j3]at hlv;have hkl:more.length=pairs.length:=Paired.length kv;have l1:kvs.length=vs1.length:=Paired.length r1;have hpa:p≠a:=iJ hp ha (fun z=>nomatch z)
 refine call_meetsIn PySem.F.slot_dict_update d1.typeIs PySem.F.entry_dict_update (PySem.F.args_dict_update_2 _ _) (S:=fun A R s'=>s'=s/\A=X.A/\R=wants (EP X gV σ Q) X.xe) (fun A R s' ⟨e1,e2,e3⟩=>?_) ⟨rfl,rfl,rfl⟩
 subst e1 e2 e3;unfold Builtin.«dict.update»;refine j0 ?_;unfold Builtin.Dict.selfAndRest;refine j0 (wpAny_notOrdered_dict d1.typeIs ?_);show wpAny _ _ (pure (a,[Value.ref p])) _ _ _;refine M7 ?_;show wpAny _ _ (Builtin.Dict.updateFrom "dict.update" a (.ref p) [] .none) _ _ _;refine f7 (A:=X.A) (knd:=bh X.prog X.w) (kvs:=vs1) (pairs:=pairs) (its:=its.toArray) hh d1 hpa ⟨_,n,e,rfl,rfl,.inr rfl⟩ (by omega) (by rw[S7];omega) (fun i v hv=>?_) fun h' tk hk hd=>?_
 ·obtain⟨b,ob,key,val,k,m,e1,e2,e3,e4,e5,e6⟩:=yg i v (by simpa using hv)
  exact⟨b,ob,key,val,k,m,e1,e2,e3,e4,e5,e6⟩
 ·refine⟨.non,_,?_,rfl,q⟩;have hz':(da kvs more).length<=S4:=Tn (dI more kvs) hz;have he:∃ q,h'.get? a=some q:=let⟨q,_,_,hq,_⟩:=hd;⟨q,hq⟩
  exact I.write (t':=tk) (x:=a) (e:=a) (by rw[ha];exact True.intro) (.inl rfl) (fun b q hb z=>hk b q hb z) he (pJ hz' hd1 (KV.merge kv r1) hd)
def K6(i:Nat)(qe:QE):QS:=fun D q=>match q[i]? with
 | some (.o (.d xs))=>qe q fun t=>match t with
  | .l ys=>T.imk xs=true/\T.ims ys=true/\∃ kts,du ys=some kts/\xs.length+kts.length<=S4/\D.nx (q.set i (.o (.d (b7 xs kts))))
  | _=>False
 | _=>False
variable{o:Expr}{apos aV:Pos}
theorem GJ{i:Nat}(he:ig K te qe):ie K (ip (tBM K "dict" Dj (bb i) (bC te fD))) (K6 i qe):=fun dl H₀ hs H σ q Dq D ⟨F,r⟩ hq E=>by
 unfold K6 at hq
 split at hq
 ·rename_i xs ei;obtain⟨v,hv,rp⟩:=r.g i _ _ ei rfl;obtain⟨p,vs,G,rfl,eF,h1,h2⟩:=rp.r.dic;refine⟨_,hv,.inr (.inr (.inl ⟨rfl,.inl ⟨_,h1⟩⟩)),he dl H σ q _ _ r.rd hq fun w t F' H' e1 r1 f1 n1 hz'=>?_⟩
  split at hz'
  ·rename_i ys;obtain⟨im1,im2,kts,ek,hl,hz'⟩:=hz';have rp2:=rp.evo r.d e1;obtain⟨p',vs',G',e',eF',h1',h2'⟩:=rp2.r.dic;cases e';obtain rfl:=h2'.im im1;obtain⟨p2,ws,G2,rfl,eG2,h3,h4⟩:=r1.r.lst;obtain rfl:=h4.im im2;obtain⟨ps,more,rfl,hlen,ht,hk⟩:=h4.pairs rfl ek;refine⟨p,p2,ps,vs',more,rfl,rfl,h1',h3,hlen,ht,by rw[h2'.len,hk.len];exact hl,?_⟩
   exact E.nx _ _ _ (r.C7 ei hv e1 (aQ.b7 (kvs':=[]) (kts':=[]) hk rfl h2')) hz'
  ·exact hz'.elim
 ·exact hq.elim
theorem KS{i:Nat}{fE:Pos}(hc:X.calm=true)(ho:PE X o (bb i))(he:QPF X K e te qe)(hK:X.K=K:=by rfl)(cE:attributeBase o "update" X.env (eval o X.env)=eval o X.env:=by rfl)
  (iT:((backTo aV (SN [e] X.env)).all (fun x=>!x.1)&&(backToKw aV (keywordEach [] X.env)).all (fun x=>x.1.isSome)
   && decide (([e]:List Expr).length+([]:List Keyword).length+(if([]:List Keyword).isEmpty then 0 else 1)<30))=true:=by rfl)
  (cD:(apos.endLine==aV.line)=true:=by rfl) (hs:SN [e] X.env =(false,eval e X.env)::SN [] X.env:=by rfl) (cC:(backTo aV (SN [] X.env)).any (·.1)=false:=by rfl)
  (hsw:swapsWith (.Call (.Attribute o "update" apos) [e] [] aV) none fE.line X.env=pure false:=by rfl) :
  QPS X K (.Expr (.Call (.Attribute o "update" apos) [e] [] aV) fE) (ip (tBM K "dict" Dj (bb i) (bC te fD))) (K6 i qe) :=
 ⟨kK (by subst hK;exact vO PySem.F.plainAttrs_dict PySem.F.slot_dict_update PySem.F.type_dict_update (Ey hc) ho (a9 he.h c9 hs) cE iT cD hs cC) hsw,GJ he.s⟩
end
variable{d:Addr}{l:Addr}
section
variable{X:Cx}{K:W.Frag}{dl:Dl}{v:V}{F:List Addr}
theorem aA.Sj{o:Obj}{vs:List (Key×V)}{ts:List (Key×T)}(h:aA K dl H v (.fd o vs ts) F):∃ a,v = .ref a/\F = []/\H a=some (.frz o (.dK vs))/\aQ K dl H vs ts []:=by cases h with|fd h r=>exact⟨_,rfl,rfl,h,r⟩
variable{tg e a b:Expr}{te ta tb:TE}{qe qa qb:QE}{pos:Pos}
theorem ku.oth{a:Addr}{o:HO}(D:ku H d l)(h1:a≠d)(h2:a≠l):ku (upd H a o) d l:=by
 obtain⟨s,n,ls,Q⟩:=D;exact⟨s,n,ls,by rw[ao h1.symm];exact Q.hd,by rw[ao h2.symm];exact Q.hl,Q.s0,Q.s1,Q.n0,Q.l0⟩
end
section
variable{X:Cx}{K:W.Frag}{dl:Dl}{v:V}{F:List Addr}
theorem au.lookup{f:Str}:∀{ns:List Str}{vs:List V}{ts:List T}{F:List Addr}{u:T},au K dl H vs ts F ->(ns.zip ts).lookup f=some u->∃ w G,(ns.zip vs).lookup f=some w/\aA K dl H w u G/\∀ b∈G,b∈F
 | [],_,_,_,_,_,h=>by simp at h
 | _::_,_,_,_,_,.nil,h=>by simp at h
 | n::ns,_,_,_,u,.cons h1 r,h=>by
  rw[List.zip_cons_cons,Tv]at h ⊢;cases e:(f==n)with
  | true =>
   rw[e]at h;cases h;exact⟨_,_,rfl,h1,fun b hb=>Tj _ hb⟩
  | false =>
   rw[e]at h;obtain⟨w,G,a1,a2,a3⟩:=au.lookup (ns:=ns) r h;exact⟨w,G,a1,a2,fun b hb=>Tc _ (a3 b hb)⟩
end
variable{dl:Dl}{H₀:Hp}{q:Sq}
theorem Rel.Mr{K:W.Frag}{hs:List (V×T)}{σ:St}{F:Nat->List Addr}(r:Rel K dl H₀ hs H σ q F)(i:Nat):Rel K dl H₀ hs H (σ.set i none) (q.set i .no) (vv F i []):=by
 refine⟨r.d,fun j x t h1 h2=>?_,fun j x h1 h2=>?_,fun j hj=>?_,fun j u h1=>?_,fun p hp=>?_,r.f,by simp[r.l]⟩
 ·rcases get_set h1 with⟨rfl,rfl,_⟩ |⟨ne,h1⟩
  ·cases h2
  ·obtain⟨w,h3,h4⟩:=r.g j x t h1 h2;exact⟨w,by rw[TV (fun z=>ne z.symm)];exact h3,by rw[aE ne];exact h4⟩
 ·rcases get_set h1 with⟨rfl,rfl,_⟩ |⟨ne,h1⟩
  ·rw[aO]
  ·rw[aE ne];exact r.n j x h1 h2
 ·by_cases ej:j=i
  ·rw[ej,aO]
  ·rw[aE ej];rw[Ue]at hj;exact r.z j hj
 ·rcases get_set h1 with⟨rfl,e,_⟩ |⟨ne,h1⟩
  ·cases e
  ·rw[aE ne];obtain⟨o1,o2,o3⟩:=r.o j u h1;refine⟨o1,o2,fun k hk b hb=>?_⟩
   by_cases ek:k=i
   ·rw[ek,aO];exact fun z=>nomatch z
   ·rw[aE ek];exact o3 k hk b hb
 ·obtain⟨Fp,h1,h2⟩:=r.h p hp;refine⟨Fp,h1,fun j u hj b hb z=>?_⟩
  rcases get_set hj with⟨rfl,e,_⟩ |⟨ne,hj⟩
  ·cases e
  ·rw[aE ne]at hb;exact h2 j u hj b hb z
section
variable{X:Cx}{K:W.Frag}{a b e:Expr}{ta tb te:TE}{qa qb qe:QE}{pos:Pos}
def Rq(qa qb:QE):QE:=fun q Q=>qa q fun t=>qb q fun u=>match t,u with
 | .l xs,.i k=>∃ x,atI xs k=some x/\Q x
 | _,_=>False
theorem jT(ha:QPF X K a ta qa)(hb:QPE X K b tb qb)(hs:lD b:=by intro _ _;rfl)(hK:X.K=K:=by rfl):QPF X K (.Subscript a b pos) (tOp (rIx K) ta tb) (Rq qa qb):=by
 refine⟨by subst hK;exact vN EJ ha.h hb.h hs,fun dl H σ q Q R rd hq k=>?_⟩
 refine ha.s dl H σ q _ _ rd hq fun v t F H1 e1 r1 f1 n1 hq1=>?_
 refine hb.s dl H1 σ q _ _ (rd.evo e1) hq1 fun w u G H2 e2 r2 hq2=>?_
 have r1:=r1.evo e1.d e2
 split at hq2
 ·obtain⟨rfl,rfl⟩:=r2.r.int;obtain⟨p,vs,G,rfl,rfl,h1,h2⟩:=r1.r.lst;obtain⟨z,hz,hq⟩:=hq2;obtain⟨j,hj,hi⟩:=lB hz h2.len.symm;obtain⟨v,G',hv,rv,hs⟩:=h2.Mg hj;have sub:∀ c∈G',c∈p::G:=fun c hc=>SK _ (hs.subset hc)
  exact .inl ⟨p,vs,_,v,rfl,rfl,SqL.of h1,pZ hi hv,k v z G' H2 (e1.trans e2) (Rp.sub rv r1.n sub) (fun c hc=>f1 c (sub c hc)) ((TB.mp n1).2.sublist hs) hq⟩
 ·exact hq2.elim
end
variable{p1:Pos}{p2:Pos}{b9:Pos}
section
variable{X:Cx}{K:W.Frag}{a e:Expr}{te:TE}{qe:QE}{tl:TA}{ql:QA}{pos p:Pos}
def PB(ql:QA):QJ:=fun q Q=>ql q fun ts=>match ts with | [.t xs]=>T.ims xs=true/\Q (g7 xs) q | _=>False
theorem kH{x1}(hg:Gl X "enumerate")(hm:X.mg "enumerate" = none)(fj:bootBuiltins "enumerate" = some (.type "enumerate"))(ha:QPA X K [a] tl ql)(hs:SN [a] X.env = [(false,eval a X.env)]:=by rfl)(hK:X.K=K:=by rfl) :
  QPJ X K (.Tuple elts x1 pos') (.Call (.Name "enumerate" p) [a] [] pos) (rH K true tl) (PB ql):=⟨kO hK hg hm fj ha.h hs,fun dl H₀ hs H σ q Q R ⟨F0,r0⟩ hq k=>ha.s dl H σ q _ _ r0.rd hq fun vs ts F H' e1 r _ hz=>by
 split at hz
 ·obtain⟨i1,hz⟩:=hz;obtain⟨v,rfl,r1⟩:=r.one;obtain rfl:=r1.r.im (t:=.t _) i1;have q1:=(r0.evo e1).hold r1 fun j u hj b hb z=>nomatch z
  obtain⟨l1,vs1,rfl,h1,h2⟩:=r1.r.tup;exact⟨l1,rfl,⟨vs1,SqT.of h1⟩,k _ _ _ H' q ⟨F0,q1⟩ zR hz⟩
 ·exact hz.elim⟩
def Lb(qe:QE):QE:=fun q Q=>qe q fun t=>match t with | .l xs=>T.ims xs=true/\Q (.l xs.reverse) | _=>False
theorem vM(hK:X.K=K)(hc:X.calm=true)(hg1:Gl X "list")(hm1:X.mg "list" = none)(hg2:Gl X "reversed")(hm2:X.mg "reversed" = none)(he:PE X e te)
  (hs1:SN [e] X.env = [(false,eval e X.env)]) (hs2:SN [.Call (.Name "reversed" p2) [e] [] b9] X.env = [(false,eval (.Call (.Name "reversed" p2) [e] [] b9) X.env)]) :
  PE X (.Call (.Name "list" p1) [.Call (.Name "reversed" p2) [e] [] b9] [] pos) (nZ K te):=by subst hK;exact oH hc hg1 hm1 hg2 hm2 he hs1 hs2
theorem vC{p1 p2 b9:Pos}(hc:X.calm=true)(hg1:Gl X "list")(hm1:X.mg "list" = none)(hg2:Gl X "reversed")(hm2:X.mg "reversed" = none)(he:QPE X K e te qe)
  (hs1:SN [e] X.env = [(false,eval e X.env)]:=by rfl) (hs2:SN [.Call (.Name "reversed" p2) [e] [] b9] X.env = [(false,eval (.Call (.Name "reversed" p2) [e] [] b9) X.env)]:=by rfl) (hK:X.K=K:=by rfl) :
  QPF X K (.Call (.Name "list" p1) [.Call (.Name "reversed" p2) [e] [] b9] [] pos) (nZ K te) (Lb qe) :=
 ⟨vM hK hc hg1 hm1 hg2 hm2 he.h hs1 hs2,fun dl H σ q Q R rd hq k=>he.s dl H σ q _ _ rd hq fun v t F H1 e1 r hz=>by
  split at hz
  ·obtain⟨i1,hz⟩:=hz;obtain⟨l,vs,G,rfl,rfl,h1,h2⟩:=r.r.lst;obtain rfl:=h2.im i1;refine⟨l,vs,rfl,SqL.of h1,fun p hp=>?_⟩
   have rs:Rps K dl H1 vs.reverse _ []:=⟨h2.rev rfl,fun _ z=>nomatch z⟩
   exact k _ _ [p] _ (e1.new hp) (rs.lst e1.d hp) (fun b hb=>by rw[qr.mp hb];exact e1.free hp) (by simp) hz
  ·exact hz.elim⟩
end
variable{A:Around}
section
variable{X:Cx}{K:W.Frag}
variable{tg e o:Expr}{te to:TE}{qe qo:QE}
theorem gc{vs:List V}{ts:List T}{F:List Addr}(h:au K dl H vs ts F){v:V}(hv:vs[j]? = some v):∃ t G,ts[j]? = some t/\aA K dl H v t G:=by
 have hl:=h.len;have hj:j<ts.length:=by rw[<- hl];exact(QH.mp hv).1
 obtain⟨w,G,hw,r,_⟩:=h.get (show ts[j]? = some ts[j]from by simp[hj])
 rw[hv]at hw;cases hw;exact⟨_,G,by simp[hj],r⟩
theorem zU{k:Nat}(hr:cK k A):A.units+150<cLine:=by have:=hr.un;omega
variable{es:List Expr}{tl:TA}{ql:QA}
end
def qD1(qk qv:QE):QE:=fun q Q=>qk q fun t=>qv q fun u=>match t.key with
 | some k=>u.fl=true/\Q (.d [(k,u)])
 | none=>False
section
variable{X:Cx}{K:W.Frag}{ek ev:Expr}{tk tv:TE}{qk qv:QE}{pos:Pos}
theorem TF.dict{p:Addr}{kv kw:List (Key×V)}(hp:H p=some (.dK kv)):TF H (upd H p (.dK kw)) :=
 have ne:∀{a:Addr}{o:HO},H a=some o ->(∀ kv,o ≠ .dK kv)->a≠p:=fun h n e=>by rw[e,hp]at h;exact n _ (Option.some.inj h).symm
 ⟨fun a vs h=>by rw[ao (ne h fun _ z=>nomatch z)];exact h,fun a o u h=>by rw[ao (ne h fun _ z=>nomatch z)];exact h,fun a φ h=>by rw[ao (ne h fun _ z=>nomatch z)];exact h,fun a xs h=>⟨xs,by rw[ao (ne h fun _ z=>nomatch z)];exact h⟩,fun a x h=>⟨x,Uc _,by rw[ao (ne h fun _ z=>nomatch z)];exact h⟩⟩
theorem DD(hk:QPE X K ek tk qk)(hv:QPE X K ev tv qv):QPF X K (.Dict [some ek] [ev] pos) (JG [(tk,tv)]) (qD1 qk qv):=by
 refine⟨zA (kL hk.h hv.h zy) rfl rfl (by simp) (by show 1<=15;decide),fun dl H σ q Q R rd hq k=>fun p hp=>?_⟩
 have e0:=(Evo.refl rd.d).new (o:=.dK []) hp;have nd:Nd dl p:=rd.d.nd0 hp;refine hk.s dl _ σ q _ _ (rd.evo e0) hq fun v t F H1 e1 r1 hq1=>?_
 refine hv.s dl H1 σ q _ _ ((rd.evo e0).evo e1) hq1 fun w u G H2 e2 r2 hq2=>?_
 split at hq2
 ·rename_i kk ekk;obtain⟨hfl,hq2⟩:=hq2;obtain⟨rfl,rfl⟩:=r2.r.v hfl;have evk:=r1.r.key ekk;have hp2:H2 p=some (.dK []):=e2.k p _ (e1.k p _ ax nd (fun _ z=>nomatch z)) nd (fun _ z=>nomatch z)
  have tf:=TF.dict (kw:=[(kk,u.v)]) hp2;refine⟨hp2,[(kk,u.v)],by rw[evk];rfl,(by show 1<=15;decide),?_⟩
  have e3:Evo dl H (upd H2 p (.dK [(kk,u.v)])):=by
   refine⟨fun b o hb hn nr=>?_,fun d hd=>?_,fun b x hb=>?_⟩
   ·have hbp:b≠p:=fun z=>by rw[z,hp]at hb;cases hb
    rw[ao hbp];exact e2.k b o (e1.k b o (by rw[ao hbp];exact hb) hn nr) hn nr
   ·obtain⟨s0,n0,ls0,D0⟩:=e2.d d hd;have n1:=(nd d hd).1;have n2:=(nd d hd).2;exact⟨s0,n0,ls0,{ D0 with hd:=by rw[ao n1.symm];exact D0.hd,hl:=by rw[ao n2.symm];exact D0.hl }⟩
   ·have hbp:b≠p:=fun z=>by rw[z,hp]at hb;cases hb
    obtain⟨y,hy,e4⟩:=(e1.trans e2).r b x (by rw[ao hbp];exact hb)
    exact⟨y,hy,by rw[ao hbp];exact e4⟩
  exact k _ _ [p] _ e3 ⟨.d ax (.cons (F:=[]) (G:=[]) (r2.r.cY tf (fun _ z=>z) bL) .nil),fun b hb=>by rw[qr.mp hb];exact nd⟩ (fun b hb=>by rw[qr.mp hb];exact hp) (by simp) hq2
 ·exact hq2.elim
end
section
variable{X:Cx}{σ:St}{s:Shared}{x:Int}
theorem Inv.J1(I:Inv X gV σ H s){u:HO}(ha:H a=some u)(hu:∀ o v,u ≠ .frz o v):∀ o v,X.H₀ a≠some (.frz o v):=fun o v e=>by
 have:=I.base.j9 a o v e
 rw[ha]at this;exact hu o v (Option.some.inj this)
theorem Inv.Cu(I:Inv X gV σ H s)(ha:H a=some (.lst [.int x])):Inv X gV σ (upd H a (.room x)) s:=by
 obtain⟨_,its,n,r,e⟩:=(show a5 X.prog X.w H s.heap a (.lst [.int x])from I.hok a _ ha);exact I.ze ha (fun _ z=>nomatch z) (fun _ z=>nomatch z) (fun _ z=>nomatch z) (I.J1 ha (fun _ _ z=>nomatch z)) ⟨its,n,r,e⟩
theorem Inv.LF(I:Inv X gV σ H s)(ha:H a=some (.room x)):Inv X gV σ (upd H a (.lst [.int x])) s:=by
 obtain⟨its,n,r,e⟩:=(show a5 X.prog X.w H s.heap a (.room x)from I.hok a _ ha);exact I.ze ha (fun _ z=>nomatch z) (fun _ z=>nomatch z) (fun _ z=>nomatch z) (I.J1 ha (fun _ _ z=>nomatch z)) ⟨by show 1<=S4;decide,its,n,r,e⟩
end
section
variable{X:Cx}{K:W.Frag}{a b e o:Expr}{ta tb te:TE}{qa qb qe:QE}{pos:Pos}
def Dg:R2:=fun x y H Q=>∃ p r,x = .ref p/\y = .int 0/\H p=some (.room r)/\Q (.int r) H
theorem zP:IxR X Dg:=by
 intro value slice gV s σ H x y v u Q I rx ry h hs;obtain⟨p,m,rfl,rfl,hq,q⟩:=h;cases rx;obtain⟨t,rfl⟩:=ry;obtain⟨its,n,r,e⟩:=(show a5 X.prog X.w H s.heap p (.room m)from I.hok p _ hq);have pl:PlainL s.heap p its.toArray:=⟨_,n,e,rfl,rfl,rfl⟩;obtain⟨w,ew,rw'⟩:=r.get (show [V.int m][0]? = some (.int m)from rfl);have hl:=r.length;have hn:=gQ;have fin:EP X gV σ Q w s:=⟨.int m,H,I,rw',q⟩;have hl':its.length=1:=hl.symm;exact item_listR pl.isList (Uc 0) (by decide) (by simpa using ew) fin hs
def C9:Ju:=fun o i v H Q=>∃ p x y,o = .ref p/\i = .int 0/\v = .int y/\H p=some (.room x)/\Q (upd H p (.room y))
theorem CZ:Mz X C9:=by
 intro gV s σ H o i v ov iv u Q I ro ri rv h;obtain⟨p,x,y,rfl,rfl,rfl,hp,q⟩:=h;have I1:=I.LF hp;refine thn (set_list (X:=X) gV s σ _ (.ref p) (.int 0) (.int y) ov iv u (fun H'=>H'=upd H p (.lst [.int y])) I1 ro ri rv ⟨p,[.int x],0,0,rfl,rfl,ax,rfl,by rw[nu];rfl⟩) fun _ s' z=>?_
 obtain⟨H',I',z⟩:=z;subst z;have I2:=I'.Cu ax;rw[nu]at I2;exact⟨_,I2,q⟩
def JA(te:TE):TE:=fun σ H Q=>te σ H fun v H1=>∃ a x,v = .ref a/\H1 a=some (.lst [.int x])/\Q v (upd H1 a (.room x))
theorem HH(he:PE X e te):PE X e (JA te):=by
 intro gV s σ H Q I h;refine thn (he gV s σ H _ I h) fun u s' hPP=>?_
 obtain⟨v,H',I',r,a,x,e1,e2,q⟩:=hPP;exact⟨v,_,I'.Cu e2,r,q⟩
theorem Evo.fresh{a:Addr}{o:HO}(e:Evo dl H H')(ha:H a=none)(nd:Nd dl a):Evo dl H (upd H' a o) :=
 ⟨fun b u h n r=>by rw[ao (aS h ha)];exact e.k b u h n r,fun p hp=>(e.d p hp).oth (nd p hp).1 (nd p hp).2,fun b x h=>let⟨y,hy,e'⟩:=e.r b x h;⟨y,hy,by rw[ao (aS h ha)];exact e'⟩⟩
def Ny(qe:QE):QE:=fun q Q=>qe q fun t=>match t with
 | .l [.i x]=>Q (.rm x)
 | _=>False
theorem Hg(he:QPF X K e te qe):QPF X K e (JA te) (Ny qe):=⟨HH he.h,fun dl H σ q Q R rd hq k=>he.s dl H σ q _ _ rd hq fun v t F H1 e1 r1 f1 n1 hz=>by
 split at hz
 ·rename_i x;obtain⟨p,vs,G,rfl,rfl,h1,h2⟩:=r1.r.lst;cases h2 with
  | cons h3 h4 =>
   cases h4;obtain⟨rfl,rfl⟩:=h3.int;exact⟨p,x,rfl,h1,k _ (.rm x) [] _ (e1.fresh (f1 p SG) (r1.n p SG)) ⟨.rm ax (Uc _),fun _ z=>nomatch z⟩ (fun _ z=>nomatch z) S6 hz⟩
 ·exact hz.elim⟩
def Lc:Q2:=fun t u Q=>match t,u with
 | .rm m,.i k=>k=0/\∀ r,r<=m->Q (.i r)
 | _,_=>False
theorem GU:FW K Dg Lc:=by
 intro dl H x y t u F G Q R D r1 r2 hq k;unfold Lc at hq
 split at hq
 ·obtain⟨p,m,rfl,h1,h2,_⟩:=r1.r.roo;obtain⟨rfl,_⟩:=r2.r.int;obtain⟨rfl,hq⟩:=hq;exact⟨p,m,rfl,rfl,h1,k _ (.i m) [] H (.refl D) ⟨.i m,fun _ z=>nomatch z⟩ (hq m h2)⟩
 ·exact hq.elim
theorem Hh(ha:QPE X K a ta qa)(hb:QPE X K b tb qb)(hs:lD b:=by intro _ _;rfl):QPE X K (.Subscript a b pos) (tOp Dg ta tb) (qOp Lc qa qb):=⟨vN zP ha.h hb.h hs,sj GU ha.s hb.s⟩
def xx(i:Nat)(qe:QE):QS:=fun D q=>match q[i]? with
 | some x=>match x.get with
  | some (.rm u)=>qe q fun t=>match t with
   | .i k=>0<=k/\D.nx (q.set i (.r (.rm (u - k))))
   | _=>False
  | _=>False
 | none=>False
def JL:R2:=rI0 fun i j=>.int (i - j)
theorem CY{α:Type}{xs:List α}{i:Nat}{x:α}(h:xs[i]? = some x):xs.set i x=xs:=by
 obtain⟨hl,e⟩:=QH.mp h;subst e;exact List.set_getElem_self hl
theorem A0{i:Nat}(he:fZ K te qe):ie K (gD (tOp JL (tOp Dg (bb i) (tC (.int 0))) te) (ym (bb i) (tC (.int 0)) C9)) (xx i qe):=fun dl H₀ hs H σ q Dq D ⟨F,r⟩ hq E=>by
 unfold xx at hq
 split at hq
 ·rename_i x ex
  split at hq
  ·rename_i u eg;obtain⟨v,hv,rp⟩:=r.g i x _ ex eg;obtain⟨p,m,rfl,h1,h2,hF⟩:=rp.r.roo;refine⟨_,hv,p,m,rfl,rfl,h1,he dl H σ q _ _ r.rd hq fun w t F1 H1 e1 r1 hz=>?_⟩
   split at hz
   ·rename_i k;obtain⟨hk,hz⟩:=hz;obtain⟨rfl,_⟩:=r1.r.int;obtain⟨y,hy,e2⟩:=e1.r p m h1;have nd:Nd dl p:=r.d.nd h1 (fun _ z=>nomatch z) (fun _ z=>nomatch z)
    refine⟨m,k,rfl,rfl,_,hv,p,y,m - k,rfl,rfl,rfl,e2,?_⟩;have ev:Evo dl H (upd H1 p (.room (m - k))):=by
     refine⟨fun b o hb n nr=>?_,fun d hd=>(e1.d d hd).oth (nd d hd).1 (nd d hd).2,fun b z hb=>?_⟩
     ·have ne:b≠p:=fun z=>by rw[z,h1]at hb;exact nr _ (Option.some.inj hb).symm
      rw[ao ne];exact e1.k b o hb n nr
     ·by_cases eb:b=p
      ·subst eb;rw[h1]at hb;cases hb;exact⟨_,Int.sub_le_self _ hk,ax⟩
      ·obtain⟨z',hz',e3⟩:=e1.r b z hb;exact⟨z',hz',by rw[ao eb];exact e3⟩
    have R2:=(r.evo ev).Lf (i:=i) (v:=.ref p) (t:=.rm (u - k)) (F':=[]) (QH.mp ex).1 ⟨.rm ax (by omega),fun _ z=>nomatch z⟩ (fun _ _ _ _ _ _=>Ts)
    rw[CY hv]at R2;exact E.nx _ _ _ ⟨_,R2⟩ hz
   ·exact hz.elim
  ·exact hq.elim
 ·exact hq.elim
theorem vA{i:Nat}{p3 p4 p5 p6 p7:Pos}{j1 j2:Nat}(ho:PE X (.Name x p1) (bb i))(ho':PE X (.Name x p3) (bb i))(he:QPE X K e te qe)
  (hs:swapsWithSole [.Subscript (.Name x p1) (.Constant (.int 0) j1 p4) pos'] (.BinOp (.Subscript (.Name x p3) (.Constant (.int 0) j2 p5) p6) .Sub e p7) pos.line X.env=pure false:=by rfl) (hw:swappedStores [.Subscript (.Name x p1) (.Constant (.int 0) j1 p4) pos'] (.BinOp (.Subscript (.Name x p3) (.Constant (.int 0) j2 p5) p6) .Sub e p7) X.env=pure none:=by rfl)
  (h1:(assignEach [.Subscript (.Name x p1) (.Constant (.int 0) j1 p4) pos'] X.env).map (·.2) = [assign (.Subscript (.Name x p1) (.Constant (.int 0) j1 p4) pos') X.env]:=by rfl)
  (ha:∀ v,assign (.Subscript (.Name x p1) (.Constant (.int 0) j1 p4) pos') X.env v =(do
   let ov <- holding [v] (eval (.Name x p1) X.env)
   let iv <- holding [v,ov] (eval (.Constant (.int 0) j1 p4) X.env)
   standAt pos'
   holding [v,ov,iv] (setItem ov iv v)
   release [v,ov,iv] []):=by intro _;rfl) :
  QPS X K (.Assign [.Subscript (.Name x p1) (.Constant (.int 0) j1 p4) pos'] (.BinOp (.Subscript (.Name x p3) (.Constant (.int 0) j2 p5) p6) .Sub e p7) pos) (gD (tOp JL (tOp Dg (bb i) (tC (.int 0))) te) (ym (bb i) (tC (.int 0)) C9)) (xx i qe) :=
 ⟨oF (cg xK (vN zP ho' br (fun _ _=>rfl)) he.h) (xG ho br CZ ha) hs hw h1,A0 he.s⟩
end
section
variable{X:Cx}{K:W.Frag}{e a b o:Expr}{es:List Expr}{te tk tv:TE}{tl:TA}{qe qk qv:QE}{ql:QA}{pos p:Pos}{k:Nat}{f:Addr}{prs:List Str}{ps:PSp}{i:Nat}
structure FZ(X:Cx)(K:W.Frag)(es:List Expr)(tl:TA)(i j:Nat)(ql:QA):Prop where
 h:PA X es tl
 s:∀(dl:Dl)(H:Hp)(σ:St)(q:Sq)(v0:V)(Q:List T->Prop)(R:List V->Hp->Prop),RdR K dl H σ q->σ[i]? = some (some v0)->ql q Q ->
  (∀ vs ts H',Evo dl H H'->vs.length=ts.length->vs[j]? = some v0 ->(∀ n v t,n≠j->vs[n]? = some v->ts[n]? = some t->Rp K dl H' v t [])->Q ts->R vs H')->tl σ H R
theorem au.im1{vs:List V}{ts:List T}{F:List Addr}(h:au K dl H vs ts F)(him:T.ims ts=true):∀(n:Nat)(v:V)(t:T),vs[n]? = some v->ts[n]? = some t->aA K dl H v t []:=by
 obtain rfl:=h.im him;intro n v t h1 h2;obtain⟨v',G,e1,r,s⟩:=h.Mg h2;rw[h1]at e1;cases e1;rw[Ve.mp s]at r;exact r
theorem Hc(hx:PE X e (bb i))(hr:QPA X K es tl ql)(hs:SN (e::es) X.env =(false,eval e X.env)::SN es X.env:=by rfl):FZ X K (e::es) (bC (bb i) tl) i 0 (fun q Q=>ql q fun ts=>T.ims ts=true/\Q (.n::ts)) :=
 ⟨a9 hx hr.h hs,fun dl H σ q v0 Q R rd hv hq k=>⟨v0,hv,hr.s dl H σ q _ _ rd hq fun vs ts F H1 e1 r1 l1 hz=>k _ (.n::ts) H1 e1 (by simp[r1.r.len]) rfl (fun n v t ne h1 h2=>by
  cases n with
  | zero=>exact absurd rfl ne
  | succ n=>exact⟨r1.r.im1 hz.1 n v t (by simpa using h1) (by simpa using h2),fun _ z=>nomatch z⟩) hz.2⟩⟩
theorem zj(he:QPE X K e te qe)(hr:FZ X K es tl i j ql)(hs:SN (e::es) X.env =(false,eval e X.env)::SN es X.env:=by rfl):FZ X K (e::es) (bC te tl) i (j+1) (fun q Q=>qe q fun t=>t.im=true/\ql q fun ts=>Q (t::ts)) :=
 ⟨a9 he.h hr.h hs,fun dl H σ q v0 Q R rd hv hq k=>he.s dl H σ q _ _ rd hq fun v t F H1 e1 r1 hz=>hr.s dl H1 σ q v0 _ _ (rd.evo e1) hv hz.2 fun vs ts H2 e2 l2 hj ho z=>by
  have r2:=r1.evo e1.d e2;obtain rfl:=r1.r.im hz.1;exact k (v::vs) (t::ts) H2 (e1.trans e2) (by simp[l2]) (by simpa using hj) (fun n w u ne h1 h2=>by
   cases n with
   | zero=>simp at h1 h2;subst h1 h2;exact r2
   | succ n=>exact ho n w u (fun z=>ne (by rw[z])) (by simpa using h1) (by simpa using h2)) z⟩
end
def T.dof:T->Option (List (Key×T))
 | .d ks=>some ks
 | .fd _ _ ks=>some ks
 | .dp _ ks=>some ks
 | _=>none
variable{kvs:List (Key×V)}{neg:Bool}
section
variable{X:Cx}{K:W.Frag}{v:V}{F:List Addr}{a b c e:Expr}{ta tb tk tx te:TE}{qa qb qk qx qe:QE}{pos apos aV:Pos}
theorem aA.dof{t:T}{ks:List (Key×T)}(h:aA K dl H v t F)(e:t.dof=some ks):∃ a vs G,v = .ref a/\Rd H a (.dK vs)/\aQ K dl H vs ks G/\∀ b∈G,b∈F:=by
 cases t with
 | d ks' =>
  cases e;obtain⟨a,vs,G,rfl,rfl,h1,h2⟩:=h.dic;exact⟨a,vs,G,rfl,.inl h1,h2,fun _ hb=>SK _ hb⟩
 | fd o vs ks' =>
  cases e;obtain⟨a,rfl,rfl,h1,h2⟩:=h.Sj;exact⟨a,vs,[],rfl,.inr ⟨_,h1⟩,h2,fun _ hb=>hb⟩
 | dp a ks' =>
  cases e;obtain⟨vs,G,rfl,rfl,h1,h2⟩:=h.dpp;exact⟨a,vs,G,rfl,.inl h1,h2,fun _ hb=>SK _ hb⟩
 | _=>cases e
theorem jb.rd{a:Addr}{k:Key}(e:Rd H a (.dK kvs)):jb H a (kV k) (dR kvs k):=.inl ⟨kvs,k,e,rfl,rfl⟩
def JO(neg:Bool):Q2:=fun t u Q=>match u.dof with
 | some ks=>match t.key with
  | some k=>Q (.b (if neg then !(bS ks k).isSome else(bS ks k).isSome))
  | none=>False
 | none=>False
theorem og:dq K (KR neg) (JO neg):=by
 intro dl H x y t u F G Q R D r1 r2 hq k;unfold JO at hq
 split at hq
 ·rename_i ks eks
  split at hq
  ·rename_i k0 ek;obtain⟨p,vs,G,rfl,h1,h2,_⟩:=r2.r.dof eks;rw[r1.r.key ek];refine⟨p,_,rfl,jb.rd h1,k _ _ [] H (.refl D) (.c (.b _)) (fun _ z=>nomatch z) S6 ?_⟩
   have e:(dR vs k0).isSome =(bS ks k0).isSome:=by
    rcases h2.look k0 with⟨z1,z2⟩ |⟨_,_,_,z1,z2,_⟩
    ·rw[z1,z2];rfl
    ·rw[z1,z2];rfl
   rw[e];exact hq
  ·exact hq.elim
 ·exact hq.elim
def vG:Q2:=fun t u Q=>match t.dof with
 | some ks=>match u.key with
  | some k=>∃ x,bS ks k=some x/\Q x
  | none=>False
 | none=>False
def Dh:R2:=fun x y H Q=>∃ a kvs k v,x = .ref a/\y=kV k/\Rd H a (.dK kvs)/\dR kvs k=some v/\Q v H
theorem EK:IxR X Dh:=by
 intro value slice gV s σ H x y v u Q I rx ry h hs;obtain⟨a,kvs,k,w,rfl,rfl,ha,hv,q⟩:=h;cases rx;obtain⟨z,hd,vs,rel,dd⟩:=mW I.hok ha;obtain⟨w',hw,rw'⟩:=kq.some_of (v:=w) (o:=valueAt vs k) (by rw[<- hv];exact rel.val k)
 exact subscriptTail_builtinR (x:=w') dd.typeIs PySem.F.slot_dict_getitem.lookup (wpAny_getItem_of (Q:=fun r s'=>r=w'/\EP X gV σ Q r s') (mV ry) dd.mapOf hw ⟨rfl,w,H,I.tok _,rw',q⟩) hs
theorem CP:FW K Dh vG:=by
 intro dl H x y t u F G Q R D r1 r2 hq k;unfold vG at hq
 split at hq
 ·rename_i ks eks
  split at hq
  ·rename_i k0 ek;obtain⟨z,hz,hq⟩:=hq;obtain⟨p,vs,G,rfl,h1,h2,sub⟩:=r1.r.dof eks;rw[r2.r.key ek];rcases h2.look k0 with⟨z1,z2⟩ |⟨t',v,G',z1,z2,z3,z4⟩
   ·rw[z1]at hz;cases hz
   ·rw[z1]at hz;cases hz;exact⟨p,vs,k0,v,rfl,rfl,h1,z2,k v _ G' H (.refl D) (Rp.sub z3 r1.n fun b hb=>sub b (z4 b hb)) hq⟩
  ·exact hq.elim
 ·exact hq.elim
theorem dE(ha:QPE X K a ta qa)(hb:QPE X K b tb qb)(hs:lD b:=by intro _ _;rfl):QPE X K (.Subscript a b pos) (tOp Dh ta tb) (qOp vG qa qb):=⟨vN EK ha.h hb.h hs,sj CP ha.s hb.s⟩
def rj:List V->Hp->VK->Prop:=fun xs H Q=>∃(p:Addr)(kvs:List (Key×V)),xs = [.ref p]/\Rd H p (.dK kvs)/\∀ d,H d=none->Q (.ref d) (upd H d (.dK kvs))
theorem pT:cI X (.type "dict") rj:=by
 intro gV s σ H xs us Q I r h;obtain⟨p,kvs,rfl,hp,q⟩:=h;obtain⟨u,rfl,ru⟩:=vals1 r;cases ru;obtain⟨z,hsm,vs,kv,dd⟩:=mW I.hok hp;refine callType_codes (Q₁:=fun obj s₁=>obj = .ref s.heap.objs.size/\s₁ ={ s with heap:=s.heap.push { cls:=.type "dict",data:=.dict #[] } }) F.kt_called_dict (F.kt_typeCall_dict_1 _) F.entry_dict_init (kt_code_dict_new _ ⟨rfl,rfl⟩) ?_
 rintro obj s₁ ⟨rfl,rfl⟩
 have yh:(s.heap.push { cls:=.type "dict",data:=.dict #[] }).DictOf (bh X.prog X.w) s.heap.objs.size []:=Heap.DictOf.new s.heap;have hlt:p<s.heap.objs.size:=by
  obtain⟨o,_,_,e,_⟩:=dd;exact Sy e
 have dd':(s.heap.push { cls:=.type "dict",data:=.dict #[] }).DictOf (bh X.prog X.w) p vs:=by
  obtain⟨o,es,ep,e,r⟩:=dd;exact⟨o,es,ep,j5 _ e,r⟩
 have nod:(vs.map (·.1)).Nodup:=by
  obtain⟨o,es,ep,_,_,_,_,_,n⟩:=dd;exact n
 have hkl:kvs.length=vs.length:=Paired.length kv;refine⟨yh.typeIs,F.args_dict_init_2 _ _,?_⟩;unfold Builtin.«dict.__init__»;refine j0 ?_;unfold Builtin.Dict.selfAndRest;refine j0 (wpAny_notOrdered_dict yh.typeIs ?_);show wpAny _ _ (pure (s.heap.objs.size,[Value.ref p])) _ _ _;refine M7 ?_;show wpAny _ _ (Builtin.Dict.updateFrom "dict.__init__" s.heap.objs.size (.ref p) [] .none) _ _ _;unfold Builtin.Dict.updateFrom;refine j0 (Uo dd'.typeIs ?_);rw[if_neg (by decide)]
 refine j0 ?_;unfold Builtin.Dict.merge;refine j0 ?_;unfold Builtin.Dict.readDirectly;refine j0 (Uu dd'.typeIs isSubtype_dict_dict ?_);simp only[Bool.not_true,UW,if_false];refine j0 (UL dd'.typeIs F.slot_dict_iter.lookup (M7 ?_));simp only[beq_self_eq_true,if_true];refine j0 (M7 ?_);refine wpAny_mergeDict (hsz:=by simp only[Ur];omega) (T8 hlt) hsm yh dd' fun h' hd' ho' hs'=>?_
 show wpAny _ _ (Builtin.Dict.addKeywords _ [] >>= _) _ _ _;rw[merged_nil_of_nodup _ nod]at hd';refine j0 (M7 (M7 ⟨rfl,.ref s.heap.objs.size,_,I.laid (h':=h') (a:=s.heap.objs.size) (o:=.dK kvs) (fun b u e=>?_) (S3 _) (pJ z ?_ kv hd'),rfl,q _ (I.hok.fresh (S3 _))⟩))
 ·rw[hs'.2 b (Tf (Sy e))];exact j5 _ e
 ·have:=I.big
  exact beq_eq_false_iff_ne.mpr (T8 this)
def lU:QC:=fun ts Q=>match ts with
 | [t]=>match t.dof with
  | some ks=>T.imk ks=true/\Q (.d ks)
  | none=>False
 | _=>False
theorem sr:qd K rj lU:=by
 intro dl H vs ts F Q R D r hq k;unfold lU at hq
 split at hq
 ·split at hq
  ·rename_i ks eks;obtain⟨v,rfl,r1⟩:=r.one;obtain⟨p,kvs,G,rfl,h1,h2,sub⟩:=r1.r.dof eks;obtain rfl:=h2.im hq.1;refine⟨p,kvs,rfl,h1,fun d hd=>?_⟩
   have ev:Evo dl H (upd H d (.dK kvs)):=(Evo.refl D).new hd;exact k _ _ [d] _ ev ⟨.d ax (h2.cY (ev.tf D) (fun _ z=>z) fun _ z=>nomatch z),fun b hb=>by rw[qr.mp hb];exact D.nd0 hd⟩ (fun b hb=>by rw[qr.mp hb];exact hd) (by simp) hq.2
  ·exact hq.elim
 ·exact hq.elim
def JD(te:TE):TE:=fun σ H Q=>te σ H fun v H1=>∃ a kvs,v = .ref a/\H1 a=some (.dK kvs)/\∀ o,Q v (upd H1 a (.frz o (.dK kvs)))
theorem HI(he:PE X e te):PE X e (JD te):=by
 intro gV s σ H Q I h;refine thn (he gV s σ H _ I h) fun u s' hPP=>?_
 obtain⟨v,H',I',r,a,kvs,e1,e2,q⟩:=hPP;obtain⟨_,o,I2⟩:=I'.freeze e2;exact⟨v,_,I2,r,q o⟩
def NF(qe:QE):QE:=fun q Q=>qe q fun t=>match t with
 | .d ks=>T.imk ks=true/\∀ o vs,Q (.fd o vs ks)
 | _=>False
theorem TF.O8{p:Addr}{kv:List (Key×V)}{o:Obj}{u:HO}(hp:H p=some (.dK kv)):TF H (upd H p (.frz o u)) :=
 have ne:∀{a:Addr}{o:HO},H a=some o ->(∀ kv,o ≠ .dK kv)->a≠p:=fun h n e=>by rw[e,hp]at h;exact n _ (Option.some.inj h).symm
 ⟨fun a vs h=>by rw[ao (ne h fun _ z=>nomatch z)];exact h,fun a o u h=>by rw[ao (ne h fun _ z=>nomatch z)];exact h,fun a φ h=>by rw[ao (ne h fun _ z=>nomatch z)];exact h,fun a xs h=>⟨xs,by rw[ao (ne h fun _ z=>nomatch z)];exact h⟩,fun a x h=>⟨x,Uc _,by rw[ao (ne h fun _ z=>nomatch z)];exact h⟩⟩
theorem Hj(he:QPF X K e te qe):QPF X K e (JD te) (NF qe):=⟨HI he.h,fun dl H σ q Q R rd hq k=>he.s dl H σ q _ _ rd hq fun v t F H1 e1 r1 f1 n1 hz=>by
 split at hz
 ·rename_i ks;obtain⟨p,vs,G,rfl,rfl,h1,h2⟩:=r1.r.dic;obtain rfl:=h2.im hz.1;exact⟨p,vs,rfl,h1,fun o=>k _ (.fd o vs ks) [] _ (e1.fresh (f1 p SG) (r1.n p SG)) ⟨.fd ax (h2.cY (TF.O8 h1) (fun _ z=>z) fun _ z=>nomatch z),fun _ z=>nomatch z⟩ (fun _ z=>nomatch z) S6 (hz.2 o vs)⟩
 ·exact hz.elim⟩
end
section
variable{X:Cx}{K:W.Frag}{t:TS}{qt:QS}
def Cw(i:Nat)(t:TS):TS:=fun D σ H=>∃ a kvs,σ[i]? = some (some (.ref a))/\H a=some (.dK kvs)/\∀ o,t D σ (upd H a (.frz o (.dK kvs)))
theorem Li{i:Nat}(h:PS X st t):PS X st (Cw i t):=by
 intro gV s σ H D I z;obtain⟨a,kvs,_,ha,k⟩:=z;obtain⟨_,o,I1⟩:=I.freeze ha;exact h gV s σ _ D I1 (k o)
def DM(i:Nat)(qt:QS):QS:=fun D q=>match q[i]? with
 | some (.o (.d ks))=>T.imk ks=true/\∀ o vs,qt D (q.set i (.o (.fd o vs ks)))
 | _=>False
theorem Rel.frz{dl:Dl}{H₀ H:Hp}{hs:List (V×T)}{σ:St}{q:Sq}{F:Nat->List Addr}{i:Nat}{a:Addr}{vs:List (Key×V)}{ks:List (Key×T)}{o:Obj}(r:Rel K dl H₀ hs H σ q F)(ei:q[i]? = some (.o (.d ks)))(hv:σ[i]? = some (some (.ref a)))(eF:F i = [a])(rp:Rp K dl H (.ref a) (.d ks) (F i))(h1:H a=some (.dK vs))(h2:aQ K dl H vs ks []):i8 K dl H₀ hs (upd H a (.frz o (.dK vs))) σ (q.set i (.o (.fd o vs ks))):=by
 refine⟨vv F i [],?_⟩;have tf:=TF.O8 (o:=o) (u:=.dK vs) h1;have na:Nd dl a:=rp.n a (by rw[eF];exact SG)
 obtain⟨o1,o2,o3⟩:=r.o i _ ei;have st:∀{w:V}{u:T}{Fw:List Addr},Rp K dl H w u Fw->a ∉ Fw->Rp K dl (upd H a (.frz o (.dK vs))) w u Fw:=fun{w u Fw} h np =>
  ⟨h.r.cY tf (fun _ z=>z) fun b hb ob e=>(by
   have n0:b≠a:=fun z=>np (by rw[<- z];exact hb)
   rw[ao n0];exact e),h.n⟩
 refine⟨fun d hd=>(r.d d hd).oth (na d hd).1 (na d hd).2,fun j x u h3 h4=>?_,fun j x h3 h4=>?_,fun j hj=>?_,fun j u h3=>?_,fun p hp=>?_,⟨fun b ob hb nb nr=>?_,fun b x hb=>?_⟩,by simp[r.l]⟩
 ·rcases get_set h3 with⟨rfl,rfl,_⟩ |⟨ne,h3⟩
  ·cases h4;exact⟨_,hv,by rw[aO];exact⟨.fd ax (h2.cY tf (fun _ z=>z) fun _ z=>nomatch z),fun _ z=>nomatch z⟩⟩
  ·obtain⟨w,h5,h6⟩:=r.g j x u h3 h4;exact⟨w,h5,by rw[aE ne];exact st h6 (o3 j ne a (by rw[eF];exact SG))⟩
 ·rcases get_set h3 with⟨rfl,rfl,_⟩ |⟨ne,h3⟩
  ·cases h4
  ·rw[aE ne];exact r.n j x h3 h4
 ·rw[Ue]at hj;by_cases e:j=i
  ·rw[e,aO]
  ·rw[aE e];exact r.z j hj
 ·rcases get_set h3 with⟨rfl,e,_⟩ |⟨ne,h3⟩
  ·rw[aO];exact⟨S6,fun _ z=>absurd z Ts,fun _ _ _ z=>absurd z Ts⟩
  ·rw[aE ne];obtain⟨p1,p2,p3⟩:=r.o j u h3;refine⟨p1,p2,fun k hk b hb=>?_⟩
   by_cases ek:k=i
   ·rw[ek,aO];exact Ts
   ·rw[aE ek];exact p3 k hk b hb
 ·obtain⟨Fp,h3,h4⟩:=r.h p hp;refine⟨Fp,st h3 (h4 i _ ei a (by rw[eF];exact SG)),fun j u hj b hb z=>?_⟩
  rcases get_set hj with⟨rfl,e,_⟩ |⟨ne,hj⟩
  ·rw[aO]at hb;cases hb
  ·rw[aE ne]at hb;exact h4 j u hj b hb z
 ·have n0:b≠a:=fun z=>by rw[z,o2 a (by rw[eF];exact SG)]at hb;cases hb
  rw[ao n0];exact r.f.k b ob hb nb nr
 ·have n0:b≠a:=fun z=>by rw[z,o2 a (by rw[eF];exact SG)]at hb;cases hb
  rw[ao n0];exact r.f.r b x hb
theorem CQ{i:Nat}(h:ie K t qt):ie K (Cw i t) (DM i qt):=fun dl H₀ hs H σ q Dq D ⟨F,r⟩ hq E=>by
 unfold DM at hq
 split at hq
 ·rename_i ks ei;obtain⟨v,hv,rp⟩:=r.g i _ _ ei rfl;obtain⟨a,vs,G,rfl,eF,h1,h2⟩:=rp.r.dic;obtain rfl:=h2.im hq.1;exact⟨a,vs,hv,h1,fun o=>h dl H₀ hs _ σ _ Dq D (r.frz ei hv eF rp h1 h2) (hq.2 o vs) E⟩
 ·exact hq.elim
theorem KZ{i:Nat}(h:QPS X K st t qt):QPS X K st (Cw i t) (DM i qt):=⟨Li h.h,CQ h.s⟩
end
section
variable{X:Cx}{σ:St}{s:Shared}{u1 u2 v1 v2:HO}{C:Addr}{fs:List (Str×V)}
theorem Inv.C6(I:Inv X gV σ H s)(ne:d≠a)(ha:H a=some v1)(hd:H d=some v2)(t1:∀ xs,v1 ≠ .tup xs)(t2:∀ xs,v2 ≠ .tup xs)(b1:∀ ps,v1 ≠ .tbl ps)(b2:∀ ps,v2 ≠ .tbl ps)(z1:∀ o v,v1 ≠ .frz o v)(z2:∀ o v,v2 ≠ .frz o v)(w1:∀ c,v1 ≠ .own c)(w2:∀ c,v2 = .own c->c=a)
  (RD:a5 X.prog X.w (upd (upd H a u1) d u2) s.heap a u1) (RC:a5 X.prog X.w (upd (upd H a u1) d u2) s.heap d u2):Inv X gV σ (upd (upd H a u1) d u2) s:=by
 have nea:∀{b:Addr}{o:HO},H b=some o->o≠v1->b≠a:=fun e n z=>by rw[z,ha]at e;exact n (Option.some.inj e).symm
 have ned:∀{b:Addr}{o:HO},H b=some o->o≠v2->b≠d:=fun e n z=>by rw[z,hd]at e;exact n (Option.some.inj e).symm
 have n0:∀{b:Addr},H b=none->b≠a/\b≠d:=fun{b} e=>⟨fun z=>(by rw[z,ha]at e;cases e),fun z=>(by rw[z,hd]at e;cases e)⟩
 have st:∀{b:Addr},b≠a->b≠d->upd (upd H a u1) d u2 b=H b:=fun h1 h2=>by rw[ao h2,ao h1]
 refine⟨I.ok,I.os,I.bare,⟨I.base.keep,I.base.slot,fun b o e n hx=>?_,I.base.there,fun b xs e=>?_,fun b o v e=>?_,fun b ps e=>?_⟩,I.loc,I.cell,?_,fun x c e=>?_,fun p hp=>?_,fun b o e=>?_,I.len⟩
 ·have:=I.base.free b o e n hx
  rw[st (n0 this).1 (n0 this).2];exact this
 ·have:=I.base.nV b xs e
  rw[st (nea this fun z=>t1 _ z.symm) (ned this fun z=>t2 _ z.symm)]
  exact this
 ·have:=I.base.j9 b o v e
  rw[st (nea this fun z=>z1 _ _ z.symm) (ned this fun z=>z2 _ _ z.symm)]
  exact this
 ·obtain⟨more,this⟩:=I.base.nW b ps e;refine⟨more,?_⟩;rw[st (nea this fun z=>b1 _ z.symm) (ned this fun z=>b2 _ z.symm)]
  exact this
 ·rw[st (n0 I.free).1 (n0 I.free).2];exact I.free
 ·rw[st (n0 (I.eQ x c e)).1 (n0 (I.eQ x c e)).2];exact I.eQ x c e
 ·obtain⟨p1,p2,p3⟩:=I.pin p hp;exact⟨p1,by rw[st (n0 p2).1 (n0 p2).2];exact p2,p3⟩
 ·by_cases hbd:b=d
  ·subst hbd;rw[ax]at e;cases e;exact RC
  ·by_cases hba:b=a
   ·subst hba;rw[ao hbd,ax]at e;cases e;exact RD
   ·rw[st hba hbd]at e;refine(I.hok b o e).cY (fun _ _ _ q=>q) (fun c q=>?_) fun c xs q=>?_
    ·rw[st (nea q fun z=>w1 _ z.symm) (fun z=>by rw[z,hd]at q;exact hba (w2 b (Option.some.inj q)))];exact q
    ·rw[st (nea q fun z=>t1 _ z.symm) (ned q fun z=>t2 _ z.symm)];exact q
theorem Inv.MX(I:Inv X gV σ H s)(ha:H a=some (.ins C d fs)):d≠a/\fs.length<=1000/\H d=some (.own a)/\Inv X gV σ (upd (upd H a (.ext (qS a C d))) d (.ext (XD d fs))) s:=by
 obtain⟨hd,hl,ne,e,mA,n,r,w⟩:=(show a5 X.prog X.w H s.heap a (.ins C d fs)from I.hok a _ ha);exact⟨ne,hl,hd,I.C6 ne ha hd (fun _ z=>nomatch z) (fun _ z=>nomatch z) (fun _ z=>nomatch z) (fun _ z=>nomatch z) (fun _ _ z=>nomatch z) (fun _ _ z=>nomatch z) (fun _ z=>nomatch z) (fun c z=>by cases z;rfl)
  ⟨e,⟨_,e⟩,fun h1 h2 p k=>k _ p⟩ (XD.ok ⟨mA,n,r,w⟩)⟩
theorem Inv.Rw(I:Inv X gV σ H s)(ne:d≠a)(hl:fs.length<=1000)(ha:H a=some (.ext (qS a C d)))(hd:H d=some (.ext (XD d fs))):Inv X gV σ (upd (upd H a (.ins C d fs)) d (.own a)) s:=by
 have e:qS a C d s.heap:=(I.hok a _ ha).1;obtain⟨mA,n,r,w⟩:XD d fs s.heap:=(I.hok d _ hd).1;refine I.C6 ne ha hd (fun _ z=>nomatch z) (fun _ z=>nomatch z) (fun _ z=>nomatch z) (fun _ z=>nomatch z) (fun _ _ z=>nomatch z) (fun _ _ z=>nomatch z) (fun _ z=>nomatch z) (fun c z=>nomatch z) ⟨ax,hl,ne,e,mA,n,r,w⟩ ?_
 obtain⟨o,_,_,e',_⟩:=n;exact⟨o,e'⟩
end
variable{C:Addr}{ns:List Str}{prs:List Str}
section
variable{X:Cx}{K:W.Frag}{e:Expr}{es:List Expr}{te:TE}{qe:QE}{tl:TA}{ql:QA}{pos p:Pos}{f:Str}
def JF(K:W.Frag)(ta:TE)(f:Str):TE:=fun σ H Q=>ta σ H fun x H1=>∃ a C fs v,x = .ref a/\ObH H1 a C fs/\fs.length<=1000/\Cls K C/\f6 K C f/\fs.lookup f=some v/\Q v H1
theorem HK(he:PE X e te)(hb:attributeBase e f X.env (eval e X.env)=eval e X.env):PE X (.Attribute e f pos) (JF X.K te f):=by
 intro gV s σ H Q I h;refine Jn hb (thn (he gV s σ H _ I h) fun u s1 ⟨x,H1,I1,rx,a,C,fs,v,ex,⟨dx,ne,h1,h2⟩,hl,c,n,l,q⟩=>?_)
 subst ex;obtain rfl:u=Value.ref a:=rx;refine yl (I1.Rw ne hl h1 h2) (C:=C) (dx:=dx) (fs:=fs) (by rw[ao ne.symm,ax]) c n l fun u' s2 I2 ru=>⟨v,H1,?_,ru,q⟩
 obtain⟨_,_,_,I3⟩:=I2.MX (a:=a) (C:=C) (d:=dx) (fs:=fs) (by rw[ao ne.symm,ax])
 have e:upd (upd (upd (upd H1 a (.ins C dx fs)) dx (.own a)) a (.ext (qS a C dx))) dx (.ext (XD dx fs))=H1:=by
  funext b
  by_cases hbd:b=dx
  ·rw[hbd,ax,h2]
  ·by_cases hba:b=a
   ·rw[ao hbd,hba,ax,h1]
   ·rw[ao hbd,ao hba,ao hbd,ao hba]
 rw[e]at I3;exact I3
def NH(C:Addr)(f:Str)(qe:QE):QE:=fun q Q=>qe q fun t=>match t with
 | .ob C' ns ts=>C'=C/\ns.length<=1000/\∃ x,(ns.zip ts).lookup f=some x/\Q x
 | _=>False
theorem gI(hc:Cls K C)(hn:f6 K C f)(he:QPE X K e te qe)(hb:attributeBase e f X.env (eval e X.env)=eval e X.env:=by rfl)(hK:X.K=K:=by rfl):QPE X K (.Attribute e f pos) (JF K te f) (NH C f qe):=⟨by subst hK;exact HK he.h hb,fun dl H σ q Q R rd hq k=>he.s dl H σ q _ _ rd hq fun v t F H1 e1 r1 hz=>by
 split at hz
 ·obtain⟨rfl,hl,x,hx,hz⟩:=hz;obtain⟨a,vs,rfl,rfl,ho,rs⟩:=r1.r.obj;obtain⟨w,G,e2,r2,s2⟩:=rs.lookup hx;refine⟨a,_,_,w,rfl,ho,?_,hc,hn,e2,k _ _ G H1 e1 ⟨r2,fun b hb=>nomatch s2 b hb⟩ hz⟩
  rw[Us];exact Tn (Nat.min_le_left _ _) hl
 ·exact hz.elim⟩
def w6(C:Addr)(ns:List Str):Sp:=fun vs H Q _=>∃ x dx args,vs = .ref x::args/\args.length=ns.length/\H x=some (.ins C dx [])/\Q .non (upd H x (.ins C dx (ns.zip args)))
def Cv(C:Addr)(ns:List Str)(t:TA):TE:=fun σ H Q=>t σ H fun vs H1=>vs.length=ns.length/\∀ x dx,H1 x=none->H1 dx=none->dx≠x->Q (.ref x) (upd (upd H1 x (.ext (qS x C dx))) dx (.ext (XD dx (ns.zip vs))))
theorem D6{g:Addr}{k:Nat}(M:Mk X.K C g)(G:a8 X.prog X.w X.K X.mg X.base CX0 k g fd prs (w6 C ns))(hr:cK (k+1) X.A)(hg:Gl X x)(hm:X.mg x=some (.ref C))(hb:Binds X.K fd prs [])(ha:PA X (e::es) tl)
  (hdb:(x ==("__debug__":Str))=false:=by decide) (he:SN (e::es) X.env =(false,eval e X.env)::SN es X.env:=by rfl) (hpl:(backTo pos (SN es X.env)).any (·.1)=false:=by rfl) :
  PE X (.Call (.Name x p) (e::es) [] pos) (Cv C ns tl):=by
 intro gV s σ H Q I h;refine Ul (zN I hg hm ?_ hdb);refine W.callWith_K (h₀:=X.base) I.ok.mod.kin M.kp (thn (ha pos gV s σ H _ I h) fun us s1 ⟨vs,H1,I1,r,q⟩=>⟨I1.kIn,?_⟩) he hpl
 refine thn (C3 (Q:=fun v H2=>∃ a dx fs,v = .ref a/\H2 a=some (.ins C dx fs)/\Q v (upd (upd H2 a (.ext (qS a C dx))) dx (.ext (XD dx fs)))) M G hr hb .nil oJ I1 r fun x dx hx hd ne=>⟨x,dx,vs,by simp,q.1,ax,rfl,x,dx,ns.zip vs,rfl,ax,?_⟩) fun u s' ⟨v,H',I',rv,a,dx,fs,e1,e2,qq⟩=>?_
 ·have e:upd (upd (upd (upd (upd H1 dx (.own x)) x (.ins C dx [])) x (.ins C dx (ns.zip vs))) x (.ext (qS x C dx))) dx (.ext (XD dx (ns.zip vs)))=upd (upd H1 x (.ext (qS x C dx))) dx (.ext (XD dx (ns.zip vs))):=by
   funext b
   by_cases hbd:b=dx
   ·rw[hbd,ax,ax]
   ·by_cases hba:b=x
    ·rw[ao hbd,ao hbd,hba,ax,ax]
    ·rw[ao hbd,ao hba,ao hba,ao hba,ao hbd,ao hbd,ao hba]
  rw[e];exact q.2 x dx hx hd ne
 ·obtain⟨_,_,_,I2⟩:=I'.MX e2;exact⟨v,_,I2,rv,qq⟩
def La(C:Addr)(ns:List Str)(ql:QA):QE:=fun q Q=>ql q fun ts=>T.ims ts=true/\ts.length=ns.length/\Q (.ob C ns ts)
theorem oB{g:Addr}{k:Nat}(hK:X.K=K)(M:Mk K C g)(G:a8 X.prog X.w X.K X.mg X.base CX0 k g fd prs (w6 C ns))(hr:cK (k+1) X.A)(hg:Gl X x)(hm:X.mg x=some (.ref C))(hb:Binds X.K fd prs [])(ha:QPA X K (e::es) tl ql)
  (hdb:(x ==("__debug__":Str))=false:=by decide) (he:SN (e::es) X.env =(false,eval e X.env)::SN es X.env:=by rfl) (hpl:(backTo pos (SN es X.env)).any (·.1)=false:=by rfl) :
  QPF X K (.Call (.Name x p) (e::es) [] pos) (Cv C ns tl) (La C ns ql):=by
 subst hK;refine⟨D6 M G hr hg hm hb ha.h hdb he hpl,fun dl H σ q Q R rd hq k=>ha.s dl H σ q _ _ rd hq fun vs ts F H1 e1 r1 _ hz=>?_⟩
 obtain⟨z1,z2,z3⟩:=hz;obtain rfl:=r1.r.im z1;refine⟨r1.r.len.trans z2,fun x dx hx hd ne=>?_⟩
 have ev:Evo dl H1 (upd (upd H1 x (.ext (qS x C dx))) dx (.ext (XD dx (ns.zip vs)))):=((Evo.refl e1.d).new hx).new (by rw[ao ne];exact hd)
 have r2:=r1.evo e1.d ev;exact k _ _ [] _ (e1.trans ev) ⟨.ob ⟨dx,ne,by rw[ao ne.symm,ax],ax⟩ r2.r,fun _ z=>nomatch z⟩ (fun _ z=>nomatch z) S6 z3
end
variable{tg:Expr}{e:Expr}{g:Tg}
section
variable{X:Cx}{K:W.Frag}
def Dc(K:W.Frag):R2:=fun x y H Q=>∃ p q vs,x = .ref p/\y = .ref q/\SqL K H p vs/\SqL K H q []/\Q (.bl (!vs.isEmpty)) H
theorem vQ(hu:X.A.units+1<cLine)(hK:X.K=K):OpR X (compareOp .NotEq) (Dc K):=by
 subst hK;intro gV s σ H x y v u Q I rx ry h;obtain⟨p,q,vs,rfl,rfl,h1,h2,k⟩:=h;cases rx;cases ry;obtain⟨its,r1,p1,_⟩:=I.list h1;obtain⟨bJ,r2,p2,_⟩:=I.list h2;have l1:=r1.length;have l2:=r2.length;have e2:bJ.length=0:=l2.symm;by_cases hl:its.length=bJ.length
 ·refine SeqAt.RcNeAt.lists (e:=fun _=>true) p1.isList p2.isList (by simpa using hl) (by omega) (fun j g1 g2=>?_) X.prog X.w X.xe _ ⟨.bl _,H,I,rfl,?_⟩
  ·obtain⟨a,ea,ra⟩:=r2.at' g2;simp at ea
  ·have e:vs = []:=TM.mp (by omega)
   subst e;have e3:its.toArray.size=0:=by simp;exact TM.mp (by omega)
   rw[e3];exact k
 ·refine SeqAt.RcNeAt.lists_lengths p1.isList p2.isList (by simpa using hl) (by omega) X.prog X.w X.xe _ ⟨.bl _,H,I,rfl,?_⟩
  cases vs with
  | nil=>exact absurd l1.symm (by rw[<- l2]at hl;exact hl)
  | cons _ _=>exact k
def DK:Q2:=fun t u Q=>match t,u with
 | .l xs,.l []=>Q (.b (!xs.isEmpty))
 | _,_=>False
theorem rf:dq K (Dc K) DK:=by
 intro dl H x y t u F G Q R D r1 r2 hq k;unfold DK at hq
 split at hq
 ·rename_i xs;obtain⟨p,vs,G1,rfl,rfl,h1,h2⟩:=r1.r.lst;obtain⟨p',vs',G2,rfl,rfl,h3,h4⟩:=r2.r.lst;cases h4;refine⟨p,p',vs,rfl,rfl,SqL.of h1,SqL.of h3,k _ _ [] H (.refl D) (.c (.b _)) (fun _ z=>nomatch z) S6 ?_⟩
  have e:vs.isEmpty=xs.isEmpty:=by
   have:=h2.len
   cases vs <;> cases xs <;> simp at this ⊢
  rw[e];exact hq
 ·exact hq.elim
theorem N0{w1 w2:TI}(h1:PI X tg e w1)(h2:PI X tg e w2):PI X tg e (fun σ H R=>w1 σ H R\/w2 σ H R):=by
 intro gV s σ H R I h;rcases h with h|h
 ·exact h1 gV s σ H R I h
 ·exact h2 gV s σ H R I h
def asP(i:Nat):QJ:=fun q Q=>match q[i]? with
 | some (.r (.l xs))=>Q xs q
 | some (.r (.t xs))=>Q xs q
 | _=>False
theorem Dv{i:Nat}(h:PE X e (bb i))(hK:X.K=K:=by rfl):QPJ X K tg e (fun σ H R=>rG K (bb i) σ H R\/EO K (bb i) σ H R) (asP i):=⟨N0 (kN hK h) (sU hK h),fun dl H₀ hs H σ q Q R ⟨F0,r0⟩ hq k=>by
 have hold:∀{t:T}{v:V},q[i]? = some (.r t)->Rp K dl H v t (F0 i)->Rel K dl H₀ ((v,t)::hs) H σ q F0:=fun{t v} e r=>r0.hold r fun j u hj b hb=>by
  have ne:i≠j:=fun z=>by rw[z,hj]at e;cases e
  exact(r0.o j u hj).2.2 i ne b hb
 unfold asP at hq
 split at hq
 ·rename_i xs e1;obtain⟨v,hv,r⟩:=r0.g i _ _ e1 rfl;have r1:=hold e1 r;obtain⟨p,vs,G,rfl,_,h1,h2⟩:=r.r.lst;exact .inl ⟨_,hv,p,rfl,⟨vs,SqL.of h1⟩,k _ _ _ H q ⟨F0,r1⟩ kZ hq⟩
 ·rename_i xs e1;obtain⟨v,hv,r⟩:=r0.g i _ _ e1 rfl;have r1:=hold e1 r;obtain⟨p,vs,rfl,h1,h2⟩:=r.r.tup;exact .inr ⟨_,hv,p,rfl,⟨vs,SqT.of h1⟩,k _ _ _ H q ⟨F0,r1⟩ yd hq⟩
 ·exact hq.elim⟩
def DE(g:Tg)(i:Nat):QS:=fun D q=>match q[i]? with
 | some (.r t)=>∃ q',g.put t q=some q'/\D.nx q'
 | _=>False
theorem CL{i:Nat}:ie K (gD (bb i) (g.h K)) (DE g i):=fun dl H₀ hs H σ q Dq D ⟨F,r⟩ hq E=>by
 unfold DE at hq
 split at hq
 ·rename_i t ei;obtain⟨q',hq',hz⟩:=hq;obtain⟨v,hv,rp⟩:=r.g i _ _ ei rfl;exact⟨v,hv,xo r rp (fun j u hj b hb=>(r.o j u hj).2.2 i (fun z=>by rw[z,hj]at ei;cases ei) b hb) hq' fun σ' r'=>E.nx _ _ _ r' hz⟩
 ·exact hq.elim
theorem sM{i:Nat}{pos:Pos}(he:PE X e (bb i))(hg:PG X tg (g.h K))(hs:swapsWithSole [tg] e pos.line X.env=pure false:=by rfl)(hw:swappedStores [tg] e X.env=pure none:=by rfl)
  (h1:(assignEach [tg] X.env).map (·.2) = [assign tg X.env]:=by rfl):QPS X K (.Assign [tg] e pos) (gD (bb i) (g.h K)) (DE g i):=⟨oF he hg hs hw h1,CL⟩
theorem ph{xs:List T}:uW K dl (Ite K false a) (g7 xs) [(.ref a,.l xs)] where
 go:=fun H i D h hi=>by
  obtain⟨F,r⟩:=h (.ref a,.l xs) (by simp)
  obtain⟨p,vs,G,e,_,h1,h2⟩:=r.r.lst;cases e;rw[bg]at hi;have l1:i<vs.length:=by rw[h2.len];omega
  exact⟨vs,vs[i],SqL.of h1,by simp[l1]⟩
 yld:=fun H i x fp v H' D h hx y=>by
  have r:=h (.ref a,.l xs) (by simp)
  obtain⟨p,vs,G,e,eF,h1,h2⟩:=r.r.lst;cases e;obtain⟨x1,hx1,rfl⟩:=cj hx;obtain⟨w1,G1,hw1,rw1,hs1⟩:=h2.get hx1;obtain⟨q,u1,hq,rfl,rfl,y1'⟩:=y;have e1:=y1' vs (SqL.of h1);rw[hw1]at e1;cases e1;have sub:∀ b∈G1,b∈fp (.ref a,.l xs):=fun b hb=>by rw[eF];exact SK _ (hs1 b hb)
  have rs:Rps K dl H [.int (i:Nat),w1] [.i (i:Nat),x1] ([]++(G1 ++ [])):=Rps.cons ⟨.i _,fun _ z=>nomatch z⟩ (Rps.cons ⟨rw1,fun b hb=>r.n b (sub b hb)⟩ ⟨.nil,fun _ z=>nomatch z⟩)
  refine⟨(Evo.refl D).new hq,_,rs.tup D hq,fun c hb=>.inr ?_⟩
  rw[Td]at hb;exact⟨_,by simp,sub c hb⟩
 stop:=fun H D h=>by
  obtain⟨F,r⟩:=h (.ref a,.l xs) (by simp)
  obtain⟨p,vs,G,e,_,h1,h2⟩:=r.r.lst;cases e;exact⟨vs,SqL.of h1,by rw[bg,h2.len];exact S3 _⟩
def Kh(i:Nat):QJ:=fun q Q=>match q[i]? with
 | some (.o (.l xs))=>Q (g7 xs) (q.set i (.r (.l xs)))
 | some (.r (.l xs))=>Q (g7 xs) q
 | _=>False
theorem Dw{a:Expr}{x1}{pos p:Pos}{i:Nat}(hg:Gl X "enumerate")(hm:X.mg "enumerate" = none)(fj:bootBuiltins "enumerate" = some (.type "enumerate"))(h:PE X a (bb i))(hs:SN [a] X.env = [(false,eval a X.env)]:=by rfl)(hs':SN [a] X.env =(false,eval a X.env)::SN [] X.env:=by rfl)(hK:X.K=K:=by rfl) :
  QPJ X K (.Tuple elts x1 pos') (.Call (.Name "enumerate" p) [a] [] pos) (rH K false (bC (bb i) fD)) (Kh i):=⟨kO hK hg hm fj (a9 h c9 hs') hs,fun dl H₀ hs H σ q Q R ⟨F0,r0⟩ hq k=>by
 unfold Kh at hq
 split at hq
 ·rename_i xs e1;obtain⟨v,hv,r⟩:=r0.g i _ _ e1 rfl;obtain⟨o1,o2,o3⟩:=r0.o i _ e1;have r1:=(r0.down e1).hold r fun j u hj b hb=>by
   rcases get_set hj with⟨_,z,_⟩ |⟨ne,hj⟩
   ·cases z
   ·exact(r0.o j u hj).2.2 i (fun z=>ne z.symm) b hb
  obtain⟨p,vs,G,rfl,_,h1,h2⟩:=r.r.lst;exact⟨_,hv,p,rfl,⟨vs,SqL.of h1⟩,k _ _ _ H _ ⟨F0,r1⟩ ph hq⟩
 ·rename_i xs e1;obtain⟨v,hv,r⟩:=r0.g i _ _ e1 rfl;have r1:=r0.hold r fun j u hj b hb=>(r0.o j u hj).2.2 i (fun z=>by subst z;rw[e1]at hj;cases hj) b hb
  obtain⟨p,vs,G,rfl,_,h1,h2⟩:=r.r.lst;exact⟨_,hv,p,rfl,⟨vs,SqL.of h1⟩,k _ _ _ H _ ⟨F0,r1⟩ ph hq⟩
 ·exact hq.elim⟩
end
def Alk:Nat->T->T->Prop
 | 0,t,u=>(∃ x y,t = .s x/\u = .s y)\/∃ x y,t = .i x/\u = .i y
 | n+1,t,u=>(∃ x y,t = .s x/\u = .s y)\/(∃ x y,t = .i x/\u = .i y)\/∃ ts us,t = .t ts/\u = .t us/\∀(j:Nat)(x y:T),ts[j]? = some x->us[j]? = some y->Alk n x y
def Dep:Nat->T->Prop
 | 0,t=>(∃ x,t = .s x)\/∃ x,t = .i x
 | n+1,t=>(∃ x,t = .s x)\/(∃ x,t = .i x)\/∃ ts,t = .t ts/\∀ x∈ts,Dep n x
theorem Dep.s:Dep n (.s x):=by cases n <;> exact .inl ⟨x,rfl⟩
theorem Dep.i{x:Int}:Dep n (.i x):=by
 cases n
 ·exact .inr ⟨x,rfl⟩
 ·exact .inr (.inl ⟨x,rfl⟩)
theorem Dep.t{ts:List T}(h:∀ x∈ts,Dep n x):Dep (n+1) (.t ts):=.inr (.inr ⟨ts,rfl,h⟩)
theorem Dep.mono{m:Nat}{t:T}(h:Dep n t)(hm:n<=m):Dep m t:=by
 induction n generalizing m t with
 | zero =>
  rcases h with⟨x,rfl⟩ |⟨x,rfl⟩
  ·exact Dep.s
  ·exact Dep.i
 | succ n ih =>
  rcases h with⟨x,rfl⟩ |⟨x,rfl⟩ |⟨ts,rfl,h⟩
  ·exact Dep.s
  ·exact Dep.i
  ·obtain⟨k,rfl⟩:∃ k,m=k+1:=⟨m - 1,by omega⟩
   exact Dep.t fun x hx=>ih (h x hx) (by omega)
theorem Dep.alk{t:T}(h:Dep n t):Alk n t t:=by
 induction n generalizing t with
 | zero =>
  rcases h with⟨x,rfl⟩ |⟨x,rfl⟩
  ·exact .inl ⟨x,x,rfl,rfl⟩
  ·exact .inr ⟨x,x,rfl,rfl⟩
 | succ n ih =>
  rcases h with⟨x,rfl⟩ |⟨x,rfl⟩ |⟨ts,rfl,h⟩
  ·exact .inl ⟨x,x,rfl,rfl⟩
  ·exact .inr (.inl ⟨x,x,rfl,rfl⟩)
  ·refine .inr (.inr ⟨ts,ts,rfl,rfl,fun j x y hx hy=>?_⟩)
   rw[hx]at hy;cases hy;exact ih (h x (RB hx))
variable{G:List Addr}
section
variable{X:Cx}{K:W.Frag}
theorem yF{s:Shared}{t u:T}{v w:V}{F:List Addr}{x y:Value}(h:(∃ x y,t = .s x/\u = .s y)\/∃ x y,t = .i x/\u = .i y)(r1:aA K dl H v t F)(r2:aA K dl H w u G)(rx:RelV v x)(ry:RelV w y):∃ c:Bool,(c=true ↔ t=u)/\SeqAt.EqAt A s x y c:=by
 rcases h with⟨z,z',rfl,rfl⟩ |⟨z,z',rfl,rfl⟩
 ·obtain⟨rfl,_⟩:=r1.str;obtain⟨rfl,_⟩:=r2.str;exact⟨_,by simp[eqV],mz (A:=A) (s:=s) rx ry rfl rfl⟩
 ·obtain⟨rfl,_⟩:=r1.int;obtain⟨rfl,_⟩:=r2.int;exact⟨_,by simp[eqV],mz (A:=A) (s:=s) rx ry rfl rfl⟩
theorem uq{ts us:List T}{n n1 n2:Nat}{e:Nat->Bool}(hn:n1=ts.length)(hm:n2=us.length)(he:∀(j:Nat)(x y:T),ts[j]? = some x->us[j]? = some y ->(e j=true ↔ x=y)):((TR (min n1 n2)).all e&&n1==n2)=true ↔ ts=us:=by
 subst hn hm;rw[To,T9,beq_iff_eq]
 constructor
 ·rintro⟨h1,h2⟩
  refine Vf h2 fun i g1 g2=>?_
  exact(he i _ _ (Es g1) (Es g2)).mp (h1 i (Ux.mpr (by omega)))
 ·rintro rfl
  refine⟨fun j hj=>?_,rfl⟩
  have hj:j<ts.length:=by have:=Ux.mp hj;omega
  exact(he j _ _ (Es hj) (Es hj)).mpr rfl
theorem FV:∀(n:Nat){t u:T}{v:V}{F G:List Addr},Alk n t u->aA K dl H v t F->aA K dl H v u G->t=u:=by
 intro n;have sc:∀{t u:T}{v:V}{F G:List Addr},((∃ x y,t = .s x/\u = .s y)\/∃ x y,t = .i x/\u = .i y)->aA K dl H v t F->aA K dl H v u G->t=u:=fun h r1 r2=>by
  rcases h with⟨z,z',rfl,rfl⟩ |⟨z,z',rfl,rfl⟩
  ·obtain⟨rfl,_⟩:=r1.str;obtain⟨e,_⟩:=r2.str;cases e;rfl
  ·obtain⟨rfl,_⟩:=r1.int;obtain⟨e,_⟩:=r2.int;cases e;rfl
 induction n with
 | zero=>exact fun h r1 r2=>sc h r1 r2
 | succ n ih =>
  intro t u v F G h r1 r2;rcases h with h|h |⟨ts,us,rfl,rfl,ht⟩
  ·exact sc (.inl h) r1 r2
  ·exact sc (.inr h) r1 r2
  ·obtain⟨a,vs,rfl,h1,f1⟩:=r1.tup;obtain⟨b,ws,e,h2,f2⟩:=r2.tup;cases e;rw[h1]at h2;cases h2;have l3:=f1.len;have l4:=f2.len;refine congrArg L2.T.t (Vf (by omega) fun i g1 g2=>?_)
   have gv:i<vs.length:=by omega
   obtain⟨t1,G1,et1,rt1⟩:=gc f1 (Es gv);obtain⟨t2,G2,et2,rt2⟩:=gc f2 (Es gv);rw[Es g1]at et1;rw[Es g2]at et2;cases et1;cases et2;exact ih (ht i _ _ (Es g1) (Es g2)) rt1 rt2
theorem E8{σ:St}{s:Shared}(I:Inv X gV σ H s)(hK:X.K=K):∀(n:Nat)(A:Around)(t u:T)(v w:V)(F G:List Addr)(x y:Value),Alk n t u->aA K dl H v t F->aA K dl H w u G->RelV v x->RelV w y->A.units+n<cLine->∃ c:Bool,(c=true ↔ t=u)/\SeqAt.EqAt A s x y c:=by
 intro n
 induction n with
 | zero =>
  intro A t u v w F G x y ht r1 r2 rx ry hu;exact yF ht r1 r2 rx ry
 | succ n ih =>
  intro A t u v w F G x y ht r1 r2 rx ry hu;rcases ht with h|h |⟨ts,us,rfl,rfl,ht⟩
  ·exact yF (.inl h) r1 r2 rx ry
  ·exact yF (.inr h) r1 r2 rx ry
  ·obtain⟨a,vs,rfl,h1,f1⟩:=r1.tup;obtain⟨b,ws,rfl,h2,f2⟩:=r2.tup;cases rx;cases ry;obtain⟨its,q1,p1,_⟩:=I.tuple (SqT.of h1);obtain⟨bJ,q2,p2,_⟩:=I.tuple (SqT.of h2);have l1:=q1.length;have l2:=q2.length;have l3:=f1.len;have l4:=f2.len;have go:∀ j,∃ c:Bool,∀(g1:j<its.toArray.size)(g2:j<bJ.toArray.size),(∀(x y:T),ts[j]? = some x->us[j]? = some y ->(c=true ↔ x=y))/\SeqAt.EqAt A.in1 s its.toArray[j] bJ.toArray[j] c:=fun j=>by
    by_cases g:j<its.toArray.size/\j<bJ.toArray.size
    ·obtain⟨g1,g2⟩:=g;obtain⟨v1,e1,rv1⟩:=q1.at' g1;obtain⟨v2,e2,rv2⟩:=q2.at' g2;obtain⟨t1,G1,et1,rt1⟩:=gc f1 e1;obtain⟨t2,G2,et2,rt2⟩:=gc f2 e2;obtain⟨c,hc,hE⟩:=ih A.in1 t1 t2 v1 v2 G1 G2 _ _ (ht j t1 t2 et1 et2) rt1 rt2 rv1 rv2 (by show A.units+1+n<_;omega)
     refine⟨c,fun _ _=>⟨fun x y hx hy=>?_,hE⟩⟩
     rw[et1]at hx;rw[et2]at hy;cases hx;cases hy;exact hc
    ·exact⟨true,fun g1 g2=>absurd ⟨g1,g2⟩ g⟩
   have hc:=fun j=>Classical.choose_spec (go j)
   have key:((TR (min its.toArray.size bJ.toArray.size)).all (fun j=>Classical.choose (go j))&&its.toArray.size==bJ.toArray.size)=true ↔ ts=us:=by
    have e1:its.toArray.size=ts.length:=by simp;omega
    have e2:bJ.toArray.size=us.length:=by simp;omega
    refine uq (n:=n) e1 e2 fun j x y hx hy=>?_
    have g1:=(QH.mp hx).1;have g2:=(QH.mp hy).1;exact(hc j (by omega) (by omega)).1 x y hx hy
   by_cases hab:a=b
   ·subst hab;exact⟨true,⟨fun _=>FV (n+1) (.inr (.inr ⟨ts,us,rfl,rfl,ht⟩)) r1 r2,fun _=>rfl⟩,SeqAt.EqAt.same _⟩
   ·refine⟨_,⟨fun h=>congrArg L2.T.t (key.mp h),fun h=>key.mpr (by cases h;rfl)⟩,SeqAt.EqAt.of_refs hab (SeqAt.RcAt.tuples (A:=A) (e:=fun j=>Classical.choose (go j)) (show s.heap.IsTuple a its.toArray from p1) (show s.heap.IsTuple b bJ.toArray from p2) (by omega) fun j g1 g2=>(hc j g1 g2).2)⟩
end
variable{N':List Str}{sc:Scope}{fp:List Addr}
section
variable{X:Cx}{K:W.Frag}{a b:Expr}{es:List Expr}{te ta tb:TE}{qe qa qb:QE}{tl:TA}{ql:QA}{pos p apos:Pos}{k k':Nat}{f:Addr}
structure Dn(K:W.Frag)(mg:Str->Option Value)(x:Str)(st:Stmt)(f:Addr)(fd:FuncData)(ps:List Str):Prop where
 F:Fun K x x st f fd
 m:mg x=some (.ref f)
 b:Binds K fd ps []
theorem aP{ps:PSp}(F:a8 X.prog X.w X.K X.mg X.base CX0 k f fd prs (spQ K ps))(hr:cK k' X.A)(D:Dn X.K X.mg x st f fd prs)(ha:QPA X K (e::es) tl ql)(hk:k<=k':=by first|decide|omega)(hg:Gl X x:=by exact rfl)
  (hdb:(x ==("__debug__":Str))=false:=by decide) (he:SN (e::es) X.env =(false,eval e X.env)::SN es X.env:=by rfl) (hpl:(backTo pos (SN es X.env)).any (·.1)=false:=by rfl) :
  QPF X K (.Call (.Name x p) (e::es) [] pos) (gZ (spQ K ps) [] E0 tl) (gf ps ql):=Hl F (hr.mono hk) hg D.m D.F.kp D.b ha hdb he hpl
theorem az:QPA X K [] fD dP:=uV.w ai
theorem ah{i j}:QPE X K (.Constant (.int i) j pos) (tC (.int i)) (qC (.i i)):=QPF.w bF
theorem b8(hm:X.mg "len" = none)(ha:QPA X K (e::es) tl ql)(hg:Gl X "len":=by exact rfl)(hK:X.K=K:=by exact rfl)
  (he:SN (e::es) X.env =(false,eval e X.env)::SN es X.env:=by rfl) (hpl:(backTo pos (SN es X.env)).any (·.1)=false:=by rfl):QPF X K (.Call (.Name "len" p) (e::es) [] pos) (tCB (Df K) tl) (qCB xy ql):=fc (B9 hK) GS hg hm (by kernel_rfl) ha (by decide) (by decide) he hpl
theorem aC(i:Nat)(hN:X.N.Nodup)(he:QPF X K e te qe)(hi:X.N[i]? = some x:=by rfl)(hx:Loc X.env.scope x:=by first|exact .inl rfl|exact .inr rfl)(hs:swapsWith e (some (.Name x pos')) pos.line X.env=pure false:=by rfl)(hf:X.fn x=true\/X.env.scope.names.lookup x=some .local:=by first|exact .inl rfl|exact .inr rfl|assumption) :
  QPS X K (.Assign [.Name x pos'] e pos) (gD te (fA i)) (xw i qe):=KU hN hi hx he hs hf
theorem a7(i:Nat)(hN:X.N.Nodup)(hi:X.N[i]? = some x:=by rfl)(hx:Loc X.env.scope x:=by first|exact .inl rfl|exact .inr rfl)(hf:X.fn x=true\/X.env.scope.names.lookup x=some .local:=by first|exact .inl rfl|exact .inr rfl|assumption):PG X (.Name x pos) (fA i):=kR hN hi hx hf
theorem cG{cl:List (Str×Addr)}{s₂:Shared}{H₂:Hp}(i:Nat)(hN:N'.Nodup:=by decide +kernel)(hi:N'[i]? = some x:=by rfl)(hx:Loc (blk X N' sc cl C s₂ H₂ fp).env.scope x:=by first|exact .inl rfl|exact .inr rfl)(hf:(blk X N' sc cl C s₂ H₂ fp).env.scope.names.lookup x=some .local:=by rfl):PG (blk X N' sc cl C s₂ H₂ fp) (.Name x pos) (fA i):=kR (X:=blk X N' sc cl C s₂ H₂ fp) hN hi hx (.inr hf)
theorem c8{x1 x2:Str}{t1 t2:TG}{j:Nat}(h1:PG X (.Name x1 p1) t1)(h2:PG X (.Name x2 p2) t2)(hK:X.K=K:=by exact rfl)(hc:X.calm=true:=by exact rfl)
  (hn:(assignEach [.Name x1 p1,.Name x2 p2] X.env).length=2:=by rfl) (hst:(assignEach [.Name x1 p1,.Name x2 p2] X.env).findIdx? (·.1)=none:=by rfl):PG X (.Tuple [.Name x1 p1,.Name x2 p2] j pos) (IL K 2 (zX t1 (zX t2 Mh))):=kQ hK hc (bR h1 (bR h2 kP)) hn hst
theorem bD(hu:X.A.units+1<cLine)(ha:QPE X K a ta qa)(hb:QPE X K b tb qb)(hK:X.K=K:=by exact rfl):QPT X K (.Compare a [.Eq] [b] pos) (y3 (tOp (KQ K) ta tb)) (rn (qOp Ho qa qb)):=bE (tG hu hK) nC (bK _) ha hb
def zh(ha:QPE X K a ta qa)(hb:QPE X K b tb qb):=bE (pos:=pos) N3 (sv (K:=K) (g':=fun i j=>.b (decide (i<j))) fun _ _ _ _=>.b _) (bK _) ha hb
def Nw(ha:QPE X K a ta qa)(hb:QPE X K b tb qb):=bE (pos:=pos) zF (sv (K:=K) (g':=fun i j=>.b (decide (j<i))) fun _ _ _ _=>.b _) (bK _) ha hb
end
abbrev NI(K:W.Frag)(x:Str)(f:Addr):Prop:=W.nsIn K mainGlobals x=some (some (.ref f))
abbrev LK(K:W.Frag)(f:Addr)(x q:Str)(st:Stmt)(oc:Value)(od:Option Addr)(kV dc pm:Value)(an:Option Addr)(cd ct:Value)(sl:Array (Option Value)):Prop:=K.lookup f=some ⟨oc,od,.func (W.fnOf x q (dh st) (bV st) (aw st) .none kV dc pm an cd ct),sl⟩
abbrev CI(K:W.Frag)(cd:Value)(x:Str):Prop:=W.codeIn K cd x=true
abbrev KI(K:W.Frag)(f:Addr):Prop:=W.keepIn K (.ref f)=true
variable{p3:Str}
section
variable{K:W.Frag}{h:Heap}{q:Str}{f:Addr}{oc kV dc pm cd ct:Value}{od an:Option Addr}{sl:Array (Option Value)}
theorem Fun.b1{p1:Str}(F:Fun K x q st f fd)(hb:∀ kV dc pm an cd ct u1,bindArgs (W.fnOf x q (dh st) (bV st) (aw st) .none kV dc pm an cd ct) ⟨[u1],[]⟩=pure [(p1,u1)]:=by intros;rfl):Binds K fd [p1] []:=F.binds fun kV dc pm an cd ct us hl=>OE (P:=fun us=>bindArgs _ ⟨us,[]⟩=pure (Wf _ us)) (hb kV dc pm an cd ct) us hl
theorem Fun.b2{p1 p2:Str}(F:Fun K x q st f fd)(hb:∀ kV dc pm an cd ct u1 u2,bindArgs (W.fnOf x q (dh st) (bV st) (aw st) .none kV dc pm an cd ct) ⟨[u1,u2],[]⟩=pure [(p1,u1),(p2,u2)]:=by intros;rfl):Binds K fd [p1,p2] []:=F.binds fun kV dc pm an cd ct us hl=>OD (P:=fun us=>bindArgs _ ⟨us,[]⟩=pure (Wf _ us)) (hb kV dc pm an cd ct) us hl
theorem Fun.b3{p1 p2:Str}(F:Fun K x q st f fd)(hb:∀ kV dc pm an cd ct u1 u2 u3,bindArgs (W.fnOf x q (dh st) (bV st) (aw st) .none kV dc pm an cd ct) ⟨[u1,u2,u3],[]⟩=pure [(p1,u1),(p2,u2),(p3,u3)]:=by intros;rfl):Binds K fd [p1,p2,p3] []:=F.binds fun kV dc pm an cd ct us hl=>OC (P:=fun us=>bindArgs _ ⟨us,[]⟩=pure (Wf _ us)) (hb kV dc pm an cd ct) us hl
theorem Fun.b4{p1 p2 p4:Str}(F:Fun K x q st f fd)(hb:∀ kV dc pm an cd ct u1 u2 u3 u4,bindArgs (W.fnOf x q (dh st) (bV st) (aw st) .none kV dc pm an cd ct) ⟨[u1,u2,u3,u4],[]⟩=pure [(p1,u1),(p2,u2),(p3,u3),(p4,u4)]:=by intros;rfl):Binds K fd [p1,p2,p3,p4] []:=F.binds fun kV dc pm an cd ct us hl=>OB (P:=fun us=>bindArgs _ ⟨us,[]⟩=pure (Wf _ us)) (hb kV dc pm an cd ct) us hl
theorem Fun.b5{p1 p2 p4 p5:Str}(F:Fun K x q st f fd)(hb:∀ kV dc pm an cd ct u1 u2 u3 u4 u5,bindArgs (W.fnOf x q (dh st) (bV st) (aw st) .none kV dc pm an cd ct) ⟨[u1,u2,u3,u4,u5],[]⟩=pure [(p1,u1),(p2,u2),(p3,u3),(p4,u4),(p5,u5)]:=by intros;rfl):Binds K fd [p1,p2,p3,p4,p5] []:=F.binds fun kV dc pm an cd ct us hl=>RG (P:=fun us=>bindArgs _ ⟨us,[]⟩=pure (Wf _ us)) (hb kV dc pm an cd ct) us hl
end
mutual
def T.pln:T->Bool
 | .n=>true
 | .b _=>true
 | .i _=>true
 | .s _=>true
 | .t xs=>T.c7 xs
 | .zl xs=>T.c7 xs
 | _=>false
def T.c7:List T->Bool
 | []=>true
 | x::r=>x.pln&&T.c7 r
end
theorem nof{A:Prop}(h:false=true):A:=absurd h Ta
theorem aA.plain{K:W.Frag}(kt:∀ a vs,H a=some (.tup vs)->H' a=some (.tup vs))(kf:∀ a o u,H a=some (.frz o u)->H' a=some (.frz o u)){v:V}{t:T}{F:List Addr}(h:aA K dl H v t F):t.pln=true->aA K dl H' v t F :=
 aA.rec (motive_1:=fun v t F _=>t.pln=true->aA K dl H' v t F) (motive_2:=fun v t F _=>T.c7 t=true->au K dl H' v t F) (motive_3:=fun _ _ _ _=>True)
  (fun _=>.n) (fun x _=>.b x) (fun x _=>.i x) (fun x _=>.s x) (fun _ h=>nof h) (fun h _ ih q=>.t (kt _ _ h) (ih q)) (fun _ _ _ h=>nof h) (fun _ _ _ h=>nof h) (fun _ h=>nof h) (fun _ h=>nof h) (fun _ h=>nof h) (fun _ _ _ h=>nof h) (fun _ h=>nof h) (fun _ _ _ h=>nof h)
  (fun _ _ h=>nof h) (fun _ _ _ h=>nof h) (fun _ _ _ h=>nof h) (fun _ _ _ h=>nof h) (fun h _ ih q=>.zl (kf _ _ _ h) (ih q)) (fun _=>.nil) (fun _ _ i1 i2 q=>.cons (i1 (To _ _▸q).1) (i2 (To _ _▸q).2)) trivial (fun _ _ _ _=>trivial) h
theorem au.plain{K:W.Frag}{dl:Dl}{H H':Hp}(kt:∀ a vs,H a=some (.tup vs)->H' a=some (.tup vs))(kf:∀ a o u,H a=some (.frz o u)->H' a=some (.frz o u)){vs:List V}{ts:List T}{F:List Addr}(h:au K dl H vs ts F):T.c7 ts=true->au K dl H' vs ts F :=
 h.ind (M:=fun vs ts F=>T.c7 ts=true->au K dl H' vs ts F) (fun _=>.nil) (fun _ _ _ _ _ _ h _ ih q=>.cons (h.plain kt kf (To _ _▸q).1) (ih (To _ _▸q).2))
theorem aA.Lp{K:W.Frag}{v:V}{t:T}{F:List Addr}(h:aA K dl H v t F):t.pln=true->F = [] :=
 aA.rec (motive_1:=fun _ t F _=>t.pln=true->F = []) (motive_2:=fun _ t F _=>T.c7 t=true->F = []) (motive_3:=fun _ _ _ _=>True)
  (fun _=>rfl) (fun _ _=>rfl) (fun _ _=>rfl) (fun _ _=>rfl) (fun _ h=>nof h) (fun _ _ ih=>ih) (fun _ _ _ h=>nof h) (fun _ _ _ h=>nof h) (fun _ h=>nof h) (fun _ h=>nof h) (fun _ h=>nof h) (fun _ _ _ h=>nof h) (fun _ h=>nof h) (fun _ _ _ h=>nof h)
  (fun _ _ h=>nof h) (fun _ _ _ h=>nof h) (fun _ _ _ h=>nof h) (fun _ _ _ h=>nof h) (fun _ _ _ _=>rfl) (fun _=>rfl) (fun _ _ i1 i2=>pz i1 i2) trivial (fun _ _ _ _=>trivial) h
theorem au.Lp{K:W.Frag}{dl:Dl}{H:Hp}{vs:List V}{ts:List T}{F:List Addr}(h:au K dl H vs ts F):T.c7 ts=true->F = []:=h.ind (M:=fun _ t F=>T.c7 t=true->F = []) (fun _=>rfl) (fun _ _ _ _ _ _ h _ ih=>pz h.Lp ih)
variable{its:List Value}
section
variable{X:Cx}{K:W.Frag}{σ:St}{s:Shared}{o:Expr}{te:TE}{qe:QE}{apos aV fE:Pos}
theorem Inv.IM{xs:List V}(I:Inv X gV σ H s)(ha:H a=some (.lst xs)):∃ o,Inv X gV σ (upd H a (.frz o (.lst xs))) s:=by
 have hz:∀ o v,X.H₀ a≠some (.frz o v):=fun o v e=>by
  have:=I.base.j9 a o v e
  rw[ha]at this;cases this
 obtain⟨z,its,n,r,e⟩:=(show a5 X.prog X.w H s.heap a (.lst xs)from I.hok a _ ha);exact⟨_,I.ze ha (fun _ z=>nomatch z) (fun _ z=>nomatch z) (fun _ z=>nomatch z) hz ⟨e,z,its,n,r,e⟩⟩
def JE(te:TE):TE:=fun σ H Q=>te σ H fun v H1=>∃ a xs,v = .ref a/\H1 a=some (.lst xs)/\∀ o,Q v (upd H1 a (.frz o (.lst xs)))
theorem HJ(he:PE X e te):PE X e (JE te):=by
 intro gV s σ H Q I h;refine thn (he gV s σ H _ I h) fun u s' hPP=>?_
 obtain⟨v,H',I',r,a,xs,e1,e2,q⟩:=hPP;obtain⟨o,I2⟩:=I'.IM e2;exact⟨v,_,I2,r,q o⟩
def NG(qe:QE):QE:=fun q Q=>qe q fun t=>match t with
 | .l ts=>T.c7 ts=true/\Q (.zl ts)
 | _=>False
theorem sO(he:QPF X K e te qe):QPF X K e (JE te) (NG qe):=⟨HJ he.h,fun dl H σ q Q R rd hq k=>he.s dl H σ q _ _ rd hq fun v t F H1 e1 r1 f1 n1 hz=>by
 split at hz
 ·obtain⟨p,vs,G,rfl,rfl,h1,h2⟩:=r1.r.lst;obtain rfl:=h2.Lp hz.1;refine⟨p,vs,rfl,h1,fun o=>?_⟩
  have e2:=e1.fresh (o:=.frz o (.lst vs)) (f1 p SG) (r1.n p SG);have ne:∀{a:Addr}{u:HO},H1 a=some u ->(∀ xs,u ≠ .lst xs)->a≠p:=fun h n z=>by rw[z,h1]at h;exact n _ (Option.some.inj h).symm
  have ts:=h2.plain (H':=upd H1 p (.frz o (.lst vs))) (fun a us h=>by rw[ao (ne h fun _ z=>nomatch z)];exact h) (fun a o u h=>by rw[ao (ne h fun _ z=>nomatch z)];exact h) hz.1
  exact k _ (.zl _) [] _ e2 ⟨.zl ax ts,fun _ z=>nomatch z⟩ (fun _ z=>nomatch z) S6 hz.2
 ·exact hz.elim⟩
def xB(i:Nat):QS:=fun D q=>match q[i]? with
 | some (.o (.l _))=>D.nx (q.set i (.o (.l [])))
 | _=>False
theorem A3{i:Nat}:ie K (ip (Cy K "list" xq (bb i))) (xB i):=fun dl H₀ hs H σ q Dq D ⟨F,r⟩ hq E=>by
 unfold xB at hq
 split at hq
 ·rename_i xs ei;obtain⟨v,hv,rp⟩:=r.g i _ _ ei rfl;obtain⟨p,vs,G,rfl,eF,h1,h2⟩:=rp.r.lst;exact⟨_,hv,.inl ⟨rfl,_,SqL.of h1⟩,p,vs,rfl,rfl,h1,E.nx _ σ _ (r.jS ei hv eF (.refl r.d) .nil S6 fun _ z=>nomatch z) hq⟩
 ·exact hq.elim
theorem Du{i:Nat}(ho:PE X o (bb i))(hK:X.K=K:=by rfl)(cE:attributeBase o "clear" X.env (eval o X.env)=eval o X.env:=by rfl)(cD:(apos.endLine==aV.line)=true:=by rfl)
  (hsw:swapsWith (.Call (.Attribute o "clear" apos) [] [] aV) none fE.line X.env=pure false:=by rfl) :
  QPS X K (.Expr (.Call (.Attribute o "clear" apos) [] [] aV) fE) (ip (Cy K "list" xq (bb i))) (xB i) :=
 ⟨by subst hK;exact kK (xJ PySem.F.plainAttrs_list PySem.F.slot_list_clear PySem.F.type_list_clear Ez ho cE cD) hsw,A3⟩
def KP(K:W.Frag)(neg:Bool):R2:=fun x y H Q=>∃ dl ts us vs ws n p q F G,x = .ref p/\y = .ref q/\SqL K H p vs/\SqL K H q ws/\au K dl H vs ts F/\au K dl H ws us G/\(∀(j:Nat)(x y:T),ts[j]? = some x->us[j]? = some y->Alk n x y)/\n<=100/\∀ c:Bool,(c=true ↔ ts=us)->Q (.bl (if neg then !c else c)) H
theorem An{σ:St}{s:Shared}(I:Inv X gV σ H s)(hK:X.K=K){vs ws:List V}{ts us:List T}{F:List Addr}{bJ:List Value}(q1:Vals vs its)(q2:Vals ws bJ)(f1:au K dl H vs ts F)(f2:au K dl H ws us G)(ht:∀(j:Nat)(x y:T),ts[j]? = some x->us[j]? = some y->Alk n x y)(hu:A.units+n<cLine) :
  ∃ e:Nat->Bool,(∀(j:Nat)(g1:j<its.toArray.size)(g2:j<bJ.toArray.size),SeqAt.EqAt A s its.toArray[j] bJ.toArray[j] (e j))/\∀(j:Nat)(x y:T),ts[j]? = some x->us[j]? = some y ->(e j=true ↔ x=y):=by
 have l1:=q1.length;have l2:=q2.length;have l3:=f1.len;have l4:=f2.len;have go:∀ j,∃ c:Bool,∀(g1:j<its.toArray.size)(g2:j<bJ.toArray.size),(∀(x y:T),ts[j]? = some x->us[j]? = some y ->(c=true ↔ x=y))/\SeqAt.EqAt A s its.toArray[j] bJ.toArray[j] c:=fun j=>by
  by_cases g:j<its.toArray.size/\j<bJ.toArray.size
  ·obtain⟨g1,g2⟩:=g;obtain⟨v1,e1,rv1⟩:=q1.at' g1;obtain⟨v2,e2,rv2⟩:=q2.at' g2;obtain⟨t1,G1,et1,rt1⟩:=gc f1 e1;obtain⟨t2,G2,et2,rt2⟩:=gc f2 e2;obtain⟨c,hc,hE⟩:=E8 I hK n A t1 t2 v1 v2 G1 G2 _ _ (ht j t1 t2 et1 et2) rt1 rt2 rv1 rv2 hu;refine⟨c,fun _ _=>⟨fun x y hx hy=>?_,hE⟩⟩
   rw[et1]at hx;rw[et2]at hy;cases hx;cases hy;exact hc
  ·exact⟨true,fun g1 g2=>absurd ⟨g1,g2⟩ g⟩
 refine⟨fun j=>Classical.choose (go j),fun j g1 g2=>(Classical.choose_spec (go j) g1 g2).2,fun j x y hx hy=>?_⟩
 have g1:=(QH.mp hx).1;have g2:=(QH.mp hy).1;exact(Classical.choose_spec (go j) (by simp;omega) (by simp;omega)).1 x y hx hy
theorem D8(hu:X.A.units+150<cLine)(hK:X.K=K):OpR X (compareOp .Eq) (KP K false):=by
 subst hK;intro gV s σ H x y v u Q I rx ry h;obtain⟨dl,ts,us,vs,ws,n,p,q,F,G,rfl,rfl,h1,h2,f1,f2,ht,hn,k⟩:=h;cases rx;cases ry;obtain⟨its,q1,p1,_⟩:=I.list h1;obtain⟨bJ,q2,p2,_⟩:=I.list h2;have l1:=q1.length;have l2:=q2.length;have l3:=f1.len;have l4:=f2.len;obtain⟨e,hE,he⟩:=An (A:=X.A.in1) I rfl q1 q2 f1 f2 ht (by show X.A.units+1+n<_;omega)
 by_cases hl:its.length=bJ.length
 ·refine SeqAt.eq_listAt (e:=e) p1.isList p2.isList (by simpa using hl) (by omega) hE ⟨.bl _,H,I,rfl,k _ ?_⟩
  have key:=uq (n:=n) rfl rfl he;rw[show(ts.length==us.length)=true from by simp;omega,Bool.and_true,show min ts.length us.length=its.toArray.size from by simp;omega]at key
  exact key
 ·exact SeqAt.eq_list_lengthsAt p1.isList p2.isList (by simpa using hl) (by omega) ⟨.bl _,H,I,rfl,k false ⟨fun z=>absurd z Ta,fun z=>by rw[z]at l3;omega⟩⟩
theorem zE(hu:X.A.units+150<cLine)(hK:X.K=K):OpR X (compareOp .NotEq) (KP K true):=by
 subst hK;intro gV s σ H x y v u Q I rx ry h;obtain⟨dl,ts,us,vs,ws,n,p,q,F,G,rfl,rfl,h1,h2,f1,f2,ht,hn,k⟩:=h;cases rx;cases ry;obtain⟨its,q1,p1,_⟩:=I.list h1;obtain⟨bJ,q2,p2,_⟩:=I.list h2;have l1:=q1.length;have l2:=q2.length;have l3:=f1.len;have l4:=f2.len;obtain⟨e,hE,he⟩:=An (A:=X.A.in1) I rfl q1 q2 f1 f2 ht (by show X.A.units+1+n<_;omega)
 by_cases hl:its.length=bJ.length
 ·refine SeqAt.RcNeAt.lists (e:=e) p1.isList p2.isList (by simpa using hl) (by omega) hE X.prog X.w X.xe _ ⟨.bl _,H,I,rfl,k _ ?_⟩
  have key:=uq (n:=n) rfl rfl he;rw[show(ts.length==us.length)=true from by simp;omega,Bool.and_true,show min ts.length us.length=its.toArray.size from by simp;omega]at key
  exact key
 ·exact SeqAt.RcNeAt.lists_lengths p1.isList p2.isList (by simpa using hl) (by omega) X.prog X.w X.xe _ ⟨.bl _,H,I,rfl,k false ⟨fun z=>absurd z Ta,fun z=>by rw[z]at l3;omega⟩⟩
def T.lst:T->Option (List T)
 | .l xs=>some xs
 | .zl xs=>some xs
 | _=>none
def Ru(neg:Bool):Q2:=fun t u Q=>∃ ts us n,t.lst=some ts/\u.lst=some us/\n<=100/\(∀(j:Nat)(x y:T),ts[j]? = some x->us[j]? = some y->Alk n x y)/\∀ c:Bool,(c=true ↔ ts=us)->Q (.b (if neg then !c else c))
theorem Rp.Ow{v:V}{t:T}{F:List Addr}{ts:List T}(r:Rp K dl H v t F)(h:t.lst=some ts):∃ p vs G,v = .ref p/\SqL K H p vs/\au K dl H vs ts G:=by
 cases t with
 | l xs=>cases h;obtain⟨p,vs,G,rfl,rfl,h1,h2⟩:=r.r.lst;exact⟨p,vs,G,rfl,SqL.of h1,h2⟩
 | zl xs=>cases h;obtain⟨p,o,vs,rfl,rfl,h1,h2⟩:=r.r.zls;exact⟨p,vs,[],rfl,.inl (.inr ⟨o,h1⟩),h2⟩
 | _=>cases h
theorem nB:dq K (KP K neg) (Ru neg):=by
 intro dl H x y t u F G Q R D r1 r2 hq k;obtain⟨ts,us,n,e1,e2,hn,ht,hq⟩:=hq;obtain⟨p,vs,G1,rfl,h1,f1⟩:=r1.Ow e1;obtain⟨p',ws,G2,rfl,h2,f2⟩:=r2.Ow e2;exact⟨dl,ts,us,vs,ws,n,p,p',G1,G2,rfl,rfl,h1,h2,f1,f2,ht,hn,fun c hc=>k _ _ [] H (.refl D) (.c (.b _)) (fun _ z=>nomatch z) S6 (hq c hc)⟩
end
end L2
namespace L2
open PySem PySem.Spec PyProof.Rows
def kY(H:Hp)(F:List Addr):Hp:=fun b=>if b∈F then none else H b
variable{H:Hp}
theorem v9{F:List Addr}{b:Addr}(h:b∈F):kY H F b=none:=if_pos h
theorem oT{F:List Addr}{b:Addr}(h:b ∉ F):kY H F b=H b:=if_neg h
structure MA(dl:Dl)(H:Hp)(F:List Addr)(H':Hp):Prop where
 k:∀ b o,H b=some o->b ∉ F->Nd dl b->NR o->H' b=some o
 r:∀ a x,H a=some (.room x)->a ∉ F->∃ y,y<=x/\H' a=some (.room y)
 l:∀ b xs,b∈F->H b=some (.lst xs)->∃ ys,H' b=some (.lst ys)
 d:Dls dl H'
abbrev yQ:=List T ->(T->T->Prop)->Prop
def spL(K:W.Frag)(j:Nat)(ps:yQ):Sp:=fun vs H Q _=>∃(dl:Dl)(ts:List T)(v0:V)(t0:T)(F0:List Addr)(Qp:T->T->Prop),Dls dl H/\vs.length=ts.length/\vs[j]? = some v0/\ts[j]? = some t0/\Rp K dl H v0 t0 F0/\F0.Nodup /\
 (∀ i v t,i≠j->vs[i]? = some v->ts[i]? = some t->Rp K dl H v t [])/\ps ts Qp /\
 ∀ v r Fr t' F' H',MA dl H F0 H'->Rp K dl H' v0 t' F'->F'.Nodup ->(∀ b∈F',b∈F0\/H b=none)->Rp K dl H' v r Fr->Fr.Nodup ->(∀ b∈Fr,b∈F0\/H b=none) ->(∀ b∈Fr,b ∉ F')->Qp r t'->Q v H'
def hsq(H:Hp)(F:List Addr):List (V×T):=F.filterMap fun b=>match H b with
 | some (.lst _)=>some (.ref b,.q)
 | _=>none
variable{dl:Dl}
theorem L9{K:W.Frag}{F:List Addr}:∀ p∈hsq H F,Rp K dl H p.1 p.2 []:=fun p hp=>by
 obtain⟨b,_,e⟩:=U6.mp hp
 split at e
 ·rename_i xs h;cases e;exact⟨.q h,fun _ z=>nomatch z⟩
 ·cases e
theorem ID{F:List Addr}{b:Addr}{xs:List V}(hb:b∈F)(h:H b=some (.lst xs)):(V.ref b,T.q)∈hsq H F:=U6.mpr ⟨b,hb,by rw[h]⟩
variable{N:List Str}{j:Nat}
theorem xp{K:W.Frag}{vs:List V}{ts:List T}{v0:V}{t0:T}{F0:List Addr}{hs:List (V×T)}(D:Dls dl H)(hl:vs.length=ts.length)(hv:vs[j]? = some v0)(r0:Rp K dl H v0 t0 F0)(n0:F0.Nodup)(ro:∀ i v t,i≠j->vs[i]? = some v->ts[i]? = some t->Rp K dl H v t [])(hj:j<ts.length)(hh:∀ p∈hs,Rp K dl H p.1 p.2 []) :
  Rel K dl (kY H F0) hs H (start N vs) ((ts.map Sl.r).set j (.o t0)++TJ (N.length - ts.length) .no) (fun i=>if i=j then F0 else []):=by
 have lk:∀(i:Nat)(y:Sl),((ts.map Sl.r).set j (.o t0)++TJ (N.length - ts.length) Sl.no)[i]? = some y ->(i=j/\y = .o t0)\/(i≠j/\∃ t,ts[i]? = some t/\y = .r t)\/(ts.length<=i/\y = .no):=fun i y h=>by
  by_cases hi:i<ts.length
  ·rw[TC (by simpa using hi)]at h
   rcases get_set h with⟨e1,e2,_⟩ |⟨e1,e2⟩
   ·exact .inl ⟨e1,e2⟩
   ·rw[L7,Es hi]at e2;exact .inr (.inl ⟨e1,ts[i],by simp,(Option.some.inj e2).symm⟩)
  ·rw[Ub (by simpa using hi),U7]at h
   split at h
   ·exact .inr (.inr ⟨by omega,(Option.some.inj h).symm⟩)
   ·cases h
 have vat:∀(i:Nat)(v:V),vs[i]? = some v ->(start N vs)[i]? = some (some v):=fun i v e=>by
  have hi:i<vs.length:=(QH.mp e).1;show(vs.map some++TJ (N.length - vs.length) none)[i]? = _;rw[TC (by simpa using hi),L7,e]
  rfl
 have inF:∀ b o,kY H F0 b=some o->H b=some o:=fun b o h=>by
  by_cases e:b∈F0
  ·rw[v9 e]at h;cases h
  ·rw[oT e]at h;exact h
 refine⟨D,fun i y t h1 h2=>?_,fun i y h1 h2=>?_,fun i hi=>?_,fun i t h1=>?_,fun p hp=>⟨[],hh p hp,fun _ _ _ _ _ z=>nomatch z⟩,⟨fun b o h _ _=>inF b o h,fun b x h=>⟨x,Uc _,inF b _ h⟩⟩,?_⟩
 ·rcases lk i y h1 with⟨rfl,rfl⟩ |⟨ne,u,e,rfl⟩ |⟨_,rfl⟩
  ·cases h2;refine⟨v0,vat _ _ hv,?_⟩;rw[if_pos rfl];exact r0
  ·cases h2;obtain⟨v,ev⟩:∃ v,vs[i]? = some v:=⟨vs[i]'(by rw[hl];exact(QH.mp e).1),Es _⟩
   refine⟨v,vat _ _ ev,?_⟩;show Rp K dl H v t (if i=j then F0 else [])
   rw[if_neg ne];exact ro i v t ne ev e
  ·cases h2
 ·rcases lk i y h1 with⟨rfl,rfl⟩ |⟨ne,u,e,rfl⟩ |⟨hi,rfl⟩
  ·cases h2
  ·cases h2
  ·exact if_neg (by omega)
 ·refine if_neg ?_;simp at hi;omega
 ·rcases lk i _ h1 with⟨rfl,e⟩ |⟨ne,u,e,z⟩ |⟨_,z⟩
  ·refine⟨by rw[if_pos rfl];exact n0,fun b hb=>?_,fun k hk b hb=>?_⟩
   ·rw[if_pos rfl]at hb;exact v9 hb
   ·rw[if_neg hk];exact Ts
  ·cases z
  ·cases z
 ·show _ =(vs.map some++TJ (N.length - vs.length) none).length;simp[hl]
def T.adr:T->Option Addr
 | .lp a _=>some a
 | .dp a _=>some a
 | _=>none
theorem aA.adr{K:W.Frag}{dl:Dl}{H:Hp}{v:V}{t:T}{F:List Addr}{a:Addr}(h:aA K dl H v t F)(e:t.adr=some a):v = .ref a:=by
 cases t with
 | lp b xs=>cases e;obtain⟨_,_,z,_⟩:=h.lpp;exact z
 | dp b xs=>cases e;obtain⟨_,_,z,_⟩:=h.dpp;exact z
 | _=>cases e
variable{P:Program}{mg:Str->Option Value}{base:Heap}{x:Str}{qual:Str}{st:Stmt}{fd:FuncData}{ps:List Str}
theorem Fun.okL{w:World}{K:W.Frag}{f:Addr}{k:Nat}{psp:yQ}(F:Fun K x qual st f fd)(S:aH N ps (aw st))(len:∀ ts Q,psp ts Q->ts.length=ps.length)
  (k7:∀(cdv:Value)(A:Around)(outer:List Env)(s:Shared)(H:Hp)(E:XK),cK k (A.deeper (envOfC qual (aw st) s.heap.objs.size f cdv)) ->
   ∃ t qs,qg (qL CX0 P w K mg base N qual (aw st) f cdv A outer s H E).nox K (bV st) t qs/\∀ ts Q t0 a,psp ts Q->ts[j]? = some t0->t0.adr=some a->qs { nx:=fun q=>∃ t',q[j]? = some (.o t')/\t'.adr=some a/\Q .n t',rt:=fun _=>False,ru:=fun q r=>∃ t',q[j]? = some (.o t')/\t'.adr=some a/\Q r t' } ((ts.map Sl.r).set j (.o t0)++TJ (N.length - ts.length) .no))
  (Sd:∀ ts Q,psp ts Q->∃ t0 a,ts[j]? = some t0/\t0.adr=some a):a8 P w K mg base CX0 (k+1) f fd ps (spL K j psp):=by
 refine F.ok S (fun vs H Q E h=>?_) (fun cdv A outer s H vs Q E hr h=>?_)
 ·obtain⟨dl,ts,v0,t0,F0,Qp,_,hl,_,_,_,_,_,h,_⟩:=h;rw[hl];exact len ts Qp h
 ·obtain⟨dl,ts,v0,t0,F0,Qp,D,hl,hv,ht,r0,n0,ro,h,fin⟩:=h;obtain⟨t,qs,hb,hq⟩:=k7 cdv A outer s H E hr;refine⟨t,hb.h,?_⟩;obtain⟨t0',a,ht',ea⟩:=Sd ts Qp h;rw[ht]at ht';cases ht';have z:=hq ts Qp t0 a h ht ea;have hj:j<ts.length:=(QH.mp ht).1;have R:=xp (N:=N) (hs:=hsq H F0) D hl hv r0 n0 ro hj L9;have ev0:=r0.r.adr ea;have inF:∀{b:Addr}{o:HO},H b=some o->b ∉ F0->kY H F0 b=some o:=fun h n=>by rw[oT n];exact h
  have OA:∀{H':Hp}{σ:St}{q:Sq}{F':Nat->List Addr},Rel K dl (kY H F0) (hsq H F0) H' σ q F'->MA dl H F0 H':=fun{H' σ q F'} r' =>
   ⟨fun b o e n nd nr=>r'.f.k b o (inF e n) nd nr,fun b x e n=>r'.f.r b x (inF e n),fun b xs hb e=>(by
    obtain⟨Fp,rq,_⟩:=r'.h _ (ID hb e);cases rq.r with
    | q h=>exact⟨_,h⟩),r'.d⟩
  have fr:∀{b:Addr},kY H F0 b=none->b∈F0\/H b=none:=fun{b} h=>by
   by_cases e:b∈F0
   ·exact .inl e
   ·rw[oT e]at h;exact .inr h
  have at':∀{H':Hp}{σ:St}{q:Sq}{F':Nat->List Addr}{t':T},Rel K dl (kY H F0) (hsq H F0) H' σ q F'->q[j]? = some (.o t')->t'.adr=some a->Rp K dl H' v0 t' (F' j):=fun{H' σ q F' t'} r' e1 e2=>by
   obtain⟨v',_,rp⟩:=r'.g j _ _ e1 rfl;rw[ev0,<- rp.r.adr e2];exact rp
  refine hb.s dl (kY H F0) (hsq H F0) H _ _ _ _ ⟨_,R⟩ z ⟨fun H' σ q hr hz=>?_,fun _ _ _ _ hz=>hz.elim,fun _ _ _ _ hz=>hz.elim,fun _ _ _ _ _ _ _ _ _ hz=>hz.elim,fun H' σ q F' v r Fr r' rv f1 n1 dj hz=>?_⟩
  ·obtain⟨F',r'⟩:=hr;obtain⟨t',e1,e2,hz⟩:=hz;obtain⟨o1,o2,_⟩:=r'.o j t' e1;exact fin .non .n [] t' (F' j) H' (OA r') (at' r' e1 e2) o1 (fun b hb=>fr (o2 b hb)) ⟨.n,fun _ z=>nomatch z⟩ S6 (fun _ z=>nomatch z) (fun _ z=>nomatch z) hz
  ·obtain⟨t',e1,e2,hz⟩:=hz;obtain⟨o1,o2,_⟩:=r'.o j t' e1;exact fin v r Fr t' (F' j) H' (OA r') (at' r' e1 e2) o1 (fun b hb=>fr (o2 b hb)) rv n1 (fun b hb=>fr (f1 b hb)) (dj j) hz
variable{F':List Addr}
section
variable{X:Cx}{K:W.Frag}{H₀ H':Hp}{hs:List (V×T)}{σ:St}{q:Sq}{F:Nat->List Addr}
theorem Rel.Oz{i:Nat}{t t':T}{v:V}(r:Rel K dl H₀ hs H σ q F)(hi:q[i]? = some (.o t))(hv:σ[i]? = some (some v))(f:MA dl H (F i) H')(hr:Rp K dl H' v t' F')(n':F'.Nodup)(hF:∀ b∈F',b∈F i\/H b=none):Rel K dl H₀ hs H' σ (q.set i (.o t')) (vv F i F'):=by
 have th:∀{b:Addr},b∈F i->i7 H b:=fun hb=>r.fb hb
 have ne:∀{b:Addr}{o:HO},H b=some o ->(∀ xs,o ≠ .lst xs) ->(∀ kv,o ≠ .dK kv)->b ∉ F i:=fun{b o} h n1 n2 z=>by
  rcases th z with⟨xs,e⟩ |⟨ks,e⟩
  ·rw[h]at e;exact n1 _ (Option.some.inj e)
  ·rw[h]at e;exact n2 _ (Option.some.inj e)
 have tf:TF H H':=⟨fun b vs h=>f.k b _ h (ne h (fun _ z=>nomatch z) fun _ z=>nomatch z) (r.d.nd h (fun _ z=>nomatch z) fun _ z=>nomatch z) (fun _ z=>nomatch z),fun b o u h=>f.k b _ h (ne h (fun _ z=>nomatch z) fun _ z=>nomatch z) (r.d.nd h (fun _ z=>nomatch z) fun _ z=>nomatch z) (fun _ z=>nomatch z),
  fun b φ h=>f.k b _ h (ne h (fun _ z=>nomatch z) fun _ z=>nomatch z) (r.d.nd h (fun _ z=>nomatch z) fun _ z=>nomatch z) (fun _ z=>nomatch z),fun b xs h=>(by
  by_cases hb:b∈F i
  ·exact f.l b xs hb h
  ·by_cases hn:Nd dl b
   ·exact⟨xs,f.k b _ h hb hn (fun _ z=>nomatch z)⟩
   ·unfold Nd at hn;obtain⟨p,hp,z⟩:∃ p∈dl,¬(b≠p.1/\b≠p.2):=Classical.byContradiction fun c=>hn fun p hp=>Classical.byContradiction fun z=>c ⟨p,hp,z⟩
    obtain⟨s,n,ls,Q⟩:=r.d p hp;obtain⟨s',n',ls',Q'⟩:=f.d p hp;have h1:b≠p.1:=iJ h Q.hd (fun z=>nomatch z)
    have h2:b=p.2:=Classical.byContradiction fun z'=>z ⟨h1,z'⟩
    exact⟨_,by rw[h2];exact Q'.hl⟩),fun b x h=>f.r b x h (ne h (fun _ z=>nomatch z) fun _ z=>nomatch z)⟩
 have st:∀{w:V}{u:T}{Fw:List Addr},Rp K dl H w u Fw ->(∀ b∈Fw,b ∉ F i)->Rp K dl H' w u Fw:=fun{w u Fw} h np =>
  ⟨h.r.cY tf (fun _ z=>z) fun b hb o e=>f.k b o e (np b hb) (h.n b hb) (.of (h.r.there b hb) e),h.n⟩
 obtain⟨o1,o2,o3⟩:=r.o i t hi;have out:∀ j,j≠i->∀ b∈F',b ∉ F j:=fun j hj b hb z=>by
  rcases hF b hb with h|h
  ·exact o3 j hj b h z
  ·exact(r.fb z).no h
 refine⟨f.d,fun j x u h1 h2=>?_,fun j x h1 h2=>?_,fun j hj=>?_,fun j u h1=>?_,fun p hp=>?_,⟨fun b o h n nr=>?_,fun b x h=>?_⟩,by simp[r.l]⟩
 ·rcases get_set h1 with⟨rfl,rfl,_⟩ |⟨ne',h1⟩
  ·cases h2;exact⟨v,hv,by rw[aO];exact hr⟩
  ·obtain⟨w,h3,h4⟩:=r.g j x u h1 h2;exact⟨w,h3,by rw[aE ne'];exact st h4 fun b hb z=>o3 j ne' b z hb⟩
 ·rcases get_set h1 with⟨rfl,rfl,_⟩ |⟨ne',h1⟩
  ·cases h2
  ·rw[aE ne'];exact r.n j x h1 h2
 ·have hl:i<q.length:=(QH.mp hi).1;rw[Ue]at hj;rw[aE (by omega)]
  exact r.z j hj
 ·rcases get_set h1 with⟨rfl,e,_⟩ |⟨ne',h1⟩
  ·rw[aO];exact⟨n',fun b hb=>(hF b hb).elim (o2 b) r.fz,fun k hk b hb=>by rw[aE hk];exact out k hk b hb⟩
  ·obtain⟨p1,p2,p3⟩:=r.o j u h1;rw[aE ne'];refine⟨p1,p2,fun k hk b hb z=>?_⟩
   by_cases ek:k=i
   ·subst ek;rw[aO]at z;exact out j ne' b z hb
   ·rw[aE ek]at z;exact p3 k hk b hb z
 ·obtain⟨Fp,h1,h2⟩:=r.h p hp;refine⟨Fp,st h1 (fun b hb z=>h2 i t hi b z hb),fun j u hj b hb z=>?_⟩
  rcases get_set hj with⟨rfl,e,_⟩ |⟨ne',hj⟩
  ·rw[aO]at hb;rcases hF b hb with h|h
   ·exact h2 j t hi b h z
   ·exact i7.no (h1.r.there b z) h
  ·rw[aE ne']at hb;exact h2 j u hj b hb z
 ·exact f.k b o (r.f.k b o h n nr) (fun z=>by rw[o2 b z]at h;cases h) n nr
 ·obtain⟨y,hy,e1⟩:=r.f.r b x h;obtain⟨y',hy',e2⟩:=f.r b y e1 (fun z=>by rw[o2 b z]at h;cases h)
  exact⟨y',Vb hy' hy,e2⟩
end
section
variable{X:Cx}{K:W.Frag}{H₀ H':Hp}{hs:List (V×T)}{σ:St}{q:Sq}{F:Nat->List Addr}{a b e o:Expr}{es:List Expr}{te tk tv:TE}{qe qk qv:QE}{tl:TA}{ql:QA}{pos pos' p apos aV fE:Pos}
theorem Rel.C5{i:Nat}{t t':T}(r:Rel K dl H₀ hs H σ q F)(hi:q[i]? = some (.o t))(ht:∀ v,σ[i]? = some (some v)->aA K dl H v t (F i)->aA K dl H v t' (F i)):Rel K dl H₀ hs H σ (q.set i (.o t')) F:=by
 refine⟨r.d,fun j x u h1 h2=>?_,fun j x h1 h2=>?_,fun j hj=>r.z j (by rw[Ue]at hj;exact hj),fun j u h1=>?_,fun p hp=>?_,r.f,by simp[r.l]⟩
 ·rcases get_set h1 with⟨rfl,rfl,_⟩ |⟨ne,h1⟩
  ·cases h2;obtain⟨v,h3,h4⟩:=r.g j _ t hi rfl;exact⟨v,h3,ht v h3 h4.r,h4.n⟩
  ·exact r.g j x u h1 h2
 ·rcases get_set h1 with⟨rfl,rfl,_⟩ |⟨ne,h1⟩
  ·cases h2
  ·exact r.n j x h1 h2
 ·rcases get_set h1 with⟨rfl,_,_⟩ |⟨ne,h1⟩
  ·exact r.o j t hi
  ·exact r.o j u h1
 ·obtain⟨Fp,h1,h2⟩:=r.h p hp;refine⟨Fp,h1,fun j u hj=>?_⟩
  rcases get_set hj with⟨rfl,_,_⟩ |⟨ne,hj⟩
  ·exact h2 j t hi
  ·exact h2 j u hj
theorem Rel.asL{i:Nat}{p:Addr}{xs:List T}(r:Rel K dl H₀ hs H σ q F)(hi:q[i]? = some (.o (.lp p xs))):Rel K dl H₀ hs H σ (q.set i (.o (.l xs))) F:=r.C5 hi fun v _ h=>by
 obtain⟨vs,G,rfl,e,h1,h2⟩:=h.lpp;rw[e];exact .l h1 h2
theorem Rel.asP{i:Nat}{p:Addr}{xs:List T}(r:Rel K dl H₀ hs H σ q F)(hi:q[i]? = some (.o (.l xs)))(hv:σ[i]? = some (some (.ref p))):Rel K dl H₀ hs H σ (q.set i (.o (.lp p xs))) F:=r.C5 hi fun v h3 h=>by
 rw[hv]at h3;cases h3;obtain⟨p',vs,G,e1,e,h1,h2⟩:=h.lst;cases e1;rw[e];exact .lp h1 h2
theorem Ds{i:Nat}(he:PE X e (bb i)):QPS X K (.Return (some e) pos) (Gx (bb i)) (fun D q=>match q[i]? with|some (.o t)=>D.ru (q.set i .no) t | _=>False):=⟨lV he,fun dl H₀ hs H σ q Dq D ⟨F,r⟩ hq E=>by
 split at hq
 ·rename_i t e1;obtain⟨v,hv,rp⟩:=r.g i _ t e1 rfl;obtain⟨o1,o2,o3⟩:=r.o i t e1;refine⟨v,hv,E.ru H (σ.set i none) _ _ v t (F i) (r.Mr i) rp o2 o1 (fun j b hb z=>?_) hq⟩
  by_cases ej:j=i
  ·rw[ej,aO]at z;cases z
  ·rw[aE ej]at z;exact o3 j ej b hb z
 ·exact hq.elim⟩
def JM(i:Nat):QE:=fun q Q=>match q[i]? with
 | some (.o (.lp _ xs))=>Q (.l xs)
 | _=>False
theorem qvp(i:Nat){pos:Pos}(hN:X.N[i]? = some x:=by rfl)(hv:Vis X.env.scope x:=by first|exact Or.inl rfl|exact Or.inr (Or.inl rfl)|exact Or.inr (Or.inr rfl))(hd:(x ==("__debug__":Str))=false:=by decide)
  (hcd:(x ==("__classdict__":Str))=false:=by decide):QPE X K (.Name x pos) (bb i) (JM i):=⟨xH hN hv hd hcd,fun dl H σ q Q R rd hq k=>by
 unfold JM at hq
 split at hq
 ·rename_i a ks e;obtain⟨v,F,h1,h2⟩:=rd.g i _ _ e rfl;obtain⟨vs,G,rfl,rfl,h3,h4⟩:=h2.r.lpp;exact⟨_,h1,k _ (.l ks) _ H (.refl rd.d) ⟨.l h3 h4,h2.n⟩ hq⟩
 ·exact hq.elim⟩
def DJ(i:Nat)(qk qv:QE):QS:=fun D q=>qv q fun t=>match q[i]? with
 | some (.o (.lp a xs))=>qk q fun u=>match u with
  | .i k=>∃ j,ixN xs.length k=some j/\T.ims xs=true/\t.im=true/\D.nx (q.set i (.o (.lp a (xs.set j t))))
  | _=>False
 | _=>False
theorem AZ{i:Nat}(hk:fZ K tk qk)(hv:fZ K tv qv):ie K (gD tv (ym (bb i) tk vz)) (DJ i qk qv):=fun dl H₀ hs H σ q Dq D ⟨F,r⟩ hq E=>by
 refine hv dl H σ q _ _ r.rd hq fun w t F1 H1 e1 r1 hq=>?_
 split at hq
 ·rename_i a xs ei;obtain⟨v,hv',rp⟩:=(r.evo e1).g i _ _ ei rfl;refine⟨v,hv',hk dl H1 σ q _ _ (r.rd.evo e1) hq fun y u F2 H2 e2 r2 hq=>?_⟩
  split at hq
  ·obtain⟨j,hj,hm,ht,hq⟩:=hq;obtain⟨rfl,_⟩:=r2.r.int;obtain rfl:=r1.r.im ht;have rp2:=rp.evo e1.d e2;obtain⟨vs,G,rfl,eF,h1,h2⟩:=rp2.r.lpp;have eG:=h2.im hm;subst eG;have hil:i<q.length:=(QH.mp ei).1;refine⟨a,vs,_,j,rfl,rfl,h1,by rw[h2.len];exact hj,?_⟩
   have rA:=r.asL ei;obtain⟨F3,r3⟩:=rA.jS (i:=i) (xs:=xs) (T4 hil) hv' eF (e1.trans e2) (au.set (r1.evo e1.d e2).r j h2 rfl) S6 fun _ z=>nomatch z
   have r4:=r3.asP (i:=i) (T4 (by rw[Ue];exact hil)) hv'
   rw[List.set_set,List.set_set]at r4;exact E.nx _ _ _ ⟨_,r4⟩ hq
  ·exact hq.elim
 ·exact hq.elim
theorem Dr{i:Nat}(ho:PE X o (bb i))(hk:QPE X K a tk qk)(hv:QPE X K b tv qv)(hs:swapsWithSole [.Subscript o a pos'] b pos.line X.env=pure false:=by rfl)(hw:swappedStores [.Subscript o a pos'] b X.env=pure none:=by rfl)
  (h1:(assignEach [.Subscript o a pos'] X.env).map (·.2) = [assign (.Subscript o a pos') X.env]:=by rfl)
  (ha:∀ v,assign (.Subscript o a pos') X.env v =(do
   let ov <- holding [v] (eval o X.env)
   let iv <- holding [v,ov] (eval a X.env)
   standAt pos'
   holding [v,ov,iv] (setItem ov iv v)
   release [v,ov,iv] []):=by intro _;rfl):QPS X K (.Assign [.Subscript o a pos'] b pos) (gD tv (ym (bb i) tk vz)) (DJ i qk qv) :=
 ⟨oF hv.h (xG ho hk.h set_list ha) hs hw h1,AZ hk.s hv.s⟩
end
section
variable{X:Cx}{K:W.Frag}{e o:Expr}{es:List Expr}{te:TE}{tl:TA}{qe:QE}{ql:QA}{pos p apos aV fE:Pos}{k k':Nat}{f:Addr}{prs:List Str}{ps:yQ}{i m:Nat}
def DN(m i j:Nat)(ps:yQ)(ql:QA):QS:=fun D q=>match q[m]?,q[i]? with
 | some (.o (.l xs)),some (.o (.lp a ys))=>i≠m/\ql q fun ts=>ps (ts.set j (.lp a ys)) fun r t'=>t'.adr=some a/\match r with
  | .l zs=>T.ims zs=true/\xs.length+zs.length<=S4/\D.nx ((q.set i (.o t')).set m (.o (.l (xs++zs))))
  | _=>False
 | _,_=>False
theorem CS(ha:FZ X K es tl i j ql):ie K (ip (tBM K "list" je (bb m) (bC (gZ (spL K j ps) [] E0 tl) fD))) (DN m i j ps ql):=fun dl H₀ hs H σ q Dq D ⟨F,r⟩ hq E=>by
 unfold DN at hq
 split at hq
 ·rename_i xs a ys em ei;obtain⟨him,hq⟩:=hq;obtain⟨v,hv,rp⟩:=r.g m _ _ em rfl;obtain⟨l,vs,G,rfl,eF,h1,h2⟩:=rp.r.lst;obtain⟨w,hw,rc⟩:=r.g i _ _ ei rfl;obtain⟨us,Gc,rfl,eC,c1,c2⟩:=rc.r.lpp;refine⟨_,hv,.inl ⟨rfl,vs,SqL.of h1⟩,ha.s dl H σ q (.ref a) _ _ r.rd hw hq fun ws ts H1 e1 l1 hj ho hz=>?_⟩
  have r1:=r.evo e1;show spL K j ps (ws ++ []) H1 _ _;rw[Td];have hjl:j<ts.length:=by rw[<- l1];exact(QH.mp hj).1
  have rc1:=rc.evo r.d e1;refine⟨dl,ts.set j (.lp a ys),.ref a,.lp a ys,F i,_,r1.d,by simp[l1],hj,T4 hjl,rc1,(r.o i _ ei).1,fun n v u ne h1 h2=>ho n v u ne h1 (by rwa [TV (fun z=>ne z.symm)]at h2),hz,fun v' rr Fr t' F' H' le r' n' hF' rv nv hFr dj hw'=>?_⟩
  have r2:=r1.Oz ei hw le r' n' hF';obtain⟨_,hw'⟩:=hw'
  split at hw'
  ·obtain⟨iz,hl,hq⟩:=hw';obtain⟨b,zs',Gz,rfl,rfl,z1,z2⟩:=rv.r.lst;obtain rfl:=z2.im iz;have em2:(q.set i (.o t'))[m]? = some (.o (.l xs)):=by rw[TV him];exact em
   obtain⟨v2,hv2,rp2⟩:=r2.g m _ _ em2 rfl;rw[hv]at hv2;cases hv2;obtain⟨l',vs',G',e',eF',h1',h2'⟩:=rp2.r.lst;cases e';refine⟨l,b,vs',zs',rfl,rfl,h1',z1,by rw[h2'.len,z2.len];exact hl,E.nx _ _ _ (r2.jS (i:=m) em2 hv eF' (.refl r2.d) (h2'.append z2) ?_ fun c hc=>?_) hq⟩
   ·rw[Td]
    have:=(r2.o m _ em2).1
    rw[eF']at this;exact(TB.mp this).2
   ·rw[Td]at hc;exact .inl hc
  ·exact hw'.elim
 ·exact hq.elim
theorem Ha(G:a8 X.prog X.w X.K X.mg X.base CX0 k f fd prs (spL K j ps))(hr:cK k' X.A)(D:Dn X.K X.mg x st f fd prs)(ho:PE X o (bb m))(ha:FZ X K (e::es) tl i j ql)(hk:k<=k':=by first|decide|omega)(hg:Gl X x:=by exact rfl)
  (hdb:(x ==("__debug__":Str))=false:=by decide) (he:SN (e::es) X.env =(false,eval e X.env)::SN es X.env:=by rfl) (hpl:(backTo pos (SN es X.env)).any (·.1)=false:=by rfl) (hK:X.K=K:=by rfl) (cE:attributeBase o "extend" X.env (eval o X.env)=eval o X.env:=by rfl)
  (iT:((backTo aV (SN [.Call (.Name x p) (e::es) [] pos] X.env)).all (fun x=>!x.1)&&(backToKw aV (keywordEach [] X.env)).all (fun x=>x.1.isSome)
   && decide (([.Call (.Name x p) (e::es) [] pos]:List Expr).length+([]:List Keyword).length+(if([]:List Keyword).isEmpty then 0 else 1)<30))=true:=by rfl)
  (cD:(apos.endLine==aV.line)=true:=by rfl) (hs:SN [.Call (.Name x p) (e::es) [] pos] X.env =(false,eval (.Call (.Name x p) (e::es) [] pos) X.env)::SN [] X.env:=by rfl) (cC:(backTo aV (SN [] X.env)).any (·.1)=false:=by rfl)
  (hsw:swapsWith (.Call (.Attribute o "extend" apos) [.Call (.Name x p) (e::es) [] pos] [] aV) none fE.line X.env=pure false:=by rfl) :
  QPS X K (.Expr (.Call (.Attribute o "extend" apos) [.Call (.Name x p) (e::es) [] pos] [] aV) fE) (ip (tBM K "list" je (bb m) (bC (gZ (spL K j ps) [] E0 tl) fD))) (DN m i j ps ql) :=
 ⟨kK (oO hK ho (jh G (hr.mono hk) hg D.m D.F.kp D.b .nil oJ ha.h hdb he hpl) cE iT cD hs cC) hsw,CS ha⟩
structure FY(X:Cx)(K:W.Frag)(es:List Expr)(tl:TA)(j:Nat)(ql:QA):Prop where
 h:PA X es tl
 s:∀(dl:Dl)(H:Hp)(σ:St)(q:Sq)(Q:List T->Prop)(R:List V->Hp->Prop),RdR K dl H σ q->ql q Q ->
  (∀ vs ts v0 t0 F0 H',Evo dl H H'->vs.length=ts.length->vs[j]? = some v0->ts[j]? = some t0->Rp K dl H' v0 t0 F0->F0.Nodup ->(∀ b∈F0,H b=none) ->(∀ n v t,n≠j->vs[n]? = some v->ts[n]? = some t->Rp K dl H' v t [])->Q ts->R vs H')->tl σ H R
theorem Hb(he:QPF X K e te qe)(hr:QPA X K es tl ql)(hs:SN (e::es) X.env =(false,eval e X.env)::SN es X.env:=by rfl):FY X K (e::es) (bC te tl) 0 (fun q Q=>qe q fun t=>ql q fun ts=>T.ims ts=true/\Q (t::ts)) :=
 ⟨a9 he.h hr.h hs,fun dl H σ q Q R rd hq k=>he.s dl H σ q _ _ rd hq fun v t F H0 e0 r0 f0 n0 hz=>hr.s dl H0 σ q _ _ (rd.evo e0) hz fun vs ts G H1 e1 r1 l1 hz=>k (v::vs) (t::ts) v t F H1 (e0.trans e1) (by simp[r1.r.len]) rfl rfl (r0.evo e0.d e1) n0 f0 (fun n v t ne h1 h2=>by
  cases n with
  | zero=>exact absurd rfl ne
  | succ n=>exact⟨r1.r.im1 hz.1 n v t (by simpa using h1) (by simpa using h2),fun _ z=>nomatch z⟩) hz.2⟩
theorem zi(he:QPE X K e te qe)(hr:FY X K es tl j ql)(hs:SN (e::es) X.env =(false,eval e X.env)::SN es X.env:=by rfl):FY X K (e::es) (bC te tl) (j+1) (fun q Q=>qe q fun t=>t.im=true/\ql q fun ts=>Q (t::ts)) :=
 ⟨a9 he.h hr.h hs,fun dl H σ q Q R rd hq k=>he.s dl H σ q _ _ rd hq fun v t F H1 e1 r1 hz=>hr.s dl H1 σ q _ _ (rd.evo e1) hz.2 fun vs ts v0 t0 F0 H2 e2 l2 hj ht r0 n0 f0 ho z=>by
  have r2:=r1.evo e1.d e2;obtain rfl:=r1.r.im hz.1;exact k (v::vs) (t::ts) v0 t0 F0 H2 (e1.trans e2) (by simp[l2]) (by simpa using hj) (by simpa using ht) r0 n0 (fun b hb=>e1.free (f0 b hb)) (fun n w u ne h1 h2=>by
   cases n with
   | zero=>simp at h1 h2;subst h1 h2;exact r2
   | succ n=>exact ho n w u (fun z=>ne (by rw[z])) (by simpa using h1) (by simpa using h2)) z⟩
def DL(j:Nat)(ps:yQ)(ql:QA):QE:=fun q Q=>ql q fun ts=>∃ xs,ts[j]? = some (.l xs)/\∀ a,ps (ts.set j (.lp a xs)) fun r _=>Q r
theorem A1(ha:FY X K es tl j ql):ig K (gZ (spL K j ps) [] E0 tl) (DL j ps ql):=fun dl H σ q Q R rd hq k=>ha.s dl H σ q _ _ rd hq fun vs ts v0 t0 F0 H1 e1 l1 hj ht r0 n0 f0 ho hz=>by
 obtain⟨xs,ex,hz⟩:=hz;rw[ht]at ex;cases ex;obtain⟨a,us,G,rfl,rfl,h1,h2⟩:=r0.r.lst;have hjl:j<ts.length:=(QH.mp ht).1;show spL K j ps (vs ++ []) H1 _ _;rw[Td];refine⟨dl,ts.set j (.lp a xs),.ref a,.lp a xs,a::G,_,e1.d,by simp[l1],hj,T4 hjl,⟨.lp h1 h2,r0.n⟩,n0,fun n v u ne h1 h2=>ho n v u ne h1 (by rwa [TV (fun z=>ne z.symm)]at h2),hz a,fun v' rr Fr t' F' H' le r' n' hF' rv nv hFr dj hw'=>?_⟩
 have out:∀{b:Addr}{o:HO},H b=some o->b ∉ a::G:=fun h z=>by rw[f0 _ z]at h;cases h
 have ev:Evo dl H H':=⟨fun b o h n nr=>le.k b o (e1.k b o h n nr) (out h) n nr,le.d,fun b x h=>let⟨y,hy,e2⟩:=e1.r b x h;let⟨z,hz,e3⟩:=le.r b y e2 (out h);⟨z,Vb hz hy,e3⟩⟩
 exact k v' rr Fr H' ev rv (fun b hb=>(hFr b hb).elim (f0 b) e1.free) nv hw'
theorem DA(G:a8 X.prog X.w X.K X.mg X.base CX0 k f fd prs (spL K j ps))(hr:cK k' X.A)(D:Dn X.K X.mg x st f fd prs)(ha:FY X K (e::es) tl j ql)(hk:k<=k':=by first|decide|omega)(hg:Gl X x:=by exact rfl)
  (hdb:(x ==("__debug__":Str))=false:=by decide) (he:SN (e::es) X.env =(false,eval e X.env)::SN es X.env:=by rfl) (hpl:(backTo pos (SN es X.env)).any (·.1)=false:=by rfl) :
  QPF X K (.Call (.Name x p) (e::es) [] pos) (gZ (spL K j ps) [] E0 tl) (DL j ps ql):=⟨jh G (hr.mono hk) hg D.m D.F.kp D.b .nil oJ ha.h hdb he hpl,A1 ha⟩
end
variable{elts:List Expr}{pos':Pos}
section
variable{X:Cx}{K:W.Frag}{a b:Expr}{ta tb:TE}{qa qb:QE}{pos p:Pos}
def Dk:R2:=fun x y H Q=>∃ l b xs zs,x = .ref l/\y = .ref b/\Rd H l (.lst xs)/\Rd H b (.lst zs)/\xs.length+zs.length<=S4/\∀ p,H p=none->Q (.ref p) (upd H p (.lst (xs++zs)))
theorem HS:OpR X (binaryOp .Add) Dk:=by
 intro gV s σ H x y v u Q I rx ry h;obtain⟨l,b,xs,zs,rfl,rfl,hH,hB,hz,q⟩:=h;cases rx;cases ry;obtain⟨z,its,n,r,e⟩:=(show a5 X.prog X.w H s.heap l (.lst xs)from hH.ok I.hok);obtain⟨z2,bJ,n2,r2,e2⟩:=(show a5 X.prog X.w H s.heap b (.lst zs)from hB.ok I.hok);have hl:=r.length;have hl2:=r2.length;refine PySem.P.add_list e e2 ?_ (by rw[S7,S7];omega)
 have ea:its.toArray++bJ.toArray =(its++bJ).toArray:=by simp
 rw[ea];exact⟨.ref _,_,I.Oy (t':=s.toks) (r.append r2) (by rw[RM];omega),rfl,q _ I.fresh⟩
theorem Rp.Ox{v:V}{t:T}{F:List Addr}{ts:List T}(r:Rp K dl H v t F)(h:t.lst=some ts):∃ p vs G,v = .ref p/\Rd H p (.lst vs)/\au K dl H vs ts G:=by
 cases t with
 | l xs=>cases h;obtain⟨p,vs,G,rfl,rfl,h1,h2⟩:=r.r.lst;exact⟨p,vs,G,rfl,.inl h1,h2⟩
 | zl xs=>cases h;obtain⟨p,o,vs,rfl,rfl,h1,h2⟩:=r.r.zls;exact⟨p,vs,[],rfl,.inr ⟨o,h1⟩,h2⟩
 | _=>cases h
def JP:Q2:=fun t u Q=>∃ xs ys,t.lst=some xs/\u.lst=some ys/\xs.length+ys.length<=S4/\T.ims xs=true/\T.ims ys=true/\Q (.l (xs++ys))
theorem CU:dq K Dk JP:=by
 intro dl H x y t u F G Q R D r1 r2 hq k;obtain⟨xs,ys,e1,e2,hl,i1,i2,hq⟩:=hq;obtain⟨p,vs,G1,rfl,h1,f1⟩:=r1.Ox e1;obtain⟨p',ws,G2,rfl,h2,f2⟩:=r2.Ox e2;obtain rfl:=f1.im i1;obtain rfl:=f2.im i2;refine⟨p,p',vs,ws,rfl,rfl,h1,h2,by rw[f1.len,f2.len];exact hl,fun p hp=>?_⟩
 have rs:Rps K dl H (vs++ws) _ ([] ++ []):=⟨f1.append f2,fun c hc=>nomatch hc⟩
 exact k _ _ _ _ ((Evo.refl D).new hp) (rs.lst D hp) (fun b hb=>by rw[qr.mp hb];exact hp) (by simp) hq
theorem zo(ha:QPE X K a ta qa)(hb:QPE X K b tb qb):QPF X K (.BinOp a .Add b pos) (tOp Dk ta tb) (qOp JP qa qb):=⟨cg HS ha.h hb.h,si CU ha.s hb.s⟩
def PC(qa:QE):QJ:=fun q Q=>qa q fun t=>match t with | .l xs=>Q (g7 xs) q | _=>False
theorem vB{x1}(hm:X.mg "enumerate" = none)(ha:QPF X K a ta qa)(hg:Gl X "enumerate":=by exact rfl)(hs:SN [a] X.env = [(false,eval a X.env)]:=by rfl)(hs':SN [a] X.env =(false,eval a X.env)::SN [] X.env:=by rfl)(hK:X.K=K:=by rfl) :
  QPJ X K (.Tuple elts x1 pos') (.Call (.Name "enumerate" p) [a] [] pos) (rH K false (bC ta fD)) (PC qa):=⟨kO hK hg hm (by kernel_rfl) (a9 ha.h c9 hs') hs,fun dl H₀ hs H σ q Q R ⟨F0,r0⟩ hq k=>ha.s dl H σ q _ _ r0.rd hq fun v t F H' e1 r f n hz=>by
 split at hz
 ·have r1:=(r0.evo e1).hold r fun j u hj b hb z=>(r0.fb hb).no (f b z)
  obtain⟨l1,vs1,G,rfl,rfl,h1,h2⟩:=r.r.lst;exact⟨l1,rfl,⟨vs1,SqL.of h1⟩,k _ _ _ H' q ⟨F0,r1⟩ ph hz⟩
 ·exact hz.elim⟩
end
variable{dl':Dl}
theorem aA.Rn{K:W.Frag}{v:V}{t:T}{F:List Addr}(h:aA K dl H v t F):t.pln=true->aA K dl' H v t F :=
 aA.rec (motive_1:=fun v t F _=>t.pln=true->aA K dl' H v t F) (motive_2:=fun v t F _=>T.c7 t=true->au K dl' H v t F) (motive_3:=fun _ _ _ _=>True)
  (fun _=>.n) (fun x _=>.b x) (fun x _=>.i x) (fun x _=>.s x) (fun _ h=>nof h) (fun h _ ih q=>.t h (ih q)) (fun _ _ _ h=>nof h) (fun _ _ _ h=>nof h) (fun _ h=>nof h) (fun _ h=>nof h) (fun _ h=>nof h) (fun _ _ _ h=>nof h) (fun _ h=>nof h) (fun _ _ _ h=>nof h)
  (fun _ _ h=>nof h) (fun _ _ _ h=>nof h) (fun _ _ _ h=>nof h) (fun _ _ _ h=>nof h) (fun h _ ih q=>.zl h (ih q)) (fun _=>.nil) (fun _ _ i1 i2 q=>.cons (i1 (To _ _▸q).1) (i2 (To _ _▸q).2)) trivial (fun _ _ _ _=>trivial) h
section
variable{X:Cx}{K:W.Frag}{e o:Expr}{es:List Expr}{tl:TA}{ql:QA}{pos p b9 p2 p3 p4:Pos}{k k':Nat}{f g:Addr}{gd:FuncData}{prs NM:List Str}{ps:PSp}
def xA(ps:PSp)(i:Nat)(n:Int)(ql:QA):QE:=fun q Q=>match q[i]? with
 | some (.r (.z ns))=>ns.length<=63/\0<=n/\n<=63/\ql q fun ts=>T.ims ts=true/\ps (.cZ::ts) fun t=>t.pln=true/\Q t
 | _=>False
theorem A2{i m:Nat}{n:Int}(ha:FX K m tl ql):ig K (gZ (spQ K ps) [] E0 (bC (gZ (sf K) [] E0 (bC (bb i) (bC (tC (.int n)) fD))) tl)) (xA ps i n ql):=fun dl H σ q Q R rd hq k=>by
 unfold xA at hq
 split at hq
 ·rename_i ns ei;obtain⟨h63,n0,n1,hz⟩:=hq;obtain⟨v,F,hv,rp⟩:=rd.g i _ _ ei rfl;obtain⟨a,rfl,fz⟩:∃ a,v = .ref a/\FzL K H a (ns.map V.int):=by
   cases rp.r with
   | z h=>exact⟨_,rfl,h⟩
  refine⟨_,hv,a,ns,n,rfl,fz.sq,h63,n0,n1,fun d l H1 hd hl D1 sm=>?_⟩
  have e1:Evo dl H H1:=⟨fun b o h _ _=>sm b o h,fun p hp=>by
   obtain⟨s,n,ls,Q⟩:=rd.d p hp;exact⟨s,n,ls,⟨sm _ _ Q.hd,sm _ _ Q.hl,Q.s0,Q.s1,Q.n0,Q.l0⟩⟩,fun a x h=>⟨x,Uc _,sm _ _ h⟩⟩
  have nd:Nd dl d:=rd.d.nd0 hd;have nl:Nd dl l:=rd.d.nd0 hl;refine ha dl H1 σ q _ _ (rd.evo e1) hz fun vs ts G H2 e2 r2 _ hz=>?_
  obtain⟨hi,hz⟩:=hz;obtain rfl:=r2.r.im hi;have D2:ku H2 d l:=by
   obtain⟨s,n,ls,Q⟩:=D1;exact⟨s,n,ls,⟨e2.k _ _ Q.hd nd (fun _ z=>nomatch z),e2.k _ _ Q.hl nl (fun _ z=>nomatch z),Q.s0,Q.s1,Q.n0,Q.l0⟩⟩
  show spQ K ps ((.ref d::vs) ++ []) H2 R E0;rw[Td];have rs:au K ((d,l)::dl) H2 vs ts []:=r2.r.cY ⟨fun _ _ h=>h,fun _ _ _ h=>h,fun _ _ h=>h,fun _ xs h=>⟨xs,h⟩,fun _ x h=>⟨x,Uc _,h⟩⟩ (fun _ q=>SK _ q) fun _ hb=>nomatch hb
  refine⟨(d,l)::dl,.cZ::ts,[],fun t=>t.pln=true/\Q t,fun p hp=>?_,⟨.cons (F:=[]) (.x (l:=l) SG) rs,fun _ z=>nomatch z⟩,hz,fun v t F' H' e r fr nn hz=>?_⟩
  ·rcases S1.mp hp with rfl|hp
   ·exact D2
   ·exact e2.d p hp
  ·have hn:∀ b,H b≠none->b≠d/\b≠l:=fun b hb=>⟨fun z=>hb (z▸hd),fun z=>hb (z▸hl)⟩
   have ev:Evo dl H H':=⟨fun b o hb n r=>e.k b o (e2.k b o (e1.k b o hb n r) n r) (fun p hp=>by
     rcases S1.mp hp with rfl|hp
     ·exact hn b (by rw[hb];exact fun z=>nomatch z)
     ·exact n p hp) r,fun p hp=>e.d p (SK _ hp),fun a x h=>by
     obtain⟨y,hy,h1⟩:=e2.r a x (sm _ _ h);obtain⟨z,hz,h2⟩:=e.r a y h1;exact⟨z,Vb hz hy,h2⟩⟩
   refine k v t F' H' ev ⟨r.r.Rn hz.1,fun b hb p hp=>r.n b hb p (SK _ hp)⟩ (fun b hb=>e1.free (e2.free (fr b hb))) nn hz.2
 ·exact hq.elim
theorem DC{i:Nat}{n:Int}{j}{y:Str}{st':Stmt}{k0:Nat}(Fd:a8 X.prog X.w X.K X.mg X.base CX0 k' g gd NM (sf K))(F:a8 X.prog X.w X.K X.mg X.base CX0 k f fd prs (spQ K ps))(hr:cK k0 X.A)(Dd:Dn X.K X.mg y st' g gd NM)(D:Dn X.K X.mg x st f fd prs)(ho:PE X o (bb i))(ha:QPA X K es tl ql)
  (hk:k<=k0:=by first|decide|omega) (hk':k'<=k0:=by first|decide|omega) (hg:Gl X x:=by exact rfl) (hg':Gl X y:=by exact rfl) (hdb:(x ==("__debug__":Str))=false:=by decide) (R9:(y ==("__debug__":Str))=false:=by decide)
  (hs0:SN [.Constant (.int n) j p4] X.env =(false,eval (.Constant (.int n) j p4) X.env)::SN [] X.env:=by rfl)
  (hs:SN [o,.Constant (.int n) j p4] X.env =(false,eval o X.env)::SN [.Constant (.int n) j p4] X.env:=by rfl) (RT:(backTo b9 (SN [.Constant (.int n) j p4] X.env)).any (·.1)=false:=by rfl)
  (he:SN (.Call (.Name y p2) [o,.Constant (.int n) j p4] [] b9::es) X.env =(false,eval (.Call (.Name y p2) [o,.Constant (.int n) j p4] [] b9) X.env)::SN es X.env:=by rfl) (hpl:(backTo pos (SN es X.env)).any (·.1)=false:=by rfl) :
  QPF X K (.Call (.Name x p) (.Call (.Name y p2) [o,.Constant (.int n) j p4] [] b9::es) [] pos) (gZ (spQ K ps) [] E0 (bC (gZ (sf K) [] E0 (bC (bb i) (bC (tC (.int n)) fD))) tl)) (xA ps i n ql) :=
 ⟨jh F (hr.mono hk) hg D.m D.F.kp D.b .nil oJ (a9 (jh Fd (hr.mono hk') hg' Dd.m Dd.F.kp Dd.b .nil oJ (a9 ho (a9 br c9 hs0) hs) R9 hs RT) ha.h he) hdb he hpl,A2 ha.s⟩
end
section
variable{X:Cx}{K:W.Frag}{e:Expr}{te:TE}{qe:QE}{pos p b9 p2:Pos}
def nX(K:W.Frag)(te:TE):TE:=fun σ H Q=>te σ H fun v H1=>∃(a:Addr)(ws:List Str),v = .ref a/\SqT K H1 a (ws.map V.str)/\ws.length<60/\∀(l:Addr)(ys:List Str),H1 l=none->ys.Nodup ->(∀ y,y∈ys ↔ y∈ws)->Q (.ref l) (upd H1 l (.lst (ys.map V.str)))
def vE(qe:QE):QE:=fun q Q=>qe q fun t=>match t with
 | .t xs=>∃ ws:List Str,xs=ws.map .s/\ws.length<60/\∀ ys:List Str,ys.Nodup ->(∀ y,y∈ys ↔ y∈ws)->Q (.l (ys.map .s))
 | _=>False
theorem au.strs{dl:Dl}{H:Hp}:∀{ws:List Str}{vs:List V}{F:List Addr},au K dl H vs (ws.map T.s) F->vs=ws.map V.str/\F = []
 | [],_,_,h=>by cases h;exact⟨rfl,rfl⟩
 | w::r,_,_,h=>by
  cases h with
  | cons h1 h2 =>
   cases h1;obtain⟨rfl,rfl⟩:=au.strs h2;exact⟨rfl,rfl⟩
theorem au.ofStrs{dl:Dl}{H:Hp}:∀ ws:List Str,au K dl H (ws.map V.str) (ws.map T.s) []
 | []=>.nil
 | w::r=>.cons (F:=[]) (.s w) (au.ofStrs r)
theorem vo(he:fZ K te qe):ig K (nX K te) (vE qe):=fun dl H σ q Q R rd hq k=>he dl H σ q _ _ rd hq fun v t F H1 e1 r1 hz=>by
 split at hz
 ·obtain⟨ws,rfl,hl,hz⟩:=hz;cases r1.r with
  | t h1 h2 =>
   obtain⟨rfl,rfl⟩:=h2.strs;refine⟨_,ws,rfl,SqT.of h1,hl,fun l ys hn y1 y2=>?_⟩
   have rs:Rps K dl H1 (ys.map V.str) (ys.map T.s) []:=⟨au.ofStrs ys,fun _ z=>nomatch z⟩
   exact k _ _ _ _ (e1.new hn) (rs.lst e1.d hn) (fun b hb=>by rw[qr.mp hb];exact e1.free hn) (by simp) (hz ys y1 y2)
 ·exact hz.elim
abbrev uU(K:W.Frag):Prop:=∀(X:Cx)(e:Expr)(te:TE)(p p2 pos b9:Pos),X.K=K->X.calm=true->Gl X "sorted" -> Gl X "set" -> X.mg "sorted" = none->X.mg "set" = none->SN [e] X.env = [(false,eval e X.env)] ->
 SN [.Call (.Name "set" p2) [e] [] b9] X.env = [(false,eval (.Call (.Name "set" p2) [e] [] b9) X.env)]->PE X e te->PE X (.Call (.Name "sorted" p) [.Call (.Name "set" p2) [e] [] b9] [] pos) (nX K te)
theorem xu(SS:uU K)(hm1:X.mg "sorted" = none)(hm2:X.mg "set" = none)(he:QPE X K e te qe)(hK:X.K=K:=by rfl)(hc:X.calm=true:=by rfl)(hg1:Gl X "sorted":=by exact rfl)(hg2:Gl X "set":=by exact rfl)
  (hs1:SN [e] X.env = [(false,eval e X.env)]:=by rfl) (hs2:SN [.Call (.Name "set" p2) [e] [] b9] X.env = [(false,eval (.Call (.Name "set" p2) [e] [] b9) X.env)]:=by rfl) :
  QPF X K (.Call (.Name "sorted" p) [.Call (.Name "set" p2) [e] [] b9] [] pos) (nX K te) (vE qe):=⟨SS X e te p p2 pos b9 hK hc hg1 hg2 hm1 hm2 hs1 hs2 he.h,vo he.s⟩
end
end L2
namespace PySem
open Sem (wp)
theorem xV(t:SetTable)(es:Array (Int×Value))(h:Int)(x:Value):(layNew t es h x).2.1.led=t.led:=by
 unfold layNew
 split
 ·show(SetTable.orStandIn _ _).led=_;unfold SetTable.orStandIn
  split <;> rfl
 ·rfl
theorem sI(t:SetTable)(es:Array (Int×Value))(n:Nat):(relayAll t es n).2.1.led=t.led/\(t.plain=false ->(relayAll t es n).2.1.plain=false):=by
 unfold relayAll
 split
 ·next t' order e =>
  unfold SetTable.relaid SetTable.laid at e;cases e1:SetTable.layClean (SetTable.sizeAbove n - 1) (es.map (·.1))with
  | none=>rw[e1]at e;cases e
  | some ow =>
   rw[e1]at e;cases e;dsimp only
   split
   ·exact⟨rfl,fun z=>z⟩
   ·exact⟨rfl,fun _=>rfl⟩
 ·exact⟨rfl,fun _=>rfl⟩
def kB(e:Int×Value):Str:=PyProof.Rows.strOf e.2
def cw(prog:Program)(w:World)(h:Heap)(a:Addr)(ws:List Str):Prop :=
 ∃ o es ep t,h.get? a=some o/\o.ExactSet/\o.data = .set es ep t/\ElemsOf (strKind prog w) es.toList/\(es.toList.map kB).Perm ws/\ws.length<VI/\t.fits es.size=true/\t.led = !w.params.followText "set-order" /\ (es.size≠0->t.plain=false)
def bH(ws:List Str)(k:Str):List Str:=if k∈ws then ws else ws ++ [k]
section
variable{prog:Program}{w:World}{A:Around}{E:Value->Shared->Prop}{s:Shared}
theorem J7{k:Str}{e:Int×Value}(h:(strKind prog w).is k e.2=true):kB e=k:=by
 obtain⟨t,e1⟩:=Value.isStrOf_shape h;unfold kB;rw[e1];rfl
theorem IQ{es:List (Int×Value)}(h:ElemsOf (strKind prog w) es):∀ e∈es,(strKind prog w).is (kB e) e.2=true:=fun e he=>by
 obtain⟨⟨k,hk,_⟩,_⟩:=h e he;rw[J7 hk];exact hk
theorem cw.sz{h:Heap}{a:Addr}{ws:List Str}{es:Array (Int×Value)}(p:(es.toList.map kB).Perm ws):es.size=ws.length:=by
 have:=p.length_eq
 rwa [j3,Ug]at this
theorem w5{a:Addr}{ws:List Str}{k:Str}{tk:Tok}{Q:Bool->Shared->Prop}(hS:cw prog w s.heap a ws)(OT:ws.length+1<VI)
  (h:∀ h' b,T7 a s.heap h'->cw prog w h' a (bH ws k)->Q b { s with heap:=h' }):wpAny (model prog w) A (setAddHashed a (.str k tk) (hashStr w k)) Q E s:=by
 obtain⟨o,es,ep,t,ho,hex,hd,hel,hp,hb,hf,BL,hpl⟩:=hS;have BN:(strKind prog w).is k (.str k tk)=true:=strKind_is _ _ _ _;have hz:es.size=ws.length:=cw.sz (h:=s.heap) (a:=a) hp;unfold setAddHashed setAddHashedIn;refine TY (j0 (wpAny_setState_of ho hd hf ?_));dsimp only;rw[byScan_of (knd:=strKind prog w) rfl (by rw[hz];exact hb) hel]
 simp only[↓reduceIte];unfold setAddByScan;refine j0 ?_;refine j0 (Uz ?_);refine j0 (wpAny_setScan_of (knd:=strKind prog w) BN ho hd hf hel ?_);cases hr:List.findIdx? (fun e=>(strKind prog w).is k e.2) es.toList with
 | some j =>
  dsimp only;obtain⟨hj,hpj,_⟩:=UJ.mp hr;have hk:k∈ws:=hp.mem_iff.mp (S5.mpr ⟨_,US hj,J7 hpj⟩);refine M7 (M7 ?_);have e:s ={ s with heap:=s.heap }:=by cases s;rfl
  rw[e];exact h s.heap _ (Heap.SameBut.refl a s.heap) ⟨o,es,ep,t,ho,hex,hd,hel,by unfold bH;rw[if_pos hk];exact hp,by unfold bH;rw[if_pos hk];exact hb,hf,BL,hpl⟩
 | none =>
  dsimp only;have hk:k ∉ ws:=fun hk=>by
   obtain⟨e,he,e1⟩:=S5.mp (hp.mem_iff.mpr hk);have h1:=List.findIdx?_eq_none_iff.mp hr e he;have h2:=IQ hel e he;rw[e1]at h2;rw[h2]at h1;cases h1
  have ea:bH ws k=ws ++ [k]:=by unfold bH;rw[if_neg hk]
  rw[ea]at h;have hgw:∀(b:Bool){s₁:Shared}{Q':Unit->Shared->Prop},Q' () s₁->wpAny (model prog w) A (match b with|true=>rule "set.scan.the-table-gave-way" | false=>pure ()) Q' E s₁ :=
   fun b s₁ Q' hq=>by cases b <;> first|exact M7 hq|exact Uz hq
  have we:=layNew_perm t es (hashStr w k) (.str k tk);have zW:=layNew_fits t es (hashStr w k) (.str k tk);have hl1:=xV t es (hashStr w k) (.str k tk);show wpAny (model prog w) A (match layNew t es (hashStr w k) (.str k tk)with |(es,t,vi,Sh)=>_) _ E s
  generalize hL:layNew t es (hashStr w k) (.str k tk)=L at we zW hl1 ⊢
  obtain⟨es1,t1,vi,Sh⟩:=L;dsimp only at we zW hl1 ⊢;rw[Vz]at we;have OX:ElemsOf (strKind prog w) es1.toList:=(hel.push BN rfl).perm we;have hp1:(es1.toList.map kB).Perm (ws ++ [k]):=(we.map kB).trans (by rw[S9];exact hp.append_right _)
  have hb1:(ws ++ [k]).length<VI:=by rw[RM];exact OT
  have hz1:es1.size =(ws ++ [k]).length:=cw.sz (h:=s.heap) (a:=a) hp1;refine j0 (hgw _ ?_);have tail:∀ t2:SetTable,t2.fits es1.size=true->t2.led=t.led->t2.plain=false->∀ R:Option Bool->Shared->Prop,(∀ h',T7 a s.heap h'->cw prog w h' a (ws ++ [k])->R (some true) { s with heap:=h' })->wpAny (model prog w) A (do
    storeSet a es1 t2
    if(!vi&&t2.tooFull)=true then do
      (match(relayAll t2 es1 (SetTable.grown es1.size)).2.2 with|true=>rule "set.scan.the-table-gave-way" | false=>pure ())
      storeSet a (relayAll t2 es1 (SetTable.grown es1.size)).1 (relayAll t2 es1 (SetTable.grown es1.size)).2.1
      pure (some true)
     else pure (some true)) R E s:=by
   intro t2 f2 l2 p2 R hR;have hz2:=fits_of_scanBound (n:=es1.size) (by rw[hz1];exact hb1)
   refine j0 (wpAny_storeSet_of ho hd ?_ hz2);have ho1:(s.heap.update a (V6 es1 t2)).get? a=some { o with data:=.set es1 (ep+1) t2 }:=by
    have:=Tt (V6 es1 t2) ho (by rw[putSet_of es1 t2 hd];rfl)
    rw[putSet_of es1 t2 hd]at this;exact this
   have OS:=Heap.SameBut.update s.heap a (V6 es1 t2)
   split
   ·have hpr:=relayAll_perm t2 es1 (SetTable.grown es1.size);have hfr:=relayAll_fits t2 es1 (SetTable.grown es1.size);have hlr:=sI t2 es1 (SetTable.grown es1.size)
    generalize hRl:relayAll t2 es1 (SetTable.grown es1.size)=Rl at hpr hfr hlr ⊢
    obtain⟨es2,t3,SH⟩:=Rl;dsimp only at hpr hfr hlr ⊢;have hp2:(es2.toList.map kB).Perm (ws ++ [k]):=(hpr.map kB).trans hp1;have hz3:es2.size =(ws ++ [k]).length:=cw.sz (h:=s.heap) (a:=a) hp2;refine j0 (hgw _ ?_);refine j0 (wpAny_storeSet_of ho1 rfl ?_ (fits_of_scanBound (by rw[hz3];exact hb1)))
    have ho2:=Tt (V6 es2 t3) ho1 rfl;exact M7 (hR _ (OS.trans (Heap.SameBut.update _ a _)) ⟨_,es2,_,t3,ho2,hex,rfl,OX.perm hpr,hp2,hb1,hfr,by rw[hlr.1,l2,BL],fun _=>hlr.2 p2⟩)
   ·exact M7 (hR _ OS ⟨_,es1,_,t2,ho1,hex,rfl,OX,hp1,hb1,f2,by rw[l2,BL],fun _=>p2⟩)
  split
  ·refine j0 ?_;rw[hashByValue_scannable 8 rfl];refine M7 ?_;exact tail { t1 with plain:=false } (SetTable.fits_plain_off zW) hl1 rfl _ fun h' sb S'=>M7 (h h' _ sb S')
  ·next hnp =>
   refine j0 (M7 ?_);exact tail t1 zW hl1 (by simpa using hnp) _ fun h' sb S'=>M7 (h h' _ sb S')
end
end PySem
namespace PySem
open Sem (wp)
def jD(ks:List Str):List Str:=ks.foldl bH []
theorem yI(ws:List Str)(k:Str):(bH ws k).length<=ws.length+1:=by
 unfold bH
 split
 ·omega
 ·rw[RM];exact S3 _
theorem yH{ws:List Str}{k x:Str}:x∈bH ws k ↔ x∈ws\/x=k:=by
 unfold bH
 split
 ·next h=>exact⟨.inl,fun z=>z.elim id fun e=>e▸h⟩
 ·rw[SY,qr]
theorem Cd{ws:List Str}{k:Str}(h:ws.Nodup):(bH ws k).Nodup:=by
 unfold bH
 split
 ·exact h
 ·next n=>exact T1.mpr ⟨h,by simp,fun x hx y hy e=>n (by rw[qr.mp hy]at e;exact e▸hx)⟩
theorem yq(ks:List Str)(k:Str):jD (ks ++ [k])=bH (jD ks) k:=by unfold jD;rw[List.foldl_append];rfl
theorem uu:∀(ks ws:List Str),ws.Nodup ->(ks.foldl bH ws).Nodup/\(∀ x,x∈ks.foldl bH ws ↔ x∈ws\/x∈ks)/\(ks.foldl bH ws).length<=ws.length+ks.length
 | [],ws,h=>⟨h,fun x=>by simp,S3 _⟩
 | k::r,ws,h=>by
  obtain⟨h1,h2,h3⟩:=uu r (bH ws k) (Cd h);refine⟨h1,fun x=>?_,?_⟩
  ·show x∈r.foldl bH (bH ws k) ↔ _;rw[h2,yH,S1,or_assoc]
  ·have:=yI ws k
   rw[Te];show(r.foldl bH (bH ws k)).length<=_;omega
section
variable{prog:Program}{w:World}{A:Around}{R:Result->Shared->Prop}{I:Addr}{fp wr:List Addr}{G:Array VW->Array VW->Prop}{n:Nat}{P:Nat->Value->Prop}{St:Nat->Shared->Prop}
theorem Cs(W:WalksS prog w A.in1 I fp wr G n P St)(S:Addr)(hSf:S ∉ fp)(ks:List Str)(hn:ks.length=n)
  (RO:∀ i v,P i v->∃ k t,ks[i]? = some k/\v = .str k t) (hb:n+1<VI) :
  ∀(k i:Nat)(s:Shared),n - i=k->i<=n->St i s->cw prog w s.heap S (jD (ks.take i)) ->
   (∀ s',Moved (S::wr) G s s'->cw prog w s'.heap S (jD ks)->R (.ok (.ret .none)) s') ->
   codeAny (model prog w) A (.builtin "set.update.loop" ⟨[.ref S,.ref I],[]⟩) R s:=by
 have hSw:S ∉ wr:=fun h=>hSf (W.sub _ h)
 have BK:∀ b∈wr,b∈S::wr:=fun b hb=>SK _ hb
 have mv:∀{s s':Shared}{ws:List Str},Moved wr G s s'->cw prog w s.heap S ws->cw prog w s'.heap S ws:=fun hm ⟨o,es,ep,t,ho,r⟩=>⟨o,es,ep,t,hm.heap S _ hSw ho,r⟩
 intro k
 induction k with
 | zero =>
  intro i s hk hi hst hS hR;have hin:i=n:=by omega
  subst hin;refine Ui PyProof.Rows.F.entry_set_update_loop ?_;rw[T6 PyProof.Rows.F.plain_set_update_loop _];show wpAny _ A.in1 (pyNext (.ref I) >>= _) _ _ s;refine j0 (W.done s _ _ hst fun s' hm=>?_)
  show wpAny _ A.in1 (ret Value.none) _ _ s';refine M7 (hR s' (hm.mono BK) ?_);rw[VL (by omega)]at hS
  exact mv hm hS
 | succ k ih =>
  intro i s hk hi hst hS hR;have hlt:i<n:=by omega
  refine Ui PyProof.Rows.F.entry_set_update_loop ?_;rw[T6 PyProof.Rows.F.plain_set_update_loop _];show wpAny _ A.in1 (pyNext (.ref I) >>= _) _ _ s;refine j0 (W.item i s _ _ hlt hst fun v s' hP ES hm=>?_)
  obtain⟨x,t,ex,rfl⟩:=RO i v hP;have hS':=mv hm hS;show wpAny _ A.in1 (holding [Value.str x t] (setAdd S (.str x t)) >>= _) _ _ s';refine j0 (TY ?_);unfold setAdd;refine TY ?_;refine j0 ((strKind prog w).pyHash (k:=x) (strKind_is _ _ _ _) ?_);have hl:=(uu (ks.take i) [] (by simp)).2.2
  rw[Ti,Ur]at hl;refine w5 (s:={ s' with toks:=s'.toks+1 }) hS' (by show(List.foldl bH [] (ks.take i)).length+1<_;omega) fun h' b hsb hS2=>?_
  have e1:bH (jD (ks.take i)) x=jD (ks.take (i+1)):=by rw[<- yq,List.take_succ,ex];rfl
  rw[e1]at hS2;refine M7 ⟨Uv PyProof.Rows.F.plain_set_update_loop _,ih (i+1) _ (by omega) hlt (W.frame _ s' _ _ ES (Vi _) fun b hb o e=>?_) hS2 fun s'' R3 IJ=>?_⟩
  ·rw[hsb.2 b (fun h:b=S=>hSf (by rw[<- h];exact hb))];exact e
  ·refine hR s'' (Moved.trans W.gtrans ((hm.mono BK).then_heap (Vi _) fun b o hb e=>?_) R3) IJ
   rw[hsb.2 b (fun h:b=S=>hb (by rw[h];exact SG))];exact e
end
section
variable{prog:Program}{w:World}{A:Around}{E:Value->Shared->Prop}{s:Shared}
theorem qM(a:Value){Q₁:Value->Shared->Prop}{ld:Bool}(hld:ld = !w.params.followText "set-order")
  (h:Q₁ (.ref s.heap.objs.size) { s with heap:=s.heap.push { cls:=.type "set",dict:=none,data:=.set #[] 0 (.fresh 0 0 ld) } }) :
  codeAny (model prog w) A (.call (.builtin "set.__new__") ⟨[.type "set",a],[]⟩) (wants Q₁ E) s:=by
 refine codeAny_of_tree ?_;show wpAny _ A.in1 (do checkBuiltinCall "set.__new__" ⟨[.type "set",a],[]⟩;again (.builtin "set.__new__" ⟨[.type "set",a],[]⟩)) _ _ s
 refine j0 (VX (F.newCall_set_1 a) (M7 ⟨Uv F.plain_set_new _,Ui F.entry_set_new ?_⟩));rw[T6 F.plain_set_new _];unfold Builtin.«set.__new__» Builtin.Frozenset.newClass;have BK:=sub_set_self;obtain⟨hp,g,d,tk,os⟩:=s;dsimp only
 wp_walk
 refine wpAny_askSetting (M7 ?_);dsimp only;simp only[newObj];refine j0 (wpAny_alloc (M7 ?_));rw[hld]at h;exact M7 h
set_option maxRecDepth 100000 in
set_option maxHeartbeats 3200000 in
theorem qO{l:Addr}{items:Array Value}{ks:List Str}{Q:Value->Shared->Prop}
  (hh:A.handled=none) (hl:s.heap.IsTuple l items) (hi:∀(i:Nat)(v:Value),items[i]? = some v->∃ k t,ks[i]? = some k/\v = .str k t) (hn:ks.length=items.size) (hb:items.size+1<VI)
  (h:∀(h':Heap)(tk:Nat),cw prog w h' s.heap.objs.size (jD ks) ->
   (∀ b o,b<s.heap.objs.size->s.heap.get? b=some o->h'.get? b=some o)->Q (.ref s.heap.objs.size) { s with heap:=h',toks:=tk }) :
  wpAny (model prog w) A (call (.type "set") [.ref l]) Q E s:=by
 obtain⟨c,tl,SU⟩:=F.called_set.mro;have SF:=F.called_set.made;have BK:=F.called_set.sub;refine wpAny_call (codeAny_of_tree ?_);show wpAny _ _ (callAny (.type "set") _) _ _ _;refine M7 ⟨Code.quiet_builtin _ (by decide +kernel),Ui F.entry_type_call ?_⟩
 rw[Around.under_plain (weight_type_call_type "set" [.ref l] []) rfl];have h1:=F.called_set.notType;have h2:=F.called_set.canCreate;have hct:=F.typeCall_set_1 (.ref l)
 repeat (any_goals (first|assumption|wp_step))
 obtain⟨ld,hld⟩:∃ ld,ld = !w.params.followText "set-order":=⟨_,rfl⟩
 refine codeAny_mono (qM (.ref l) (E:=E) (Q₁:=fun obj s₁=>obj = .ref s.heap.objs.size/\s₁ ={ s with heap:=s.heap.push { cls:=.type "set",dict:=none,data:=.set #[] 0 (.fresh 0 0 ld) } }) hld ⟨rfl,rfl⟩) fun r s₁ hr=>?_
 cases r with
 | error e=>exact hr
 | ok fl =>
  cases fl with
  | ret obj =>
   obtain⟨rfl,rfl⟩:=hr;have hS:(s.heap.push { cls:=.type "set",dict:=none,data:=.set #[] 0 (.fresh 0 0 ld) }).get? s.heap.objs.size=some { cls:=.type "set",dict:=none,data:=.set #[] 0 (.fresh 0 0 ld) }:=S2 _ rfl;have hT:Shared.TypeIs { s with heap:=s.heap.push { cls:=.type "set",dict:=none,data:=.set #[] 0 (.fresh 0 0 ld) } } (.ref s.heap.objs.size) "set":=⟨_,hS,rfl⟩
   have hli:=F.called_set.init.lookup;have hbi:=F.called_set.init.bind (.ref s.heap.objs.size)
   repeat (any_goals (first|assumption|wp_step))
   refine codeAny_mono (codeAny_call_builtin (R:=wants (fun r s₂=>r = .none/\∃ h' tk,s₂ ={ s with heap:=h',toks:=tk }/\cw prog w h' s.heap.objs.size (jD ks) /\
     (∀ b o,b<s.heap.objs.size->s.heap.get? b=some o->h'.get? b=some o)) E) F.called_set.init.plain F.entry_set_init (check_set_init_1 hT ?_)) fun r₂ s₂ hr₂=>?_
   ·obtain⟨ol,hol,hcl,nl,hdl⟩:=hl;obtain⟨SM,N6,SE,Ly⟩:=ol;simp only at hcl hdl;subst hcl;subst hdl;have RU:(s.heap.push { cls:=.type "set",dict:=none,data:=.set #[] 0 (.fresh 0 0 ld) }).get? l=some { cls:=.type "tuple",dict:=N6,data:=.seq items nl,slots:=Ly }:=j5 _ hol;have SO:=F.sub_tuple_set;have SQ:=F.sub_tuple_frozenset;have hne:(Value.type "tuple" == Value.type "dict")=false:=by decide
    have hl1:(s.heap.push { cls:=.type "set",dict:=none,data:=.set #[] 0 (.fresh 0 0 ld) }).IsTuple l items:=⟨_,RU,rfl,nl,rfl⟩;unfold Builtin.«set.__init__» noKeywords Builtin.Frozenset.updateFrom
    generalize hPI:pyIter=PI
    wp_walk
    subst hPI;refine wpAny_pyIter_tuple (s:={ s with heap:=s.heap.push { cls:=.type "set",dict:=none,data:=.set #[] 0 (.fresh 0 0 ld) } }) hl1 ?_
    refine j0 (wpAny_runValue ?_);have hlS:l<s.heap.objs.size:=Sy hol;have hh3:A.in1.in1.in1.handled=none:=by simp[hh]
    have RX:l≠(s.heap.push { cls:=.type "set",dict:=none,data:=.set #[] 0 (.fresh 0 0 ld) }).objs.size:=by
     rw[Tw];exact Tf (UQ hlS)
    have hSf:s.heap.objs.size ∉ [(s.heap.push { cls:=.type "set",dict:=none,data:=.set #[] 0 (.fresh 0 0 ld) }).objs.size,l]:=by
     rw[Tw];simp only[S1,qr,Ts,or_false,not_or];exact⟨Tf (UC _),T8 hlS⟩
    refine Cs ((Walks.tuple hh3 _ l RX items).toS) s.heap.objs.size hSf ks hn hi hb (items.size - 0) 0 _ (by omega) (TX _)
     ⟨⟨_,S2 _ rfl,rfl,rfl⟩,let⟨o,ho,r⟩:=hl1;⟨o,j5 _ ho,r⟩⟩ ?hS0 ?hR
    case hS0 =>
     refine⟨_,#[],0,_,j5 _ hS,⟨rfl,rfl,rfl⟩,rfl,?_,List.Perm.nil,?_,rfl,hld,fun z=>absurd rfl z⟩
     ·exact fun e he=>absurd he (by simp)
     ·exact(by decide:0<4096)
    case hR =>
     intro s' hm hS';obtain⟨h',g',d',tk',os'⟩:=s';have eg:g'=s.gens:=hm.gens;have ed:d'=s.drawn:=hm.drawn;have eo:os'=s.os:=hm.os;subst eg;subst ed;subst eo;show wpAny _ _ _ _ _ _;refine M7 ?_;show wpAny _ _ (ret Value.none) _ _ _;refine M7 ⟨rfl,h',tk',rfl,hS',fun b o hb e=>?_⟩
     have hb1:b≠s.heap.objs.size:=Tf hb;have hb2:b≠(s.heap.push { cls:=.type "set",dict:=none,data:=.set #[] 0 (.fresh 0 0 ld) }).objs.size:=by
      rw[Tw];exact Tf (UQ hb)
     exact hm.heap b o (by simp only[S1,qr,Ts,or_false,not_or];exact⟨hb1,hb2⟩) (j5 _ (j5 _ e))
   ·cases r₂ with
    | error e=>exact hr₂
    | ok fl₂ =>
     cases fl₂ with
     | ret r =>
      obtain⟨rfl,h',tk,rfl,hS',hk'⟩:=hr₂
      repeat (any_goals (first|assumption|wp_step))
      exact h _ _ hS' hk'
     | _=>exact hr₂.elim
  | _=>exact hr.elim
end
end PySem
namespace PySem
open Sem (wp)
namespace F
theorem aW:Slot "set_iterator" "__next__" "set_iterator.__next__" :=
 .of (owner:="set_iterator") (n:="__next__") (by rw[typeLookup_type,builtinLookup_eq_fast];kernel_rfl) (by decide +kernel) (by decide +kernel) (by decide +kernel) (.inl (by decide +kernel)) (by rw[Vu];kernel_rfl)
theorem jB:Slot "set_iterator" "__iter__" "set_iterator.__iter__" :=
 .of (owner:="set_iterator") (n:="__iter__") (by rw[typeLookup_type,builtinLookup_eq_fast];kernel_rfl) (by decide +kernel) (by decide +kernel) (by decide +kernel) (.inl (by decide +kernel)) (by rw[Vu];kernel_rfl)
theorem df:entryFor table "set_iterator.__next__" = some Builtin.«set_iterator.__next__»:=entryFor_of_tree (by kernel_rfl)
theorem pI:entryFor table "set_iterator.__iter__" = some Builtin.«dict_keyiterator.__iter__»:=entryFor_alias (id':="dict_keyiterator.__iter__") (by kernel_rfl) (by rfl) (by decide +kernel) (by kernel_rfl)
theorem nj:entryFor table "set.__iter__" = some Builtin.«frozenset.__iter__»:=entryFor_alias (id':="frozenset.__iter__") (by kernel_rfl) rfl (by decide +kernel) (by kernel_rfl)
theorem dM(a:Value):argsOk "set_iterator.__next__" ⟨[a],[]⟩:=by unfold argsOk;kernel_rfl
theorem qR(a:Value):argsOk "set_iterator.__iter__" ⟨[a],[]⟩:=by unfold argsOk;kernel_rfl
end F
theorem kb{α:Type}:∀{xs:List α}{i:Nat}(h:i<xs.length),(xs[i]::xs.eraseIdx i).Perm xs
 | x::r,0,_=>.refl _
 | x::r,i+1,h=>(List.Perm.swap _ _ _).trans ((kb (xs:=r) (i:=i) (Nat.lt_of_succ_lt_succ h)).cons x)
theorem rz{α:Type}(next:Nat->Nat):∀(n k:Nat)(left:List α)(out:Array α),left.length=n ->(pickOrder.go next n k left out).toList.Perm (out.toList++left)
 | 0,k,left,out,h=>by rw[TM.mp h];simp[pickOrder.go]
 | n+1,k,left,out,h=>by
  unfold pickOrder.go;have hlt:next k % left.length<left.length:=Nat.mod_lt _ (by omega)
  rw[Es hlt];refine(rz next n (k+1) _ _ (by rw[VT,if_pos hlt];omega)).trans ?_
  rw[Vz,Tp];exact List.Perm.append_left _ (kb hlt)
section
variable{prog:Program}{w:World}{A:Around}{E:Value->Shared->Prop}{s:Shared}
theorem qD{M:Model}{src:Source}{n:Nat}{Q:Nat->Shared->Prop}(hn:n≠0)(h:∀ i d,i<n->Q i { s with drawn:=d }):wpAny M A (choose src n) Q E s:=fun Γ p _=>by
 show wp M Γ (.choose src n .pure) _ _ p s;rw[Sem.wp_choose];exact⟨hn,by rw[Sem.wp];exact h _ _ (Nat.mod_lt _ (Nat.pos_of_ne_zero hn))⟩
theorem rK{α:Type}{Q:List α->Shared->Prop}:∀(n:Nat)(xs:List α)(s:Shared),xs.length<=n ->(∀ ys d,ys.Perm xs->Q ys { s with drawn:=d })->wpAny (model prog w) A (drawOrder n xs) Q E s
 | 0,xs,s,hl,h=>by
  have:xs = []:=TM.mp (by omega)
  subst this;exact M7 (h [] s.drawn .nil)
 | n+1,[],s,hl,h=>M7 (h [] s.drawn .nil)
 | n+1,x::r,s,hl,h=>by
  unfold drawOrder;refine j0 (qD (by simp) fun i d hi=>?_)
  rw[Es hi];dsimp only;refine j0 (rK n _ _ (by rw[VT,if_pos hi];simp only[Te]at hl ⊢;omega) fun ys d' hp=>?_)
  exact M7 (h _ d' ((hp.cons _).trans (kb hi)))
def fB(h:Heap)(I a:Addr)(first:Value)(i n ep:Nat):Prop:=∃ o,h.get? I=some o/\o.cls = .type "set_iterator" /\ o.data = .fields #[first,.int i 0,.ref a,.int n 0,.int ep 0]
theorem fB.typeIs{I a:Addr}{first:Value}{i n ep:Nat}(x:fB s.heap I a first i n ep):s.TypeIs (.ref I) "set_iterator":=let⟨o,ho,hc,_⟩:=x;⟨o,ho,hc⟩
theorem vn{I a:Addr}{first:Value}{i n ep:Nat}{Q:Value->Shared->Prop}(x:fB s.heap I a first i n ep)(h:Q (.ref I) s):wpAny (model prog w) A (pyIter (.ref I)) Q E s:=by
 refine wpAny_pyIter_slot x.typeIs F.jB (TL F.jB x.typeIs F.pI ?_ (F.qR _));show wpAny _ _ (ret (.ref I)) _ _ s;exact M7 ⟨_,rfl,"set_iterator",_,x.typeIs,F.aW.lookup,h⟩
theorem CJ{I a:Addr}{o:Obj}{es:Array (Int×Value)}{ep i:Nat}{t:SetTable}{sl sl':Nat}{x:Value}{Q:Option Value->Shared->Prop}(hit:fB s.heap I a (.int sl 0) i es.size ep)
  (hs:s.heap.get? a=some o) (hd:o.data = .set es ep t) (hf:t.fits es.size=true)
  (hn:∀(Q':Option (Value×Nat)->Shared->Prop),Q' (some (x,sl')) s->wpAny (model prog w) A.in1 (setNext a sl i ep) Q' (fun e s'=>wpAny (model prog w) A (do if <- isInstance e (.type "StopIteration")then pure none else throw e) Q E s') s)
  (hQ:∀ h',fB h' I a (.int sl' 0) (i+1) es.size ep->T7 I s.heap h'->Q (some x) { s with heap:=h' }) :
  wpAny (model prog w) A (pyNext (.ref I)) Q E s:=by
 obtain⟨oi,ho,hc,hdi⟩:=id hit;unfold pyNext;refine j0 (Uw (wpAny_callSpecial?_slot (name:=Str.ofString "__next__") hit.typeIs F.aW (TL F.aW hit.typeIs F.df ?_ (F.dM _))));unfold Builtin.«set_iterator.__next__»;refine j0 (M7 ?_);refine j0 (Vt ho hdi ?_);dsimp only;refine j0 (j0 (wpAny_setState_of hs hd hf (M7 ?_)));dsimp only;rw[if_neg (by simp)]
 refine j0 ?_;show wpAny _ _ (setNext a sl i ep) _ _ s;refine hn _ ?_;dsimp only;refine j0 (UG ho hdi (by simp) ?_)
 have ho1:=Tt (Obj.mapFields (·.setIfInBounds 0 (rawInt (sl':Int)))) ho (UI (T2 hdi _));refine j0 (UG ho1 (T2 hdi _) (by simp) ?_)
 refine M7 ⟨x,rfl,M7 (hQ _ ?_ ((Heap.SameBut.update ..).trans (Heap.SameBut.update ..)))⟩;exact⟨_,Tt _ ho1 (UI (T2 (T2 hdi _) _)),(U9 ..).trans ((U9 ..).trans hc),by
  rw[T2 (T2 hdi _)];simp[rawInt]⟩
theorem CK{I a:Addr}{o:Obj}{es:Array (Int×Value)}{ep i:Nat}{t:SetTable}{sl:Nat}{Q:Option Value->Shared->Prop}(hh:A.handled=none)(hit:fB s.heap I a (.int sl 0) i es.size ep)
  (hs:s.heap.get? a=some o) (hd:o.data = .set es ep t) (hf:t.fits es.size=true)
  (hn:∀(Q':Option (Value×Nat)->Shared->Prop),Q' none s->wpAny (model prog w) A.in1 (setNext a sl i ep) Q' (fun e s'=>wpAny (model prog w) A (do if <- isInstance e (.type "StopIteration")then pure none else throw e) Q E s') s)
  (hQ:∀ h',Vy I s.heap h'->Q none { s with heap:=h' }) :
  wpAny (model prog w) A (pyNext (.ref I)) Q E s:=by
 obtain⟨oi,ho,hc,hdi⟩:=id hit;unfold pyNext;refine j0 (Uw (wpAny_callSpecial?_slot (name:=Str.ofString "__next__") hit.typeIs F.aW (TL F.aW hit.typeIs F.df ?_ (F.dM _))));unfold Builtin.«set_iterator.__next__»;refine j0 (M7 ?_);refine j0 (Vt ho hdi ?_);dsimp only;refine j0 (j0 (wpAny_setState_of hs hd hf (M7 ?_)));dsimp only;rw[if_neg (by simp)]
 refine j0 ?_;show wpAny _ _ (setNext a sl i ep) _ _ s;refine hn _ ?_;dsimp only;refine j0 (UG ho hdi (by simp) ?_)
 refine j0 ?_;simp only[newExc,newTuple];refine j0 (TK ?_ (by size_fits))
 refine j0 (m:=firstArgMember _ _) (VX (a:=Value.none) (by first|rfl |(simp only[firstArgMember];rfl)) ?_)
 refine TK ?_ (by size_fits)
 simp only[raiseNew];refine j0 (wpAny_handled ?_);rw[show A.in1.handled=none from hh];refine j0 (M7 (wpAny_throw ?_));refine j0 (Uu (T:="StopIteration") (b:=true) ⟨_,S2 _ rfl,rfl⟩ isSubtype_stop ?_);exact M7 (hQ _ (((Heap.SameBut.update ..).extBut.push _).push _))
end
end PySem
namespace PySem
open Sem (wp)
section
variable{prog:Program}{w:World}{A:Around}{E:Value->Shared->Prop}{s:Shared}
theorem AW{I a tp:Addr}{o:Obj}{es:Array (Int×Value)}{ep i j:Nat}{t:SetTable}{ps:Array Value}{h0:Int}{x:Value}{Q:Option Value->Shared->Prop}(hit:fB s.heap I a (.ref tp) i es.size ep)
  (hs:s.heap.get? a=some o) (hd:o.data = .set es ep t) (hf:t.fits es.size=true) (ht:s.heap.IsTuple tp ps) (hp:ps[i]? = some (rawInt (j:Int))) (hx:es[j]? = some (h0,x))
  (hQ:∀ h',fB h' I a (.ref tp) (i+1) es.size ep->T7 I s.heap h'->Q (some x) { s with heap:=h' }) :
  wpAny (model prog w) A (pyNext (.ref I)) Q E s:=by
 obtain⟨oi,ho,hc,hdi⟩:=id hit;obtain⟨ot,hot,_,nt,hdt⟩:=ht;unfold pyNext;refine j0 (Uw (wpAny_callSpecial?_slot (name:=Str.ofString "__next__") hit.typeIs F.aW (TL F.aW hit.typeIs F.df ?_ (F.dM _))));unfold Builtin.«set_iterator.__next__»;refine j0 (M7 ?_);refine j0 (Vt ho hdi ?_);dsimp only;refine j0 (j0 (wpAny_setState_of hs hd hf (M7 ?_)));dsimp only;rw[if_neg (by simp)]
 refine j0 (wpAny_seqItems hot hdt ?_);simp only[UP,hp,rawInt];unfold setNextDrawn;refine j0 (j0 (wpAny_setState_of hs hd hf ?_));dsimp only;rw[if_neg (by simp),hx]
 refine M7 ?_;refine j0 (UG ho hdi (by simp) (M7 ⟨x,rfl,M7 (hQ _ ?_ (Heap.SameBut.update ..))⟩))
 exact⟨_,Tt _ ho (UI (T2 hdi _)),(U9 ..).trans hc,by
  rw[T2 hdi];simp⟩
theorem AX{I a tp:Addr}{o:Obj}{es:Array (Int×Value)}{ep i:Nat}{t:SetTable}{ps:Array Value}{Q:Option Value->Shared->Prop}(hh:A.handled=none)(hit:fB s.heap I a (.ref tp) i es.size ep)
  (hs:s.heap.get? a=some o) (hd:o.data = .set es ep t) (hf:t.fits es.size=true) (ht:s.heap.IsTuple tp ps) (hp:ps[i]? = none)
  (hQ:∀ h',Vy I s.heap h'->Q none { s with heap:=h' }) :
  wpAny (model prog w) A (pyNext (.ref I)) Q E s:=by
 obtain⟨oi,ho,hc,hdi⟩:=id hit;obtain⟨ot,hot,_,nt,hdt⟩:=ht;unfold pyNext;refine j0 (Uw (wpAny_callSpecial?_slot (name:=Str.ofString "__next__") hit.typeIs F.aW (TL F.aW hit.typeIs F.df ?_ (F.dM _))));unfold Builtin.«set_iterator.__next__»;refine j0 (M7 ?_);refine j0 (Vt ho hdi ?_);dsimp only;refine j0 (j0 (wpAny_setState_of hs hd hf (M7 ?_)));dsimp only;rw[if_neg (by simp)]
 refine j0 (wpAny_seqItems hot hdt ?_);simp only[UP,hp];refine j0 (UG ho hdi (by simp) ?_)
 have ho1:=Tt (Obj.mapFields (·.setIfInBounds 0 (rawInt 0))) ho (UI (T2 hdi _));refine j0 (UG ho1 (T2 hdi _) (by simp) ?_)
 refine j0 ?_;simp only[newExc,newTuple];refine j0 (TK ?_ (by size_fits))
 refine j0 (m:=firstArgMember _ _) (VX (a:=Value.none) (by first|rfl |(simp only[firstArgMember];rfl)) ?_)
 refine TK ?_ (by size_fits)
 simp only[raiseNew];refine j0 (wpAny_handled ?_);rw[show A.in1.handled=none from hh];refine j0 (M7 (wpAny_throw ?_));refine j0 (Uu (T:="StopIteration") (b:=true) ⟨_,S2 _ rfl,rfl⟩ isSubtype_stop ?_);exact M7 (hQ _ ((((Heap.SameBut.update ..).trans (Heap.SameBut.update ..)).extBut.push _).push _))
theorem lu{Q:Bool->Shared->Prop}{b:Bool}(hb:w.params.followText "set-order" = b)(h:Q b s):wpAny (model prog w) A setsByText Q E s:=j0 (wpAny_askSetting (M7 (by rw[<- hb]at h;exact h)))
theorem vX{a:Addr}{o:Obj}{es:Array (Int×Value)}{ep i:Nat}{t:SetTable}{Q:Option (Value×Nat)->Shared->Prop}(hb:w.params.followText "set-order" = true)(hs:s.heap.get? a=some o)(hd:o.data = .set es ep t)(hf:t.fits es.size=true)
  (h:Q (((pickOrder (w.params.setOrder a ep) es)[i]?).map fun e=>(e.2,0)) s):wpAny (model prog w) A (setNext a 0 i ep) Q E s:=by
 unfold setNext;refine j0 (wpAny_setState_of hs hd hf ?_);dsimp only;refine j0 (lu hb ?_);rw[if_pos rfl,if_neg (by simp)]
 unfold setWalk;refine j0 (j0 (wpAny_setState_of hs hd hf ?_));dsimp only;refine j0 (lu hb ?_);rw[if_pos rfl];exact j0 (wpAny_askSetting (M7 (M7 h)))
theorem Ep{a:Addr}{o:Obj}{es:Array (Int×Value)}{ep i sl:Nat}{t:SetTable}{Q:Option (Value×Nat)->Shared->Prop}(hb:w.params.followText "set-order" = false)(hs:s.heap.get? a=some o)(hd:o.data = .set es ep t)(hf:t.fits es.size=true)(hl:t.led=true)(h1:es.size<=1)
  (h:Q (match es[SetTable.below t.place sl]?,t.place[SetTable.below t.place sl]? with|some (_,x),some j=>some (x,j+1) | _,_=>none) s):wpAny (model prog w) A (setNext a sl i ep) Q E s:=by
 unfold setNext;refine j0 (wpAny_setState_of hs hd hf ?_);dsimp only;refine j0 (lu hb ?_);rw[if_neg Ta];have hdr:(!t.plain&&decide (es.size > 1))=false:=by simp;intro _;omega
 show wpAny (model prog w) A (if(!t.plain&&decide (es.size > 1))=true then _ else _) Q E s
 rw[hdr,if_neg Ta];refine j0 ?_;show wpAny (model prog w) A (if(!t.led && !es.isEmpty)=true then _ else _) _ E s
 rw[hl,if_neg (by simp)]
 exact M7 (M7 h)
end
end PySem
namespace PySem
open Sem (wp)
open PyProof.Rows (StrsAre strOf strsAre_map)
section
variable{prog:Program}{w:World}{A:Around}{E:Value->Shared->Prop}{s:Shared}
theorem fB.at{h h':Heap}{I a:Addr}{f:Value}{i n ep:Nat}(x:fB h I a f i n ep)(e:∀ o,h.get? I=some o->h'.get? I=some o):fB h' I a f i n ep:=let⟨o,ho,r⟩:=x;⟨o,e o ho,r⟩
theorem qW(hh:A.handled=none){I a:Addr}{o:Obj}{es:Array (Int×Value)}{ep:Nat}{t:SetTable}{vs:List Value}{sl:Nat->Nat}(hne:a≠I)(hd:o.data = .set es ep t)(hf:t.fits es.size=true)
  (hnx:∀(i:Nat)(s:Shared)(E:Value->Shared->Prop)(Q:Option (Value×Nat)->Shared->Prop),i<=vs.length->s.heap.get? a=some o->Q ((vs[i]?).map fun x=>(x,sl (i+1))) s->wpAny (model prog w) A.in1 (setNext a (sl i) i ep) Q E s) :
  WalksS prog w A I [I,a] [I] (fun g g'=>g'=g) vs.length (fun i v=>vs[i]? = some v) (fun i s=>fB s.heap I a (.int (sl i) 0) i es.size ep/\s.heap.get? a=some o) where
 sub:=fun b hb=>by simp at hb;simp[hb]
 grefl:=fun _=>rfl
 gtrans:=fun _ _ _ h1 h2=>h2.trans h1
 frame:=fun i s h' tk st _ hk=>⟨st.1.at fun o e=>hk I (by simp) o e,hk a (by simp) o st.2⟩
 item:=fun i s Q E hi st hQ=>by
  refine CJ st.1 st.2 hd hf (x:=vs[i]) (sl':=sl (i+1)) (fun Q' h=>hnx i s _ Q' (by omega) st.2 (by rw[Es hi];exact h)) fun h' hit sb=>?_
  exact hQ _ _ (Es hi) ⟨hit,(sb.2 a hne).trans st.2⟩ ⟨fun b o hb e=>(sb.2 b (fun z=>hb (by simp[z]))).trans e,rfl,rfl,rfl,S3 _⟩
 done:=fun s Q E st hQ=>CK hh st.1 st.2 hd hf (fun Q' h=>hnx vs.length s _ Q' (S3 _) st.2 (by rw[Uh (S3 _)];exact h)) fun h' eb=>hQ _ ⟨fun b o hb e=>eb b o (fun z=>hb (by simp[z])) e,rfl,rfl,rfl,S3 _⟩
 self:=fun i s Q E st h=>vn st.1 h
theorem AL(hh:A.handled=none){I a tp:Addr}{o:Obj}{es:Array (Int×Value)}{ep:Nat}{t:SetTable}{vs:List Value}{ps:List Nat}(hne:a≠I)(RY:tp≠I)(hd:o.data = .set es ep t)(hf:t.fits es.size=true)(hl:vs.length=ps.length)
  (hx:∀(i j:Nat),ps[i]? = some j->∃ h0 x,es[j]? = some (h0,x)/\vs[i]? = some x) :
  WalksS prog w A I [I,a,tp] [I] (fun g g'=>g'=g) vs.length (fun i v=>vs[i]? = some v) (fun i s=>fB s.heap I a (.ref tp) i es.size ep/\s.heap.get? a=some o/\s.heap.IsTuple tp (ps.map fun(i:Nat)=>rawInt (i:Int)).toArray) where
 sub:=fun b hb=>by simp at hb;simp[hb]
 grefl:=fun _=>rfl
 gtrans:=fun _ _ _ h1 h2=>h2.trans h1
 frame:=fun i s h' tk st _ hk=>⟨st.1.at fun o e=>hk I (by simp) o e,hk a (by simp) o st.2.1,st.2.2.at fun o e=>hk tp (by simp) o e⟩
 item:=fun i s Q E hi st hQ=>by
  have hj:ps[i]? = some (ps[i]'(by omega)):=Es (by omega)
  obtain⟨h0,x,e1,e2⟩:=hx i _ hj;refine AW st.1 st.2.1 hd hf st.2.2 (j:=ps[i]'(by omega)) (by simp[hj]) e1 fun h' hit sb=>?_
  exact hQ _ _ e2 ⟨hit,(sb.2 a hne).trans st.2.1,st.2.2.at fun o e=>(sb.2 tp RY).trans e⟩ ⟨fun b o hb e=>(sb.2 b (fun z=>hb (by simp[z]))).trans e,rfl,rfl,rfl,S3 _⟩
 done:=fun s Q E st hQ=>AX hh st.1 st.2.1 hd hf st.2.2 (by rw[hl];simp) fun h' eb=>hQ _ ⟨fun b o hb e=>eb b o (fun z=>hb (by simp[z])) e,rfl,rfl,rfl,S3 _⟩
 self:=fun i s Q E st h=>vn st.1 h
theorem BH{A':Around}{a:Addr}{ws:List Str}{Q:Value->Shared->Prop}(hh:A'.handled=none)(hS:cw prog w s.heap a ws)
  (hQ:∀(I:Addr)(fp:List Addr)(vs:List Value)(St:Nat->Shared->Prop)(d:Drawn)(h':Heap),WalksS prog w A' I fp [I] (fun g g'=>g'=g) vs.length (fun i v=>vs[i]? = some v) St->St 0 { s with heap:=h',drawn:=d } ->
   (∀ b∈fp,b=a\/s.heap.objs.size<=b)->I∈fp->s.heap.objs.size<=I ->(∀ b o,s.heap.get? b=some o->h'.get? b=some o)->StrsAre vs (vs.map strOf) ->(vs.map strOf).Perm ws->Q (.ref I) { s with heap:=h',drawn:=d }) :
  wpAny (model prog w) A (pyIter (.ref a)) Q E s:=by
 obtain⟨o,es,ep,t,ho,hex,hd,hel,hp,hb,hf,BL,hpl⟩:=hS;have hT:s.TypeIs (.ref a) "set":=⟨o,ho,hex.1⟩;have hlt:a<s.heap.objs.size:=Sy ho;have hz:es.size=ws.length:=cw.sz (h:=s.heap) (a:=a) hp;have key:∀ vs:List Value,vs.Perm (es.toList.map (·.2))->StrsAre vs (vs.map strOf)/\(vs.map strOf).Perm ws:=fun vs hv=>by
  refine⟨strsAre_map vs fun v hm=>?_,(hv.map strOf).trans (by rw[TQ];exact hp)⟩
  obtain⟨e,he,rfl⟩:=S5.mp (hv.mem_iff.mp hm);obtain⟨⟨k,hk,_⟩,_⟩:=hel e he;obtain⟨tk,e1⟩:=Value.isStrOf_shape hk;exact⟨k,tk,e1⟩
 refine wpAny_pyIter_slot hT F.slot_set_iter (TL F.slot_set_iter hT F.nj ?_ (F.args_set_iter_1 _));unfold Builtin.«frozenset.__iter__»;refine j0 (m:=Builtin.Frozenset.slot0 _ _) (M7 ?_);unfold Builtin.Frozenset.sizeOf;refine j0 (j0 (wpAny_setEntries_of ho hd hf (M7 ?_)));refine j0 ?_;unfold setDrawn;refine j0 (wpAny_setState_of ho hd hf ?_);dsimp only;cases hbt:w.params.followText "set-order" with
 | true =>
  refine j0 (lu hbt (M7 ?_));rw[if_neg (by simp)]
  refine j0 (M7 ?_);refine j0 (wpAny_setEpoch_of ho hd hf ?_);refine j0 (TK (M7 ⟨_,rfl,"set_iterator",_,⟨_,S2 _ rfl,rfl⟩,F.aW.lookup,?_⟩));have hk:=key ((pickOrder (w.params.setOrder a ep) es).toList.map (·.2)) (((rz _ es.size 0 es.toList #[] (by simp)).trans (by simp)).map _)
  have W:=qW (prog:=prog) (w:=w) hh (I:=s.heap.objs.size) (a:=a) (o:=o) (vs:=(pickOrder (w.params.setOrder a ep) es).toList.map (·.2)) (sl:=fun _=>0) (Tf hlt) hd hf (fun i s E Q _ h1 h2=>vX hbt h1 hd hf (by
   have e1:(((pickOrder (w.params.setOrder a ep) es).toList.map (·.2))[i]?).map (fun x=>(x,0)) =((pickOrder (w.params.setOrder a ep) es)[i]?).map fun e=>(e.2,0):=by rw[L7,UH,Option.map_map];rfl
   rw[<- e1];exact h2))
  refine hQ _ _ _ _ s.drawn _ W ⟨⟨_,S2 _ rfl,rfl,rfl⟩,j5 _ ho⟩ (fun b hb=>?_) (by simp) (S3 _) (fun b o e=>j5 _ e) hk.1 hk.2
  rcases S1.mp hb with z|z
  ·rw[z];exact .inr (S3 _)
  ·exact .inl (qr.mp z)
 | false =>
  rw[hbt]at BL;refine j0 (lu hbt (M7 ?_));by_cases h1:es.size<=1
  ·have hdr:(!false&&(!t.plain&&decide (es.size > 1)))=false:=by simp;intro _;omega
   show wpAny (model prog w) _ (if(!false&&(!t.plain&&decide (es.size > 1)))=true then _ else _) _ _ s
   rw[hdr,if_neg Ta];refine j0 (M7 ?_);refine j0 (wpAny_setEpoch_of ho hd hf ?_);refine j0 (TK (M7 ⟨_,rfl,"set_iterator",_,⟨_,S2 _ rfl,rfl⟩,F.aW.lookup,?_⟩));have hk:=key (es.toList.map (·.2)) (.refl _);have hps:t.place.size=es.size:=by
    simp only[SetTable.fits,To,beq_iff_eq,decide_eq_true_eq]at hf;exact hf.1
   have W:=qW (prog:=prog) (w:=w) hh (I:=s.heap.objs.size) (a:=a) (o:=o) (vs:=es.toList.map (·.2)) (sl:=fun i=>if i=0 then 0 else t.place.getD 0 0+1) (Tf hlt) hd hf (fun i s E Q hi h2 h3=>Ep hbt h2 hd hf BL h1 (by
    rw[j3,Ug]at hi;obtain⟨el⟩:=es;obtain⟨mk,⟨pl⟩,dm,fg,ld,mv,pn⟩:=t;dsimp only at hps h1 hi h3 ⊢;rcases el with _ |⟨⟨h0,x⟩,_ |⟨y,r⟩⟩
    ·rcases pl with _ |⟨p,r⟩
     ·have:i=0:=by simpa using hi
      subst this;exact h3
     ·simp at hps
    ·rcases pl with _ |⟨p,_ |⟨p2,r⟩⟩
     ·simp at hps
     ·have:i=0\/i=1:=by simp at hi;omega
      rcases this with rfl|rfl
      ·have e1:SetTable.below #[p] 0=0:=by simp[SetTable.below,SetTable.below.go]
       simpa [e1]using h3
      ·have e1:SetTable.below #[p] (p+1)=1:=by simp[SetTable.below,SetTable.below.go]
       simpa [e1]using h3
     ·simp at hps
    ·simp at h1))
   refine hQ _ _ _ _ s.drawn _ W ⟨⟨_,S2 _ rfl,rfl,rfl⟩,j5 _ ho⟩ (fun b hb=>?_) (by simp) (S3 _) (fun b o e=>j5 _ e) hk.1 hk.2
   rcases S1.mp hb with z|z
   ·rw[z];exact .inr (S3 _)
   ·exact .inl (qr.mp z)
  ·have hdr:(!false&&(!t.plain&&decide (es.size > 1)))=true:=by rw[hpl (by omega)];simp;omega
   show wpAny (model prog w) _ (if(!false&&(!t.plain&&decide (es.size > 1)))=true then _ else _) _ _ s
   rw[hdr,if_pos rfl];refine j0 (rK es.size (TR es.size) s (by simp) fun ps d hps=>?_)
   have RR:ps.length=es.size:=by rw[hps.length_eq,List.length_range]
   refine j0 (wpAny_newTuple ?_ (by rw[j3,RR,hz];exact fits_of_scanBound hb))
   refine j0 (wpAny_setEpoch_of (j5 _ ho) hd hf ?_);refine j0 (TK (M7 ⟨_,rfl,"set_iterator",_,⟨_,S2 _ rfl,rfl⟩,F.aW.lookup,?_⟩));have hk:=key (ps.map fun j=>(es.toList.map (·.2)).getD j .none) ((hps.map _).trans (by
    have e1:(TR es.size).map (fun j=>(es.toList.map (·.2)).getD j .none)=es.toList.map (·.2):=by
     refine Vf (by simp) fun i h1 h2=>?_
     rw[List.getElem_map,List.getElem_range,Vq,Es h2];rfl
    rw[e1]))
   have W:=AL (prog:=prog) (w:=w) hh (I:=s.heap.objs.size+1) (a:=a) (tp:=s.heap.objs.size) (o:=o) (vs:=ps.map fun j=>(es.toList.map (·.2)).getD j .none) (ps:=ps) (Tf (UQ hlt)) (Tf (UC _)) hd hf (by simp) (fun i j hj=>by
    have hj1:j<es.size:=Ux.mp (hps.mem_iff.mp (RB hj));refine⟨es[j].1,es[j].2,Vx hj1,?_⟩;rw[L7,hj,Option.map_some,Vq,L7,UH,Vx hj1];rfl)
   have hsz:∀ o:Obj,(s.heap.push o).objs.size=s.heap.objs.size+1:=fun o=>Tw _ _
   rw[hsz];refine hQ _ _ _ _ d _ W ⟨⟨_,by rw[<- hsz];exact S2 _ rfl,rfl,rfl⟩,j5 _ (j5 _ ho),⟨_,j5 _ (S2 _ rfl),rfl,_,rfl⟩⟩ (fun b hb=>?_) (by simp) (Vi _) (fun b o e=>j5 _ (j5 _ e)) hk.1 hk.2
   rcases S1.mp hb with z|z
   ·rw[z];exact .inr (Vi _)
   ·rcases S1.mp z with z|z
    ·exact .inl z
    ·rw[qr.mp z];exact .inr (S3 _)
end
end PySem
namespace PySem
open Sem (wp)
open PyProof.Rows (StrsAre strOf strsAre_map seqObj)
section
variable{prog:Program}{w:World}{A:Around}{E:Value->Shared->Prop}{s:Shared}
theorem yW{vs:List Value}{acc:Array Value}(h:ItemsOf (fun i v=>vs[i]? = some v) acc vs.length):acc.toList=vs:=by
 refine Vf (by rw[Ug];exact h.1) fun i h1 h2=>?_
 have e:vs[i]? = some acc.toList[i]:=h.2 i acc.toList[i] (by rw[<- UH];exact Es h1)
 rw[Es h2]at e;exact(Option.some.inj e).symm
theorem uw{a:Addr}{ws:List Str}{Q:List Value->Shared->Prop}(hh:A.handled=none)(hS:cw prog w s.heap a ws)
  (hQ:∀ vs s',StrsAre vs (vs.map strOf) ->(vs.map strOf).Perm ws->s.heap.objs.size<=s'.heap.objs.size ->(∀ b o,s.heap.get? b=some o->s'.heap.get? b=some o)->s'.gens=s.gens->s'.os=s.os->Q vs s'):wpAny (model prog w) A (collect (.ref a)) Q E s:=by
 obtain⟨o,es,ep,t,ho,hex,rest⟩:=id hS;have hlt:a<s.heap.objs.size:=Sy ho;have hwl:ws.length<=S4:=fits_of_scanBound rest.2.2.2.1;unfold collect;refine j0 (wpAny_runValue (Ui F.entry_proto_collect ?_));rw[T6 F.plain_proto_collect _];show wpAny _ A.in1 (newList [] >>= fun l=>again (.builtin "list.__iadd__" ⟨[l,.ref a],[]⟩)) _ _ s
 refine j0 (TK ?_);refine M7 ⟨Uv F.plain_list_iadd _,Ui F.entry_list_iadd ?_⟩;rw[T6 F.plain_list_iadd _];have hL:(s.heap.push { cls:=.type "list",data:=.seq ([]:List Value).toArray }).get? s.heap.objs.size=some { cls:=.type "list",data:=.seq ([]:List Value).toArray }:=S2 _ rfl;have ho1:(s.heap.push { cls:=.type "list",data:=.seq ([]:List Value).toArray }).get? a=some o:=j5 _ ho;have hT1:Shared.TypeIs { s with heap:=s.heap.push { cls:=.type "list",data:=.seq ([]:List Value).toArray } } (.ref a) "set":=⟨o,ho1,hex.1⟩
 have hS1:cw prog w (s.heap.push { cls:=.type "list",data:=.seq ([]:List Value).toArray }) a ws:=⟨o,es,ep,t,ho1,hex,rest⟩;have h1:Builtin.List.listSameRef (.ref s.heap.objs.size) (.ref a)=false:=by simp[Builtin.List.listSameRef,T8 hlt]
 show wpAny _ A.in1 (Builtin.List.listExtendWith (.ref s.heap.objs.size) (.ref a) (.ref s.heap.objs.size)) _ _ _;unfold Builtin.List.listExtendWith;refine j0 (Uo hT1 ?_);rw[if_neg (by rw[h1];decide)]
 refine j0 (BH (A':=A.in1) hh hS1 fun I fp vs St d h' W st hfp hI hlo hk hs1 hs2=>?_)
 have hT2:Shared.TypeIs { s with heap:=h',drawn:=d } (.ref a) "set":=⟨o,hk a o ho1,hex.1⟩
 refine j0 (TY ?_);unfold Builtin.List.listLengthHint;refine j0 (UL hT2 F.slot_set_len.lookup ?_)
 (generalize hid:("set.__len__":String)=id0;(fail_if_success (clear hid id0));wp_delta;rw[show splitId id0=some ("set","__len__")from by subst hid;decide +kernel];subst hid)
 refine j0 (Uu (b:=true) hT2 (by rw[Vu];kernel_rfl) ?_)
 refine j0 (Uo hT2 ?_);refine M7 ?_;rw[if_pos (by decide)]
 refine j0 (Uz ?_);refine j0 ?_;have hSf:s.heap.objs.size ∉ fp:=fun z=>by
  rcases hfp _ z with e|e
  ·rw[e]at hlt;exact Um _ hlt
  ·rw[Tw]at e;exact Nat.not_succ_le_self _ e
 have hS2:h'.get? s.heap.objs.size=some { cls:=.type "list",data:=.seq ([]:List Value).toArray }:=hk _ _ hL;show wpAny _ A.in1 (updateSeq s.heap.objs.size (·.push .none) >>= fun _=>updateSeq s.heap.objs.size (·.pop)) _ _ _
 refine j0 (UM hS2 rfl ?_);have hS3:=Tt (T3 (·.push Value.none)) hS2 rfl;refine UM (hz:=by seq_fits) hS3 rfl ?_
 have hS4:=Tt (T3 (·.pop)) hS3 rfl;have oth:∀ b o,b≠s.heap.objs.size->h'.get? b=some o ->((h'.update s.heap.objs.size (T3 (·.push Value.none))).update s.heap.objs.size (T3 (·.pop))).get? b=some o:=fun b o hb e=>(T5 _ _ (Ne.symm hb)).trans ((T5 _ _ (Ne.symm hb)).trans e)
 have st2:=W.frame 0 _ _ s.toks st (S3 _) fun b hb o e=>oth b o (fun z=>hSf (z▸hb)) e
 have hn:vs.length<=S4:=by have:=hs2.length_eq;rw[j3]at this;omega
 refine M7 ⟨Uv F.plain_extend_loop _,codeAny_extend_loopS W hn _ hSf _ vs.length 0 _ _ _ rfl (TX _) st2 hS4 (ItemsOf.nil _) fun s' ic c' hm hS' fk=>?_⟩
 show wpAny _ A (load s.heap.objs.size >>= _) _ _ s';refine j0 (wpAny_load hS' ?_);refine M7 (hQ _ s' (by rw[yW fk];exact hs1) (by rw[yW fk];exact hs2) (Tr (Sy hS')) (fun b o' e=>?_) hm.gens hm.os)
 have hb:@LT.lt Nat _ b s.heap.objs.size:=Sy e;refine hm.heap b o' (fun z=>?_) (oth b o' (Tf hb) (hk _ _ (j5 _ e)))
 rcases S1.mp z with z|z
 ·rw[z]at hb;exact Um _ hb
 ·rw[qr.mp z]at hb;rw[Tw]at hlo;exact Um _ (Tq (UQ hb) hlo)
theorem vm{a:Addr}{ws:List Str}{Q:Value->Shared->Prop}(hh:A.handled=none)(hS:cw prog w s.heap a ws)(h64:ws.length<64)
  (hQ:∀ l vs e s',StrsAre vs (vs.map strOf) ->(vs.map strOf).Perm ws->s'.heap.get? l=some (seqObj "list" vs.toArray e)->s.heap.objs.size<=l ->(∀ b o,s.heap.get? b=some o->s'.heap.get? b=some o)->s'.gens=s.gens->s'.os=s.os->Q (.ref l) s') :
  wpAny (model prog w) A (call (.builtin "sorted") [.ref a]) Q E s:=by
 refine Calls.call_function_entry PyProof.Rows.kind_sorted PyProof.Rows.plain_sorted PyProof.Rows.entry_sorted (PyProof.Rows.args_sorted1 _) ?_;unfold Builtin.«sorted»;refine j0 (m:=checkCount "sorted" 1 1 _) (M7 ?_);refine j0 (uw hh hS fun vs s' h1 h2 hsz hk hg ho=>?_)
 have hvl:vs.length<64:=by have:=h2.length_eq;rw[j3]at this;omega
 refine j0 (wpAny_newList ?_ (fits_of_scanBound (Wa hvl (by decide))))
 have hoL:(s'.heap.push (seqObj "list" vs.toArray 0)).get? s'.heap.objs.size=some (seqObj "list" vs.toArray 0):=S2 _ rfl;show wpAny _ _ _ _ _ { s' with heap:=s'.heap.push (seqObj "list" vs.toArray 0) }
 refine j0 (TY (TL PyProof.Rows.slot_list_sort ⟨_,hoL,rfl⟩ PyProof.Rows.entry_list_sort (PyProof.Rows.list_sort_treeK PyProof.Rows.strKind_oneLt hoL h1.keysOf (fun v₁ v₂ rest e=>PyProof.Rows.keyKind_strs (by rw[<- e];exact h1)) hvl fun st' a1 a2=>⟨_,rfl,?_⟩) (PyProof.Rows.args_list_sort _)))
 obtain⟨ss',b1,b2,b3⟩:=PyProof.Rows.sorted_out_str h1 a1 a2;obtain⟨e,he⟩:=PyProof.Rows.sortedHeap_at (out:=(PyProof.Rows.arrOf st').map (·.2)) hoL;have e1:=b1.strs;refine M7 ⟨_,rfl,hQ _ ((PyProof.Rows.arrOf st').map (·.2)).toList e _ (by rw[e1];exact b1) (by rw[e1];exact b2.trans h2) he hsz (fun b o e2=>?_) hg ho⟩
 ·have:=hk b o e2
  rw[PyProof.Rows.sortedHeap_old (Tf (Sy this)) (by rw[Tw];exact UQ (Sy this))]
  exact j5 _ this
end
end PySem
namespace L2
open PySem PySem.Spec PyProof.Rows
theorem qX:∀{ws:List Str}{its:List Value},Vals (ws.map V.str) its->∀(i:Nat)(v:Value),its[i]? = some v->∃ k t,ws[i]? = some k/\v = .str k t
 | [],_,h,i,v,e=>by cases h;simp at e
 | w::r,_,h,i,v,e=>by
  cases h with
  | cons h1 h2 =>
   cases i with
   | zero =>
    simp at e;obtain⟨t,e1⟩:=h1;exact⟨w,t,rfl,by rw[<- e,e1]⟩
   | succ i=>exact qX h2 i v (by simpa using e)
theorem mP:∀{vs:List Value}{ks:List Str},StrsAre vs ks->Vals (ks.map V.str) vs
 | _,_,.nil=>.nil
 | _,_,.cons x t h=>.cons ⟨t,rfl⟩ (mP h)
theorem GC{K:W.Frag}:uU K:=by
 intro X e te p p2 pos b9 hK hc hg1 hg2 hm1 hm2 hs1 hs2 he;subst hK;intro gV s σ H Q I h;refine Ul (dY I hg1 hm1 boot_sorted ?_);refine PyProof.Rows.callWith_builtin1 ?_ hs2 rfl;rw[hs2];show wpAny _ _ (spliced ((false,eval (.Call (.Name "set" p2) [e] [] b9) X.env)::backTo pos (SN [] X.env))) _ _ s;refine Calls.spliced_cons ?_;refine Ul (dY I hg2 hm2 boot_set ?_);refine PyProof.Rows.callWith_type1 ?_ hs1 rfl;rw[hs1];show wpAny _ _ (spliced ((false,eval e X.env)::backTo b9 (SN [] X.env))) _ _ s;refine Calls.spliced_cons (thn (he gV s σ H _ I h) fun u s1 hPP=>?_)
 obtain⟨x,H1,I1,r1,l,ws,ex,hl,hw,q⟩:=hPP;subst ex;cases r1;refine Calls.spliced_nil ?_;obtain⟨its,rv,pl,hz⟩:=I1.tuple hl;have pl:s1.heap.IsTuple l its.toArray:=pl;have hlen:=rv.length;rw[j3]at hlen;have hsb:VI=4096:=rfl;refine qO (I.ok.hd hc) pl (fun i v ei=>qX rv i v (by simpa using ei)) (by simpa using hlen) (by rw[S7,hsb];omega) fun h' tk hS hk=>?_
 refine Calls.spliced_nil ?_;obtain⟨d1,d2,d3⟩:=uu ws [] S6;have d3:(jD ws).length<=0+ws.length:=d3;refine vm (s:={ s1 with heap:=h',toks:=tk }) (I.ok.hd hc) hS (by omega) fun lz vs ep s' hv hp hg hlo hkk eg eo=>?_
 have hle:s1.heap.objs.size<=lz:=by
  obtain⟨_,_,_,_,e1,_⟩:=hS;exact Tn (Tr (Sy e1)) hlo
 have J:=I1.laid (a:=lz) (h':=s'.heap) (t':=s'.toks) (o:=.lst ((vs.map strOf).map V.str)) (fun b o e1=>hkk b o (hk b o (Sy e1) e1)) hle
  ⟨by rw[j3];have:=hp.length_eq;have h9:=UZ;omega,vs,ep,mP hv,hg⟩
 have J2:Inv X gV σ (upd H1 lz (.lst ((vs.map strOf).map V.str))) s':=⟨J.ok,eo.trans I1.os,by rw[eg];exact I1.bare,J.base,J.loc,J.cell,J.free,J.eQ,J.pin,J.hok,J.len⟩
 exact⟨.ref lz,_,J2,rfl,q lz _ (I1.hok.fresh hle) (hp.nodup_iff.mpr d1) fun y=>(hp.mem_iff).trans (by
  have:=d2 y
  exact this.trans ⟨fun z=>z.elim (fun z=>nomatch z) id,.inr⟩)⟩
end L2
namespace K28
open PySem L2
def top(i:Nat):Stmt:=PySem.Challenge.pw_pursewright_k28_unknowns.main.body.getD i (.Pass ⟨0,0,0,0⟩)
abbrev gE:Stmt:=inClass (top 8) 0
theorem sx:aH ["self","piece","above","arm"] ["self","piece","above","arm"] (aw gE):=⟨rfl,rfl,rfl,by decide +kernel,rfl,by decide +kernel,by decide +kernel⟩
abbrev iD:Stmt:=top 1
theorem gG:aH ["kinds","kind","name","makers"] ["kinds","kind"] (aw iD):=⟨rfl,rfl,rfl,by decide +kernel,rfl,by decide +kernel,by decide +kernel⟩
abbrev oo:Stmt:=top 2
theorem gb:aH ["kinds","kind","reached","names","name","makers"] ["kinds","kind"] (aw oo):=⟨rfl,rfl,rfl,by decide +kernel,rfl,by decide +kernel,by decide +kernel⟩
abbrev dU:Stmt:=top 3
theorem bz:aH ["kinds","kind","reached","waiting","here","maker","field"] ["kinds","kind"] (aw dU):=⟨rfl,rfl,rfl,by decide +kernel,rfl,by decide +kernel,by decide +kernel⟩
abbrev dW:Stmt:=top 4
theorem dr:aH ["kinds","maker","name","makers"] ["kinds","maker"] (aw dW):=⟨rfl,rfl,rfl,by decide +kernel,rfl,by decide +kernel,by decide +kernel⟩
abbrev iC:Stmt:=top 6
theorem gF:aH ["functions","name","number","function"] ["functions","name"] (aw iC):=⟨rfl,rfl,rfl,by decide +kernel,rfl,by decide +kernel,by decide +kernel⟩
abbrev sA:Stmt:=top 9
theorem kC:aH ["body","told","waiting","spot"] ["body"] (aw sA):=⟨rfl,rfl,rfl,by decide +kernel,rfl,by decide +kernel,by decide +kernel⟩
abbrev dS:Stmt:=top 10
theorem lK:aH ["piece","number"] ["piece","number"] (aw dS):=⟨rfl,rfl,rfl,by decide +kernel,rfl,by decide +kernel,by decide +kernel⟩
abbrev oq:Stmt:=top 11
theorem A5:aH ["body"] ["body"] (aw oq):=⟨rfl,rfl,rfl,by decide +kernel,rfl,by decide +kernel,by decide +kernel⟩
abbrev fH:Stmt:=top 12
theorem cB:aH ["program","f","told","found","spot","kinds"] ["program","f"] (aw fH):=⟨rfl,rfl,rfl,by decide +kernel,rfl,by decide +kernel,by decide +kernel⟩
abbrev jP:Stmt:=top 13
theorem iB:aH ["program","piece","arm","kinds","word","fields"] ["program","piece","arm","kinds"] (aw jP):=⟨rfl,rfl,rfl,by decide +kernel,rfl,by decide +kernel,by decide +kernel⟩
abbrev jO:Stmt:=top 15
theorem cQ:aH ["program","told","f","function","k","param"] ["program"] (aw jO):=⟨rfl,rfl,rfl,by decide +kernel,rfl,by decide +kernel,by decide +kernel⟩
abbrev fF:Stmt:=top 16
theorem om:aH ["program","family","kind"] ["program","family","kind"] (aw fF):=⟨rfl,rfl,rfl,by decide +kernel,rfl,by decide +kernel,by decide +kernel⟩
abbrev dt:Stmt:=top 17
theorem bt:aH ["program","f","told","ahead","n","piece","family"] ["program","f"] (aw dt):=⟨rfl,rfl,rfl,by decide +kernel,rfl,by decide +kernel,by decide +kernel⟩
abbrev xl:Stmt:=top 19
theorem kD:aH ["_law_script","_law_base","_law_cells","_law_number","_law_cell"] ["_law_script","_law_base"] (aw xl):=⟨rfl,rfl,rfl,by decide +kernel,rfl,by decide +kernel,by decide +kernel⟩
abbrev xk:Stmt:=top 20
theorem nF:aH ["_law_deal_here","_law_many","_law_number","_law_one","_law_other"] ["_law_deal_here","_law_many"] (aw xk):=⟨rfl,rfl,rfl,by decide +kernel,rfl,by decide +kernel,by decide +kernel⟩
abbrev sy:Stmt:=top 21
theorem bP:aH ["_law_deal_here","_law_many","_law_letters","_law_core","_law_at","_law_turn","_law_found","_law_k","_law_own","_law_word","_law_near"] ["_law_deal_here","_law_many"] (aw sy):=⟨rfl,rfl,rfl,by decide +kernel,rfl,by decide +kernel,by decide +kernel⟩
abbrev sE:Stmt:=top 22
theorem b6:aH ["_law_deal_here","_law_words_here","_law_form","_law_a","_law_b","_law_m","_law_found","_law_many","_law_made","_law_k","_law_makers","_law_j","_law_wide","_law_fields"] ["_law_deal_here","_law_words_here"] (aw sE):=⟨rfl,rfl,rfl,by decide +kernel,rfl,by decide +kernel,by decide +kernel⟩
abbrev xj:Stmt:=top 23
theorem nE:aH ["_law_deal_here","_law_scope","_law_some","_law_found","_law_kind","_law_own"] ["_law_deal_here","_law_scope","_law_some"] (aw xj):=⟨rfl,rfl,rfl,by decide +kernel,rfl,by decide +kernel,by decide +kernel⟩
abbrev sG:Stmt:=top 24
theorem cL:aH ["_law_deal_here","_law_world","_law_scope","_law_kind","_law_f","_law_kinds_here","_law_heads","_law_words_here","_law_own","_law_x","_law_maker","_law_fields","_law_names"] ["_law_deal_here","_law_world","_law_scope","_law_kind","_law_f"] (aw sG):=⟨rfl,rfl,rfl,by decide +kernel,rfl,by decide +kernel,by decide +kernel⟩
abbrev xm:Stmt:=top 25
theorem cN:aH ["_law_deal_here","_law_world","_law_scope","_law_f","_law_room","_law_kinds_here","_law_heads","_law_words_here","_law_x","_law_kind","_law_makers","_law_arms","_law_maker","_law_fields","_law_more","_law_names"] ["_law_deal_here","_law_world","_law_scope","_law_f","_law_room"] (aw xm):=⟨rfl,rfl,rfl,by decide +kernel,rfl,by decide +kernel,by decide +kernel⟩
abbrev xn:Stmt:=top 26
theorem bI:aH ["_law_deal_here","_law_world","_law_scope","_law_f","_law_room","_law_kinds_here","_law_heads","_law_words_here","_law_kind","_law_form","_law_x","_law_coins","_law_word","_law_y","_law_other","_law_g","_law_names","_law_name","_law_makers","_law_maker","_law_fields"] ["_law_deal_here","_law_world","_law_scope","_law_f","_law_room"] (aw xn):=⟨rfl,rfl,rfl,by decide +kernel,rfl,by decide +kernel,by decide +kernel⟩
abbrev lN:Stmt:=top 27
theorem bu:aH ["_law_deal_here","_law_most","_law_room","_law_words_here","_law_kinds_here","_law_heads","_law_own","_law_f","_law_many","_law_params","_law_functions","_law_head","_law_body_here"] ["_law_deal_here","_law_most","_law_room"] (aw lN):=⟨rfl,rfl,rfl,by decide +kernel,rfl,by decide +kernel,by decide +kernel⟩
abbrev sF:Stmt:=top 28
theorem C0:aH ["_law_piece"] ["_law_piece"] (aw sF):=⟨rfl,rfl,rfl,by decide +kernel,rfl,by decide +kernel,by decide +kernel⟩
abbrev sC:Stmt:=top 29
theorem iy:aH ["_law_body_here","_law_ahead","_law_counter","_law_n","_law_found","_law_arm","_law_inner_here"] ["_law_body_here","_law_ahead","_law_counter"] (aw sC):=⟨rfl,rfl,rfl,by decide +kernel,rfl,by decide +kernel,by decide +kernel⟩
abbrev xi:Stmt:=top 30
theorem GZ:aH ["_law_kinds_here","_law_maker"] ["_law_kinds_here","_law_maker"] (aw xi):=⟨rfl,rfl,rfl,by decide +kernel,rfl,by decide +kernel,by decide +kernel⟩
abbrev lO:Stmt:=top 31
theorem bY:aH ["_law_kinds_here","_law_kind","_law_near","_law_at","_law_maker","_law_fields","_law_found","_law_one","_law_makers"] ["_law_kinds_here","_law_kind"] (aw lO):=⟨rfl,rfl,rfl,by decide +kernel,rfl,by decide +kernel,by decide +kernel⟩
abbrev xh:Stmt:=top 32
theorem GY:aH ["_law_program_here","_law_name"] ["_law_program_here","_law_name"] (aw xh):=⟨rfl,rfl,rfl,by decide +kernel,rfl,by decide +kernel,by decide +kernel⟩
abbrev sH:Stmt:=top 33
theorem cM:aH ["_law_program_here","_law_f","_law_path","_law_found","_law_n","_law_piece","_law_arm","_law_g","_law_kind","_law_maker","_law_names","_law_fields"] ["_law_program_here","_law_f","_law_path"] (aw sH):=⟨rfl,rfl,rfl,by decide +kernel,rfl,by decide +kernel,by decide +kernel⟩
abbrev sD:Stmt:=top 34
theorem bw:aH ["_law_program_here","_law_found","_law_f","_law_function","_law_k","_law_param","_law_some","_law_path","_law_n","_law_piece","_law_x","_law_kind"] ["_law_program_here"] (aw sD):=⟨rfl,rfl,rfl,by decide +kernel,rfl,by decide +kernel,by decide +kernel⟩
abbrev fG:Stmt:=top 35
theorem iA:aH ["_law_found","_law_one"] ["_law_found"] (aw fG):=⟨rfl,rfl,rfl,by decide +kernel,rfl,by decide +kernel,by decide +kernel⟩
abbrev mR:Stmt:=top 36
theorem lL:aH ["_law_script","_law_deal_here","_law_program_here","_law_other","_law_due","_law_found"] ["_law_script"] (aw mR):=⟨rfl,rfl,rfl,by decide +kernel,rfl,by decide +kernel,by decide +kernel⟩
set_option genInjectivity false in
structure Adr where
 aM:Addr
 bU:Addr
 iV:FuncData
 cT:Addr
 mY:FuncData
 gu:Addr
 wu:FuncData
 bN:Addr
 g9:FuncData
 bO:Addr
 hJ:FuncData
 cS:Addr
 mX:FuncData
 jk:Addr
 z9:FuncData
 bM:Addr
 g8:FuncData
 gw:Addr
 wx:FuncData
 cp:Addr
 jG:FuncData
 dz:Addr
 pM:FuncData
 dy:Addr
 pL:FuncData
 cm:Addr
 jE:FuncData
 bB:Addr
 gx:FuncData
 mx:Addr
 Ft:FuncData
 mw:Addr
 Fo:FuncData
 jj:Addr
 z8:FuncData
 jn:Addr
 Ac:FuncData
 mq:Addr
 Fm:FuncData
 jq:Addr
 Ae:FuncData
 my:Addr
 Fu:FuncData
 ka:Addr
 yr:FuncData
 eV:Addr
 rL:FuncData
 jo:Addr
 Ad:FuncData
 jl:Addr
 Aa:FuncData
 mm:Addr
 Fl:FuncData
 cU:Addr
 js:FuncData
 ml:Addr
 Fi:FuncData
 f_bound:Addr
 Af:FuncData
 jm:Addr
 Ab:FuncData
 cn:Addr
 jF:FuncData
 pH:Addr
 Fj:FuncData
structure Txt(K:W.Frag)(mg:Str->Option Value)(a:Adr):Prop where
 dJ:Cls K a.aM
 tL:mg "Spot" = some (.ref a.aM)
 tN:Mk K a.aM a.bU
 dG:f6 K a.aM "piece"
 dH:f6 K a.aM "above"
 mS:f6 K a.aM "arm"
 fC:Fun K "__init__" "Spot.__init__" gE a.bU a.iV
 Il:Meth K a.aM "__init__" a.bU
 i4:Binds K a.iV ["self","piece","above","arm"] []
 ja:Dn K mg "makers_of" iD a.cT a.mY ["kinds","kind"]
 wI:Dn K mg "within" oo a.gu a.wu ["kinds","kind"]
 ib:Dn K mg "reached_kinds" dU a.bN a.g9 ["kinds","kind"]
 eO:Dn K mg "kind_of_maker" dW a.bO a.hJ ["kinds","maker"]
 m7:Dn K mg "number_of" iC a.cS a.mX ["functions","name"]
 u6:Dn K mg "spots" sA a.jk a.z9 ["body"]
 ia:Dn K mg "spots_beneath" dS a.bM a.g8 ["piece","number"]
 wJ:Dn K mg "pieces" oq a.gw a.wx ["body"]
 jL:Dn K mg "kinds_ahead" fH a.cp a.jG ["program","f"]
 qz:Dn K mg "bound_by" jP a.dz a.pM ["program","piece","arm","kinds"]
 fq:Dn K mg "unknowns" jO a.dy a.pL ["program"]
 cv:Dn K mg "unknowns_of" fF a.cm a.jE ["program","family","kind"]
 gA:Dn K mg "piece_unknowns" dt a.bB a.gx ["program","f"]
 qy:Dn K mg "_law_deal" xl a.mx a.Ft ["_law_script","_law_base"]
 a6:Dn K mg "_law_draw" xk a.mw a.Fo ["_law_deal_here","_law_many"]
 AB:Dn K mg "_law_words" sy a.jj a.z8 ["_law_deal_here","_law_many"]
 AE:Dn K mg "_law_kinds" sE a.jn a.Ac ["_law_deal_here","_law_words_here"]
 qw:Dn K mg "_law_fill" xj a.mq a.Fm ["_law_deal_here","_law_scope","_law_some"]
 vb:Dn K mg "_law_ended" sG a.jq a.Ae ["_law_deal_here","_law_world","_law_scope","_law_kind","_law_f"]
 Gg:Dn K mg "_law_case" xm a.my a.Fu ["_law_deal_here","_law_world","_law_scope","_law_f","_law_room"]
 kx:Dn K mg "_law_body" xn a.ka a.yr ["_law_deal_here","_law_world","_law_scope","_law_f","_law_room"]
 mM:Dn K mg "_law_program" lN a.eV a.rL ["_law_deal_here","_law_most","_law_room"]
 AF:Dn K mg "_law_inner" sF a.jo a.Ad ["_law_piece"]
 u7:Dn K mg "_law_paths" sC a.jl a.Aa ["_law_body_here","_law_ahead","_law_counter"]
 va:Dn K mg "_law_home" xi a.mm a.Fl ["_law_kinds_here","_law_maker"]
 gB:Dn K mg "_law_within" lO a.cU a.js ["_law_kinds_here","_law_kind"]
 Gf:Dn K mg "_law_seat" xh a.ml a.Fi ["_law_program_here","_law_name"]
 AG:Dn K mg "_law_bound" sH a.f_bound a.Af ["_law_program_here","_law_f","_law_path"]
 u9:Dn K mg "_law_marks" sD a.jm a.Ab ["_law_program_here"]
 jK:Dn K mg "_law_kinds_right" fG a.cn a.jF ["_law_found"]
 P0:Dn K mg "law" mR a.pH a.Fj ["_law_script"]
 cX:mg "len" = none
 pY:mg "list" = none
 di:mg "tuple" = none
 Al:mg "int" = none
 Mt:mg "bool" = none
 gW:mg "dict" = none
 pX:mg "reversed" = none
 Ak:mg "max" = none
 gT:mg "range" = none
 gU:mg "isinstance" = none
 Kg:mg "zip" = none
 bx:mg "enumerate" = none
 FP:mg "sorted" = none
 Pw:mg "set" = none
def tQ:Str:="abcdefghijklmnopqrstuvwxyz"
def wa:List Str:=["kind","def","to","let","make","call"]
def jC:List Str:=["name","case","end","pay","get","give"]
def kept:List Str:=wa++jC
def near:List Str:=["lets","callx","payer","ender","tom","nameb","makes","gets","giver","kinds","defs","cases"]
theorem zM{i:Int}(h0:0<=i)(h1:i<26):atI (Str.cps tQ).toList i=some (m9 i.toNat):=by
 obtain⟨n,rfl⟩:∃ n:Nat,i=n:=⟨i.toNat,by omega⟩
 have h2:n<26:=by omega
 have h3:∀ n:Fin 26,atI (Str.cps tQ).toList (n.val:Int)=some (m9 n.val):=by decide +kernel
 have:=h3 ⟨n,h2⟩
 simpa using this
theorem Er:∀ w∈near,1<=w.length/\w.length<=20:=by decide +kernel
def tM(m:Mk1):T:=.t [.s m.1,.t (m.2.map .s)]
def tMs(ms:List Mk1):T:=.t (ms.map tM)
def tK(k:Kd):T:=.t [.s k.1,tMs k.2]
def tKs(ks:List Kd):T:=.t (ks.map tK)
def DW:PSp:=fun ts Q=>∃(ks:List Kd)(k:Str),ts = [tKs ks,.s k]/\Q (tMs (ft ks k))
theorem aU{α:Type}{f:α->T}(h:∀ x,(f x).im=true):∀ xs:List α,T.ims (xs.map f)=true
 | []=>by simp[T.ims]
 | x::r=>by simp[T.ims,h x,aU h r]
theorem rF(m:Mk1):(tM m).im=true:=by simp[tM,T.im,T.ims,aU (f:=T.s) (fun _=>rfl)]
theorem mj(m:List Mk1):(tMs m).im=true:=by simp[tMs,T.im,aU rF]
theorem pq(m:Kd):(tK m).im=true:=by simp[tK,T.im,T.ims,mj]
theorem j8(m:List Kd):(tKs m).im=true:=by simp[tKs,T.im,aU pq]
def Ht:PSp:=fun ts Q=>∃ m:Int,ts = [.cZ,.i m]/\0<m/\m<=52/\∀ ws:List Str,(ws.length:Int)=m->ws.Nodup ->(∀ w∈ws,1<=w.length/\w.length<=20)->Q (.l (ws.map .s))
variable{ws:List Str}
theorem de{w:Str}:inT (.s w) (ws.map T.s)=inV (.str w) (ws.map V.str):=by
 unfold inT inV;rw[VJ,VJ];rfl
theorem gq(ws:List Str):fls (ws.map T.s)=true:=by
 unfold fls;rw[Wd,T9];exact fun _ _=>rfl
theorem aL(ws:List Str):T.ims (ws.map T.s)=true:=aU (fun _=>rfl) ws
theorem noq{w z:Str}(h:z∈jC):w++("q":Str)≠z:=by
 intro e;have h1:(w++("q":Str)).cps.toList.getLast? = some 113:=by simp[Str.cps_append,show(Str.ofString "q").cps = #[113]from by decide +kernel]
 rw[e]at h1;have h2:∀ z∈jC,z.cps.toList.getLast? ≠ some 113:=by decide +kernel
 exact h2 z h h1
theorem LL{w:Str}:inV (.str (w++("q":Str))) (jC.map V.str)=false:=by
 cases e:inV (.str (w++("q":Str))) (jC.map V.str)with
 | false=>rfl
 | true=>exact absurd rfl (noq (w:=w) (nL.mp e))
theorem j6{w:Str}:inV (.str w) (kept.map V.str) =(inV (.str w) (wa.map V.str)||inV (.str w) (jC.map V.str)):=by
 unfold kept inV;rw[S9,List.any_append]
theorem Jo{i:Int}(h0:0<=i)(h1:i<ws.length):∃ w,atI (ws.map T.s) i=some (.s w)/\w∈ws:=by
 obtain⟨v,e,hm⟩:=Mv (xs:=ws.map T.s) h0 (by simpa using h1)
 obtain⟨w,hw,rfl⟩:=S5.mp hm;exact⟨w,e,hw⟩
structure Ap(ks:List Kd):Prop where
 k1:1<=ks.length
 k2:ks.length<=3
 nd:(ks.map (·.1)).Nodup
 mn:(names ks).Nodup
 ne:∀ k∈ks,k.2 ≠ []/\k.2.length<=6
 fl:∀ k∈ks,∀ m∈k.2,m.2.length<=4/\∀ f∈m.2,f∈ks.map (·.1)
def Hx:PSp:=fun ts Q=>∃ ws:List Str,ts = [.cZ,.l (ws.map .s)]/\ws.length=40/\ws.Nodup/\∀ ks,Ap ks ->(∀ m∈names ks,m∈ws)->Q (tKs ks)
variable{j:Nat}
theorem fh{w:Str}(h:ws[j]? = some w):atI (ws.map T.s) (j:Int)=some (.s w):=bX (by rw[L7,h];rfl)
theorem Pj(h:ws.length=40):dQ (ws.map T.s) (some 4) none++dQ (ws.map T.s) none (some 4) =(ws.drop 4++ws.take 4).map T.s:=by
 unfold dQ;have e1:HT.sIx (ws.map T.s).length 0 (some 4)=4:=by rw[j3,h];rfl
 have e2:HT.sIx (ws.map T.s).length (ws.map T.s).length (some 4)=4:=by rw[j3,h];rfl
 rw[e1,e2];show(List.drop 4 (ws.map T.s)).take ((ws.map T.s).length - 4)++(List.drop 0 (ws.map T.s)).take (4 - 0)=_;rw[VL (by rw[UD];omega),Vr,S9,VD,Vg]
theorem Fy{α β:Type}(f:α->β)(xs:List α)(lo hi:Option Int):dQ (xs.map f) lo hi =(dQ xs lo hi).map f:=by
 unfold dQ;rw[j3,<- VD,<- Vg]
theorem zT(ws:List Str)(lo hi:Option Int):T.ims (dQ (ws.map T.s) lo hi)=true:=by rw[Fy];exact aL _
theorem NZ(x y:Int)(b:Bool):atI [T.i x,T.i y] (if b=true then 1 else 0)=some (.i (if b=true then y else x)):=by cases b <;> rfl
theorem JV{x y z r:Int}(h0:0<=r)(h1:r<3):∃ v,atI [T.i x,T.i y,T.i z] r=some (.i v)/\(v=x\/v=y\/v=z):=by
 obtain⟨n,rfl⟩:∃ n:Nat,r=n:=⟨r.toNat,by omega⟩
 match n,h1 with
 | 0,_=>exact⟨x,rfl,.inl rfl⟩
 | 1,_=>exact⟨y,rfl,.inr (.inl rfl)⟩
 | 2,_=>exact⟨z,rfl,.inr (.inr rfl)⟩
 | n+3,h=>omega
theorem leK(a b:Nat)(h:Nat.ble a b=true:=by rfl):a<=b:=Nat.le_of_ble_eq_true h
theorem yE{α:Type}{p:α->Prop}:∀ x∈([]:List α),p x:=fun _ h=>absurd h Ts
theorem all1{α:Type}{p:α->Prop}{a:α}(h:p a):∀ x ∈ [a],p x:=fun _ hx=>qr.mp hx▸h
theorem all2{α:Type}{p:α->Prop}{a b:α}(h:p a)(h2:p b):∀ x ∈ [a,b],p x:=fun x hx=>(S1.mp hx).elim (fun e=>e▸h) (all1 h2 x)
theorem Sr{α:Type}{p:α->Prop}{a b c:α}(h:p a)(h2:p b)(h3:p c):∀ x ∈ [a,b,c],p x:=fun x hx=>(S1.mp hx).elim (fun e=>e▸h) (all2 h2 h3 x)
structure qh(ws M:List Str)(many:Nat)(ks:List Kd)(k made:Nat):Prop where
 nm:ks.map (·.1)=ws.take k
 mn:names ks=M.take made
 b1:made<=6*k
 ne:∀ k∈ks,k.2 ≠ []/\k.2.length<=6
 fl:∀ k∈ks,∀ m∈k.2,m.2.length<=4/\∀ f∈m.2,f∈ws.take many
variable{ks:List Kd}{ms:List Mk1}
theorem qh.next{M:List Str}{many:Nat}{k made ff:Nat}{n:Str}(D:qh ws M many ks k made)(hn:ws[k]? = some n)(hm:M.take made++ms.map (·.1)=M.take ff)(h0:ms ≠ [])(h1:ms.length<=6)(h2:ff<=made+ms.length)(h3:∀ m∈ms,m.2.length<=4/\∀ f∈m.2,f∈ws.take many) :
  qh ws M many (ks ++ [(n,ms)]) (k+1) ff where
 nm:=by rw[S9,D.nm,<- take_one hn];rfl
 mn:=by
  have:names (ks ++ [(n,ms)])=names ks++ms.map (·.1):=by unfold names;rw[List.flatMap_append];simp
  rw[this,D.mn,hm]
 b1:=by have:=D.b1;omega
 ne:=fun x hx=>by
  rcases SY.mp hx with h|h
  ·exact D.ne x h
  ·rw[qr.mp h];exact⟨h0,h1⟩
 fl:=fun x hx=>by
  rcases SY.mp hx with h|h
  ·exact D.fl x h
  ·rw[qr.mp h];exact h3
theorem qh.good{M:List Str}{many:Nat}{made:Nat}(D:qh ws M many ks many made)(hw:ws.Nodup)(hM:M.Nodup)(h1:1<=many)(h2:many<=3)(hl:3<=ws.length):Ap ks:=by
 have hlen:ks.length=many:=by
  have:=congrArg UB D.nm
  rw[j3,Ti]at this;omega
 refine⟨by omega,by omega,by rw[D.nm];exact hw.sublist (UO _ _),by rw[D.mn];exact hM.sublist (UO _ _),D.ne,fun k hk m hm=>?_⟩
 have z:=D.fl k hk m hm;rw[D.nm];exact z
theorem ug{a b:Str}:decide ((Sum.inr a:Key) = .inr b)=decide (a=b):=by
 by_cases h:a=b
 ·subst h;simp
 ·rw[decide_eq_false h,decide_eq_false fun z=>h (Sum.inr.inj z)]
variable{P:Program}{mg:Str->Option Value}{base:Heap}
theorem never{w:World}{K:W.Frag}{CX:CXT}{k:Nat}{f:Addr}{fd:FuncData}{ps:List Str}{sp:PSp}(h:∀ ts Q,¬ sp ts Q):a8 P w K mg base CX k f fd ps (spQ K sp) :=
 ⟨fun _ _ _ _ hz=>by obtain⟨_,ts,_,Qp,_,_,z,_⟩:=hz;exact(h ts Qp z).elim,fun _ _ _ _ _ _ _ _ _ _ _ _ _ hz=>by obtain⟨_,ts,_,Qp,_,_,z,_⟩:=hz;exact(h ts Qp z).elim⟩
def kEn(k:Kd):Key×T:=(.inr k.1,tMs k.2)
theorem iH:∀ ks:List Kd,du (ks.map tK)=some (ks.map kEn)
 | []=>rfl
 | k::r=>by
  show(match(some (.inr k.1):Option Key),du (r.map tK)with|some k',some r=>some ((k',tMs k.2)::r) | _,_=>none)=_
  rw[iH r];rfl
theorem oP:∀{ps acc:List (Key×T)},(ps.map (·.1)).Nodup ->(∀ p∈ps,∀ q∈acc,q.1≠p.1)->b7 acc ps=acc++ps
 | [],acc,_,_=>by simp[b7]
 | p::ps,acc,h,hd=>by
  have h':=TB.mp h;have e:sS acc p.1 p.2=acc ++ [p]:=by
   unfold sS;rw[if_neg];intro z;obtain⟨q,hq,hz⟩:=Vd.mp z;exact hd p (by simp) q hq (of_decide_eq_true hz)
  show b7 (sS acc p.1 p.2) ps=_;rw[e,oP h'.2 fun p' hp' q hq=>?_]
  ·simp
  ·rcases SY.mp hq with z|z
   ·exact hd p' (by simp[hp']) q z
   ·rw[qr.mp z];exact fun e=>h'.1 (S5.mpr ⟨p',hp',e.symm⟩)
theorem Ip{k:Str}(h:k∈ks.map (·.1)):bS (ks.map kEn) (.inr k)=some (tMs (ft ks k)):=by
 unfold bS ft
 induction ks with
 | nil=>cases h
 | cons x r ih =>
  by_cases e:x.1=k
  ·rw[Tx,TN,TN,show(kEn x).1 = .inr x.1 from rfl,ug,decide_eq_true e];rfl
  ·have h':k∈r.map (·.1):=by
    rcases S1.mp h with z|z
    ·exact absurd z.symm e
    ·exact z
   rw[Tx,TN,TN,show(kEn x).1 = .inr x.1 from rfl,ug,decide_eq_false e];exact ih h'
theorem IT(h:(ks.map (·.1)).Nodup):b7 [] (ks.map kEn)=ks.map kEn:=by
 rw[oP]
 ·rfl
 ·rw[TQ]
  have:(ks.map ((fun x:Key×T=>x.1) ∘ kEn)) =(ks.map (·.1)).map Sum.inr:=by rw[TQ];rfl
  rw[this];exact UY.mpr (h.imp fun hne z=>hne (Sum.inr.inj z))
 ·intro p _ q hq;cases hq
theorem ji{k:Str}(g:(ks.map (·.1)).Nodup)(h:k∈ks.map (·.1)):bS (b7 [] (ks.map kEn)) (.inr k)=some (tMs (ft ks k)):=by rw[IT g,Ip h]
structure cF(ks:List Kd):Prop where
 k1:1<=ks.length
 k2:ks.length<=6
 nd:(ks.map (·.1)).Nodup
 mn:(names ks).Nodup
 ne:∀ k∈ks,k.2 ≠ []/\k.2.length<=6
 fl:∀ k∈ks,∀ m∈k.2,m.2.length<=4/\∀ f∈m.2,f∈ks.map (·.1)
theorem Mu{r:Int}(h0:0<=r)(h1:r.toNat<ws.length):atI (ws.map L2.T.s) r=some (.s ws[r.toNat]):=by
 have:=fh (ws:=ws) (j:=r.toNat) (w:=ws[r.toNat]) (by simp[h1])
 rwa [Up h0]at this
abbrev Sc:=List (Str×Str)
def tP(p:Str×Str):T:=.t [.s p.1,.s p.2]
theorem fi(p:Str×Str):(tP p).im=true:=rfl
def Fills(sc:Sc)(ns fs:List Str):Prop:=ns.length=fs.length/\∀ p∈ns.zip fs,p∈sc
variable{sc:Sc}{ns:List Str}
theorem Fills.snoc{fs:List Str}{n f:Str}(h:Fills sc ns fs)(hp:(n,f)∈sc):Fills sc (ns ++ [n]) (fs ++ [f]):=by
 refine⟨by simp[h.1],fun p hp'=>?_⟩
 rw[List.zip_append h.1]at hp';rcases SY.mp hp' with z|z
 ·exact h.2 p z
 ·simp at z;rw[z];exact hp
def xE:PSp:=fun ts Q=>∃(sc:Sc)(fs:List Str)(t:T),(t = .t (fs.map .s)\/t = .l (fs.map .s))/\ts = [.cZ,.l (sc.map tP),t]/\sc.length<=60/\fs.length<=1000/\Q .n/\∀ ns:List Str,Fills sc ns fs->Q (.t (ns.map .s))
abbrev Hd:=Str×Sc×Str
def tH(h:Hd):T:=.t [.s h.1,.t (h.2.1.map tP),.s h.2.2]
theorem OQ(h:Hd):(tH h).im=true:=by
 show(true&&(T.ims (h.2.1.map tP)&&true))=true;rw[aU fi];rfl
def tW(ks:List Kd)(hs:List Hd)(ws:List Str):T:=.t [tKs ks,.l (hs.map tH),.l (ws.map .s)]
structure Wld(ks:List Kd)(hs:List Hd)(ws:List Str):Prop where
 gk:cF ks
 wl:ws.length=40
 wn:ws.Nodup
 h1:1<=hs.length
 h8:hs.length<=8
 hn:(hs.map (·.1)).Nodup
 hp:∀ h∈hs,h.2.1.length<=4/\(∀ p∈h.2.1,p.2∈ks.map (·.1))/\h.2.1.map (·.1)=ws.take h.2.1.length/\h.2.2∈ks.map (·.1)
structure qf(ks:List Kd)(ws:List Str)(h:Hd)(sc:Sc):Prop where
 nm:sc.map (·.1)=ws.take sc.length
 ln:sc.length<=30
 kd:∀ p∈sc,p.2∈ks.map (·.1)
 p1:h.2.1.length<=sc.length
 pf:sc.take h.2.1.length=h.2.1
abbrev Arm:=Str×List Str×T×Nat
def tA(a:Arm):T:=.t [.s a.1,.t (a.2.1.map .s),a.2.2.1]
inductive Snd(ks:List Kd)(hs:List Hd)(r:Str):Nat->Sc->T->Prop
 | give{sc:Sc}{x:Str}:(x,r)∈sc->Snd ks hs r 1 sc (.t [.s "give",.s x])
 | cW{n:Nat}{sc:Sc}{w:Str}{c:Int}{b:T}:(w = "pay" \/ w = "get")->Snd ks hs r n sc b->Snd ks hs r (n+1) sc (.t [.s w,.i c,b])
 | name{n:Nat}{sc:Sc}{x y k:Str}{b:T}:(y,k)∈sc->x ∉ sc.map (·.1)->Snd ks hs r n (sc ++ [(x,k)]) b->Snd ks hs r (n+1) sc (.t [.s "name",.s x,.s y,b])
 | make{n:Nat}{sc:Sc}{x:Str}{m:Mk1}{kd:Kd}{ns:List Str}{b:T}:kd∈ks->m∈kd.2->Fills sc ns m.2->x ∉ sc.map (·.1)->Snd ks hs r n (sc ++ [(x,kd.1)]) b->Snd ks hs r (n+1) sc (.t [.s "make",.s x,.s m.1,.t (ns.map .s),b])
 | call{n:Nat}{sc:Sc}{x:Str}{h:Hd}{ns:List Str}{b:T}:h∈hs->Fills sc ns (h.2.1.map (·.2))->x ∉ sc.map (·.1)->Snd ks hs r n (sc ++ [(x,h.2.2)]) b->Snd ks hs r (n+1) sc (.t [.s "call",.s x,.s h.1,.t (ns.map .s),b])
 | case{sc:Sc}{x:Str}{kd:Kd}(arms:List Arm):(x,kd.1)∈sc->kd∈ks->arms.map (·.1)=kd.2.map (·.1) ->
   (∀(i:Nat)(a:Arm)(m:Mk1),arms[i]? = some a->kd.2[i]? = some m->a.2.1.length=m.2.length/\(sc.map (·.1)++a.2.1).Nodup) ->
   (∀(i:Nat)(a:Arm)(m:Mk1),arms[i]? = some a->kd.2[i]? = some m->Snd ks hs r a.2.2.2 (sc++a.2.1.zip m.2) a.2.2.1) ->
   Snd ks hs r (1+(arms.map (·.2.2.2)).sum) sc (.t [.s "case",.s x,.t (arms.map tA)])
theorem Snd.im{ks:List Kd}{hs:List Hd}{r:Str}{n:Nat}{sc:Sc}{b:T}(h:Snd ks hs r n sc b):b.im=true:=by
 induction h with
 | give _=>rfl
 | cW _ _ ih=>show(true&&(true&&(T.im _&&true)))=true;rw[ih];rfl
 | name _ _ _ ih=>show(true&&(true&&(true&&(T.im _&&true))))=true;rw[ih];rfl
 | make _ _ _ _ _ ih=>show(true&&(true&&(true&&(T.ims _&&(T.im _&&true)))))=true;rw[ih,aL];rfl
 | call _ _ _ _ ih=>show(true&&(true&&(true&&(T.ims _&&(T.im _&&true)))))=true;rw[ih,aL];rfl
 | @case sc x kd arms _ _ hn _ _ ih =>
  show(true&&(true&&(T.ims (arms.map tA)&&true)))=true
  have:T.ims (arms.map tA)=true:=by
   have go:∀(l:List T),(∀ t∈l,t.im=true)->T.ims l=true:=by
    intro l
    induction l with
    | nil=>intro _;rfl
    | cons t r ih=>intro h;show(t.im&&T.ims r)=true;rw[h t SG,ih fun t ht=>h t (SK _ ht)];rfl
   refine go _ fun t ht=>?_
   obtain⟨a,ha,rfl⟩:=S5.mp ht;obtain⟨i,hi,e⟩:=Tz ha;have hl:kd.2.length=arms.length:=by have:=congrArg UB hn;simpa using this.symm
   have z:=ih i a (kd.2[i]'(by omega)) (by rw[Es hi,e]) (Es _)
   show(true&&(T.ims (a.2.1.map .s)&&(a.2.2.1.im&&true)))=true;rw[z,aL];rfl
  rw[this];rfl
def tb:Nat->List Nat
 | 0=>[2]
 | n+1=>(1+max ((tb n).getD 0 2) (max ((tb n).getD 1 2) (max (2*(tb n).getD 2 2) (max (3*(tb n).getD 3 2) (max (4*(tb n).getD 4 2) (max (5*(tb n).getD 5 2) (6*(tb n).getD 6 2)))))))::tb n
def sz(n:Nat):Nat:=(tb n).getD 0 2
theorem il:∀ n k:Nat,(tb n).getD k 2=sz (n - k)
 | 0,0=>rfl
 | 0,k+1=>by rw[Nat.zero_sub];rfl
 | n+1,0=>rfl
 | n+1,k+1=>by
  rw[Nat.add_sub_add_right,<- il n k];rfl
theorem y7(n:Nat):sz (n+1)=1+max (sz n) (max (sz (n - 1)) (max (2*sz (n - 2)) (max (3*sz (n - 3)) (max (4*sz (n - 4)) (max (5*sz (n - 5)) (6*sz (n - 6))))))):=by
 show 1+max ((tb n).getD 0 2) _=_;rw[il,il,il,il,il,il,il];rfl
theorem wY(n:Nat):1+sz n<=sz (n+1):=by rw[y7];omega
theorem CA:∀ n:Nat,2<=sz n
 | 0=>S3 _
 | n+1=>by have:=wY n;have:=CA n;omega
variable{n:Nat}
theorem GA{k:Nat}(h1:1<=k)(h6:k<=6):1+k*sz (n - k)<=sz (n+1):=by
 rw[y7]
 have:k=1\/k=2\/k=3\/k=4\/k=5\/k=6:=by omega
 rcases this with rfl|rfl|rfl|rfl|rfl|rfl <;> omega
theorem Gy{m:Nat}(h:n<=m):sz n<=sz m:=by
 induction h with
 | refl=>exact S3 _
 | step _ ih=>exact Tn ih (Tn (Nat.le_add_left _ _) (wY _))
theorem M6:sz 30<=50000:=by decide +kernel
theorem v7{kd:Kd}(g:(ks.map (·.1)).Nodup)(h:kd∈ks):ft ks kd.1=kd.2:=by
 unfold ft
 induction ks with
 | nil=>cases h
 | cons x r ih =>
  rw[Tx,TB]at g;by_cases e:x.1=kd.1
  ·rcases S1.mp h with z|z
   ·subst z;simp
   ·exact absurd (S5.mpr ⟨kd,z,e.symm⟩) g.1
  ·rw[TN,decide_eq_false e];rcases S1.mp h with z|z
   ·exact absurd (by rw[z]) e
   ·exact ih g.2 z
theorem J3{k:Str}(h:k∈ks.map (·.1)):∃ kd∈ks,kd.1=k:=by
 obtain⟨kd,h1,h2⟩:=S5.mp h;exact⟨kd,h1,h2⟩
variable{x:Str}
theorem qf.fresh{h:Hd}(S:qf ks ws h sc)(wn:ws.Nodup)(hx:ws[sc.length]? = some x):x ∉ sc.map (·.1):=by
 rw[S.nm];intro z;have q:=wn.sublist (UO (sc.length+1) ws);rw[<- take_one hx]at q;exact(T1.mp q).2.2 x z x (by simp) rfl
theorem qf.snoc{h:Hd}{k:Str}(S:qf ks ws h sc)(hx:ws[sc.length]? = some x)(hl:sc.length<30)(hk:k∈ks.map (·.1)):qf ks ws h (sc ++ [(x,k)]) where
 nm:=by rw[S9,S.nm,RM];exact take_one hx
 ln:=by rw[RM];simp;omega
 kd:=fun p hp=>by
  rcases SY.mp hp with z|z
  ·exact S.kd p z
  ·rw[qr.mp z];exact hk
 p1:=by rw[RM];have:=S.p1;omega
 pf:=by rw[Vj S.p1];exact S.pf
def nI:PSp:=fun ts Q=>∃(ks:List Kd)(hs:List Hd)(ws:List Str)(sc:Sc)(f:Nat)(h:Hd),ts = [.cZ,tW ks hs ws,.l (sc.map tP),.s h.2.2,.i f]/\Wld ks hs ws/\hs[f]? = some h/\qf ks ws h sc/\∀ n b,n<=2->Snd ks hs h.2.2 n sc b->Dep 2 b->Q b
def jU(N:Nat):PSp:=fun ts Q=>∃(ks:List Kd)(hs:List Hd)(ws:List Str)(sc:Sc)(f:Nat)(h:Hd)(u:Int),ts = [.cZ,tW ks hs ws,.l (sc.map tP),.i f,.rm u]/\Wld ks hs ws/\hs[f]? = some h/\qf ks ws h sc/\sc.length<=21/\u.toNat<N/\∀ n b,n<=sz u.toNat->Snd ks hs h.2.2 n sc b->Dep (3*u.toNat+2) b->Q b
def Ll(N:Nat):PSp:=fun ts Q=>∃(ks:List Kd)(hs:List Hd)(ws:List Str)(sc:Sc)(f:Nat)(h:Hd)(u:Int),ts = [.cZ,tW ks hs ws,.l (sc.map tP),.i f,.rm u]/\Wld ks hs ws/\hs[f]? = some h/\qf ks ws h sc/\sc.length<=17/\sc ≠ []/\u.toNat<N/\∀ n b,n<=sz (u.toNat+1)->Snd ks hs h.2.2 n sc b->Dep (3*u.toNat+5) b->Q b
theorem Fv{α:Type}{xs:List α}(h:n<=xs.length):dQ xs none (some (n:Int))=xs.take n:=by
 unfold dQ;rw[HT.C1,HT.G0,Uq h,Vr,Nat.sub_zero]
theorem Fills.self:Fills sc ((sc.take n).map (·.1)) ((sc.take n).map (·.2)):=by
 refine⟨by simp,fun p hp=>?_⟩
 rw[List.zip_map',S5]at hp;obtain⟨q,hq,rfl⟩:=hp;exact Ud hq
theorem yT{fs:List Str}(h:ns.length=fs.length):(ns.zip fs).map (·.1)=ns:=by
 rw[VG (by omega)]
theorem qf.more{h:Hd}{fs:List Str}(S:qf ks ws h sc)(wn:ws.Nodup)(e:ns =(ws.drop sc.length).take fs.length)(hl:sc.length+fs.length<=30)(hw:40<=ws.length)(hk:∀ f∈fs,f∈ks.map (·.1)) :
  ns.length=fs.length/\(sc.map (·.1)++ns).Nodup/\qf ks ws h (sc++ns.zip fs):=by
 have l1:ns.length=fs.length:=by rw[e,Ti,UD];omega
 have e2:sc.map (·.1)++ns=ws.take (sc.length+fs.length):=by rw[S.nm,e,List.take_add]
 have lz:(ns.zip fs).length=fs.length:=by rw[Us];omega
 refine⟨l1,by rw[e2];exact wn.sublist (UO _ _),⟨?_,?_,fun p hp=>?_,?_,?_⟩⟩
 ·rw[S9,yT l1,e2,RM,lz]
 ·rw[RM,lz];omega
 ·rcases SY.mp hp with z|z
  ·exact S.kd p z
  ·exact hk p.2 (U4 z).2
 ·rw[RM];have:=S.p1;omega
 ·rw[Vj S.p1];exact S.pf
variable{arms:List Arm}{B:Nat}
theorem Kw(h:∀ a∈arms,a.2.2.2<=B):(arms.map (·.2.2.2)).sum<=arms.length*B:=by
 induction arms with
 | nil=>simp
 | cons a r ih =>
  have h1:=h a SG;have h2:=ih fun b hb=>h b (SK _ hb)
  rw[Tx,Vh,Te,Nat.add_mul];omega
structure Km(ks:List Kd)(hs:List Hd)(r:Str)(sc:Sc)(B D:Nat)(a:Arm)(m:Mk1):Prop where
 nm:a.1=m.1
 ln:a.2.1.length=m.2.length
 nd:(sc.map (·.1)++a.2.1).Nodup
 sn:Snd ks hs r a.2.2.2 (sc++a.2.1.zip m.2) a.2.2.1
 sz:a.2.2.2<=B
 dp:Dep D a.2.2.1
structure qV(ks:List Kd)(hs:List Hd)(r:Str)(sc:Sc)(B D:Nat)(arms:List Arm)(ms:List Mk1):Prop where
 ln:arms.length=ms.length
 ok:∀(i:Nat)(a:Arm)(m:Mk1),arms[i]? = some a->ms[i]? = some m->Km ks hs r sc B D a m
variable{hs:List Hd}{r:Str}{D:Nat}
theorem qV.snoc{a:Arm}{m:Mk1}(h:qV ks hs r sc B D arms ms)(ha:Km ks hs r sc B D a m):qV ks hs r sc B D (arms ++ [a]) (ms ++ [m]):=by
 refine⟨by simp[h.ln],fun i a' m' h1 h2=>?_⟩
 by_cases hi:i<arms.length
 ·rw[TC hi]at h1;rw[TC (by rw[<- h.ln];exact hi)]at h2
  exact h.ok i a' m' h1 h2
 ·rw[Ub (by omega)]at h1
  rw[Ub (by rw[<- h.ln];omega),<- h.ln]at h2
  have hi0:i - arms.length=0:=by
   have:=(QH.mp h1).1
   simp at this;omega
  rw[hi0]at h1 h2;simp at h1 h2;subst h1 h2;exact ha
theorem qV.snd{kd:Kd}(h:qV ks hs r sc B D arms kd.2)(hx:(x,kd.1)∈sc)(hk:kd∈ks):Snd ks hs r (1+(arms.map (·.2.2.2)).sum) sc (.t [.s "case",.s x,.t (arms.map tA)])/\(arms.map (·.2.2.2)).sum<=arms.length*B:=by
 refine⟨.case arms hx hk ?_ (fun i a m h1 h2=>⟨(h.ok i a m h1 h2).ln,(h.ok i a m h1 h2).nd⟩) (fun i a m h1 h2=>(h.ok i a m h1 h2).sn),Kw fun a ha=>?_⟩
 ·apply Wc
  intro i;rw[L7,L7];by_cases hi:i<arms.length
  ·have e1:=Es hi;have e2:kd.2[i]? = some (kd.2[i]'(by rw[<- h.ln];exact hi)):=Es _
   rw[e1,e2];exact congrArg some (h.ok i _ _ e1 e2).nm
  ·rw[Uh (by omega),Uh (by rw[<- h.ln];omega)]
   rfl
 ·obtain⟨i,hi,e⟩:=Tz ha;exact(h.ok i a _ (by rw[Es hi,e]) (Es (by rw[<- h.ln];exact hi))).sz
theorem iL{α:Type}{xs:List α}{f:α->T}{r:Int}(h0:0<=r)(h1:r<xs.length):∃ x∈xs,atI (xs.map f) r=some (f x):=by
 have h:r.toNat<xs.length:=by omega
 refine⟨xs[r.toNat],US h,?_⟩
 have:=bX (xs:=xs.map f) (j:=r.toNat) (v:=f xs[r.toNat]) (by rw[L7,Es h];rfl)
 rwa [Up h0]at this
theorem max_two{r r':Int}(r0:0<=r)(r1:r<n)(r0':0<=r')(r1':r'<n):0 <=(if r' > r then r' else r)/\(if r' > r then r' else r)<n:=by split <;> omega
theorem Cf{α β:Type}{A:List α}{B:List β}{a:α}{b:β}(ha:A[j]? = some a)(hb:B[j]? = some b):(A.take (j+1)).zip (B.take (j+1)) =(A.take j).zip (B.take j) ++ [(a,b)]:=by
 have h1:=(QH.mp ha).1;have h2:=(QH.mp hb).1;rw[S8,S8,ha,hb,List.zip_append (by rw[Ti,Ti];omega)]
 rfl
theorem qV.im{ks:List Kd}{hs:List Hd}{r:Str}{sc:Sc}{B D:Nat}{arms:List Arm}{ms:List Mk1}(h:qV ks hs r sc B D arms ms):T.ims (arms.map tA)=true:=by
 have go:∀(l:List T),(∀ t∈l,t.im=true)->T.ims l=true:=by
  intro l
  induction l with
  | nil=>intro _;rfl
  | cons t r ih=>intro h;show(t.im&&T.ims r)=true;rw[h t SG,ih fun t ht=>h t (SK _ ht)];rfl
 refine go _ fun t ht=>?_
 obtain⟨a,ha,rfl⟩:=S5.mp ht;obtain⟨i,hi,e⟩:=Tz ha;have z:=(h.ok i a _ (by rw[Es hi,e]) (Es (by rw[<- h.ln];exact hi))).sn.im
 show(true&&(T.ims (a.2.1.map .s)&&(a.2.2.1.im&&true)))=true;rw[z,aL];rfl
theorem wt{l:List Str}:Dep (n+1) (.t (l.map .s)):=Dep.t fun x hx=>by
 obtain⟨z,_,rfl⟩:=S5.mp hx;exact Dep.s
theorem jr:∀ x∈([]:List T),Dep n x:=fun _ z=>nomatch z
theorem cV{t:T}{ts:List T}(h:Dep n t)(hs:∀ x∈ts,Dep n x):∀ x∈t::ts,Dep n x:=fun x hx=>(S1.mp hx).elim (fun e=>e▸h) (hs x)
theorem pK:Dep (n+1) (.t [.s "give",.s x]):=Dep.t (cV Dep.s (cV Dep.s jr))
theorem BU{w:Str}{c:Int}{b:T}(h:Dep D b):Dep (D+1) (.t [.s w,.i c,b]):=Dep.t (cV Dep.s (cV Dep.i (cV h jr)))
variable{y:Str}
theorem Fe{w:Str}{b:T}(h:Dep D b):Dep (D+1) (.t [.s w,.s x,.s y,b]):=Dep.t (cV Dep.s (cV Dep.s (cV Dep.s (cV h jr))))
theorem k9{w:Str}{b:T}(h:Dep D b)(h1:1<=D):Dep (D+1) (.t [.s w,.s x,.s y,.t (ns.map .s),b]):=by
 obtain⟨k,rfl⟩:∃ k,D=k+1:=⟨D - 1,by omega⟩
 exact Dep.t (cV Dep.s (cV Dep.s (cV Dep.s (cV wt (cV h jr)))))
theorem qV.dep(h:qV ks hs r sc B D arms ms)(h1:1<=D):Dep (D+3) (.t [.s "case",.s x,.t (arms.map tA)]):=by
 obtain⟨k,rfl⟩:∃ k,D=k+1:=⟨D - 1,by omega⟩
 refine Dep.t (cV Dep.s (cV Dep.s (cV (Dep.t fun t ht=>?_) jr)))
 obtain⟨a,ha,rfl⟩:=S5.mp ht;obtain⟨i,hi,e⟩:=Tz ha;exact Dep.t (cV Dep.s (cV wt (cV (h.ok i a _ (by rw[Es hi,e]) (Es (by rw[<- h.ln];exact hi))).dp jr)))
abbrev Fn:=Hd×T×Nat
def tF(f:Fn):T:=.t [.s f.1.1,.t (f.1.2.1.map tP),.s f.1.2.2,f.2.1]
structure Prog(ks:List Kd)(fs:List Fn):Prop where
 gk:cF ks
 l8:fs.length<=8
 hn:(fs.map (·.1.1)).Nodup
 pk:∀ f∈fs,f.1.2.1.length<=4/\(∀ p∈f.1.2.1,p.2∈ks.map (·.1))/\(f.1.2.1.map (·.1)).Nodup/\f.1.2.2∈ks.map (·.1)
 sn:∀ f∈fs,Snd ks (fs.map (·.1)) f.1.2.2 f.2.2 f.1.2.1 f.2.1/\f.2.2<=50000
 dp:∀ f∈fs,Dep 92 f.2.1
theorem Ap.p(g:Ap ks):cF ks:=⟨g.k1,by have:=g.k2;omega,g.nd,g.mn,g.ne,g.fl⟩
def Bb:PSp:=fun ts Q=>∃ m u:Int,ts = [.cZ,.i m,.i u]/\0<m/\m<=8/\0<=u/\u<=30/\∀ ks fs,Prog ks fs->Q (.t [tKs ks,.t (fs.map tF)])
def jW(o:Nat)(f:Nat):Nat:=if o=0 then f else 39 - f
structure rR(ks:List Kd)(ws:List Str)(o:Nat)(hs:List Hd)(i:Nat):Prop where
 ln:hs.length=i
 nm:hs.map (fun h=>some h.1) =(TR i).map fun f=>ws[jW o f]?
 hp:∀ h∈hs,h.2.1.length<=4/\(∀ p∈h.2.1,p.2∈ks.map (·.1))/\h.2.1.map (·.1)=ws.take h.2.1.length/\h.2.2∈ks.map (·.1)
theorem rR.snoc{o:Nat}{i:Nat}{h:Hd}(H:rR ks ws o hs i)(hn:ws[jW o i]? = some h.1)(hp:h.2.1.length<=4/\(∀ p∈h.2.1,p.2∈ks.map (·.1))/\h.2.1.map (·.1)=ws.take h.2.1.length/\h.2.2∈ks.map (·.1)):rR ks ws o (hs ++ [h]) (i+1) where
 ln:=by simp[H.ln]
 nm:=by rw[S9,H.nm,List.range_succ,S9];simp[hn]
 hp:=fun h' hm=>by
  rcases SY.mp hm with z|z
  ·exact H.hp h' z
  ·rw[qr.mp z];exact hp
theorem rR.nd{o:Nat}{i:Nat}(H:rR ks ws o hs i)(hl:ws.length=40)(wn:ws.Nodup)(hi:i<=8):(hs.map (·.1)).Nodup:=by
 have e:(hs.map (·.1)).map some =(TR i).map fun f=>ws[jW o f]?:=by rw[<- H.nm,TQ];rfl
 have n:((TR i).map fun f=>ws[jW o f]?).Nodup:=by
  refine UY.mpr (List.Pairwise.imp_of_mem (fun{a b} ha hb hne z=>?_) (Wk (n:=i)))
  have ha:=Ux.mp ha;have hb:=Ux.mp hb;have l1:jW o a<ws.length:=by unfold jW;split <;> omega
  have e2:ws[jW o a]? = ws[jW o b]?:=z
  have:=(Wg l1 wn).mp e2
  unfold jW at this
  split at this <;> omega
 rw[<- e]at n;exact(UY.mp n).imp fun hne z=>hne (by rw[z])
variable{N:Nat}{u:Int}{fm:Int}{sc':Sc}{os:List (Option Str)}{xs:List (Fn×List (Option Str))}{done:List Str}
section
variable{P:Program}{w:World}{K:W.Frag}{mg:Str->Option Value}{base:Heap}{a:Adr}
theorem gO(T:Txt K mg a):a8 P w K mg base CX0 1 a.mw a.Fo ["_law_deal_here","_law_many"] CB:=by
 refine T.a6.F.ok nF (fun vs H Q E h=>?_) (fun cdv A outer s H vs Q E hr h=>?_)
 ·obtain⟨d,l,m,rfl,_⟩:=h;rfl
 ·obtain⟨d,l,m,rfl,⟨s0,n0,ls0,D0⟩,m0,m1,k⟩:=h;have hu:=bG hr;refine⟨_,((bQ (vI PassesOwn.never (PW.pt (DO (kJ JW (gL hu (pv 0) cO (fun _ _=>rfl)) br (bK _)) (zt (kJ zF (oI lr (by rfl) T.cX PySem.boot_len (a9 (gL hu (pv 0) cO (fun _ _=>rfl)) c9)) br (bK _)))))
 (gJ (nH hu (pv 0) cO (xJ PySem.F.plainAttrs_list PySem.F.slot_list_pop PySem.F.type_list_pop Ew (gL hu (pv 0) cO (fun _ _=>rfl))) rfl)))
 (bQ (iF (i:=2) nF.nd rfl (Or.inl rfl) (gL hu (pv 0) cO (fun _ _=>rfl)))
 (bQ (JR (kJ zF (pv 2) br (bK _))
 (bQ (nH hu (pv 0) cO (cg vR (pv 2) (pv 1)) rfl)
 (gJ (lV (cg gN (pv 2) (pv 1)))))
 zw)
 (bQ (iF (i:=3) nF.nd rfl (Or.inl rfl) (cg gN (cg l5 (cg jV (gL hu (pv 0) cO (fun _ _=>rfl)) br) br) br))
 (bQ (nH hu (pv 0) cO (cg gN (cg l5 (cg jV (pv 3) br) br) br) rfl)
 (bQ (iF (i:=4) nF.nd rfl (Or.inl rfl) (cg gN (cg jV (gL hu (pv 0) cO (fun _ _=>rfl)) (gL hu (pv 0) cO (fun _ _=>rfl))) br))
 (gJ (lV (cg gN (cg l5 (cg jV (cg gN (cg jV (pv 3) (pv 3)) br) br) (pv 4)) (pv 1))))))))))),?_⟩
  refine AK (fun c σ H1=>∃ s n ls,σ = [some (.ref d),some (.int m),none,none,none]/\cz H1 d l s n ls/\Kp d l H H1/\c=ls.length) ⟨s0,n0,ls0,rfl,D0,Kp.refl,rfl⟩ ?_ ?_
  ·rintro c σ H1 ⟨s1,n1,ls,rfl,D,K1,rfl⟩
   refine⟨_,rfl,d,_,rfl,D.O3,?_⟩;refine⟨_,rfl,_,_,rfl,rfl,_,rfl,?_⟩;refine aB (fun h1=>?_) (fun h1=>?_)
   ·have h1:0<n1:=of_decide_eq_true h1;have q0:0<=n1 / m:=Int.ediv_nonneg (by omega) (by omega)
    refine⟨_,rfl,_,rfl,_,_,rfl,rfl,⟨m0,m1⟩,_,rfl,d,_,rfl,D.NN,?_⟩;refine⟨_,rfl,_,rfl,_,_,rfl,rfl,m0,?_⟩;exact k _ _ (mod_lt m0).1 (mod_lt m0).2 ⟨_,_,_,D.num q0⟩ K1.Kn
   ·have b1:=mod_lt (x:=s1*48271+7919) (m:=2147483647) (by decide)
    refine⟨_,rfl,d,_,rfl,D.EZ,_,_,rfl,rfl,.inr ⟨by decide,by decide⟩,_,_,rfl,rfl,_,_,rfl,rfl,(by show(0:Int)<2147483647;decide),?_⟩
    have b2:=mod_lt (x:=(s1*48271+7919) % 2147483647*40692+104729) (m:=2147483399) (by decide)
    refine⟨_,rfl,_,_,rfl,rfl,.inr ⟨by decide,by decide⟩,_,_,rfl,rfl,_,_,rfl,rfl,(by show(0:Int)<2147483399;decide),_,rfl,d,_,rfl,D.NL,?_⟩
    have D2:=D.Rk (m:=((s1*48271+7919) % 2147483647*40692+104729) % 2147483399) b2.1 (by omega)
    refine⟨_,rfl,d,_,rfl,D2.EZ,_,rfl,d,_,rfl,D2.EZ,_,_,rfl,rfl,.inl ⟨by omega,by omega⟩,_,_,rfl,rfl,(by show(0:Int)<2147483563;decide),?_⟩
    have b4:=mod_lt (x:=(s1*48271+7919) % 2147483647*((s1*48271+7919) % 2147483647)) (m:=2147483629) (by decide)
    refine⟨_,rfl,_,rfl,_,_,rfl,rfl,.inl ⟨by omega,by omega⟩,_,_,rfl,rfl,(by show(0:Int)<2147483629;decide),_,_,rfl,rfl,.inr ⟨by decide,by decide⟩,_,rfl,_,_,rfl,rfl,_,rfl,_,_,rfl,rfl,m0,?_⟩
    exact k _ _ (mod_lt m0).1 (mod_lt m0).2 ⟨_,_,_,D2⟩ K1.Kn
  ·rintro c σ H1 ⟨s1,n1,ls,rfl,D,K1,rfl⟩ hx
   refine⟨_,rfl,d,_,rfl,D.O3,rfl,_,rfl,?_⟩;refine aB (fun h1=>?_) (fun h1=>hx)
   refine⟨_,rfl,d,_,rfl,D.Ka,l,_,rfl,.inl (SqL.of D.hl),_,_,rfl,rfl,_,rfl,?_⟩;refine aB (fun h2=>?_) (fun h2=>hx)
   have h2:(0:Int)<((ls.map V.int).length:Int):=of_decide_eq_true h2;rcases VP ls with rfl |⟨ls',x,rfl⟩
   ·simp at h2
   ·have hl':H1 l=some (.lst (ls'.map V.int ++ [.int x])):=by simpa using D.hl
    refine⟨fun σ' H'=>∃ s n ls2,σ' = [some (.ref d),some (.int m),none,none,none]/\cz H' d l s n ls2/\Kp d l H H'/\ls2.length<(ls' ++ [x]).length,fun σ' H' ⟨s2,n2,ls2,e,D2,K2,h⟩=>⟨ls2.length,by simpa using h,s2,n2,ls2,e,D2,K2,rfl⟩,?_⟩
    have x0:0<=x:=D.l0 x (by simp)
    have D2:=D.list (ls':=ls') fun y hy=>D.l0 y (by simp[hy])
    refine⟨_,rfl,d,_,rfl,D.Ka,.inl ⟨rfl,_,SqL.of hl'⟩,l,_,.int x,rfl,rfl,hl',(by simp),?_⟩
    rw[VS];refine⟨_,rfl,d,_,rfl,D2.NN,?_⟩;exact⟨_,_,ls',rfl,D2.num x0,(K1.Rf).Kn,by simp⟩
theorem HX(T:Txt K mg a):a8 P w K mg base CX0 1 a.mx a.Ft ["_law_script","_law_base"] (sf K):=by
 refine T.qy.F.ok kD (fun vs H Q E h=>?_) (fun cdv A outer s H vs Q E hr h=>?_)
 ·obtain⟨a,ns,b,rfl,_⟩:=h;rfl
 ·obtain⟨p0,ns,b,rfl,hS,hlen,b0,b1,k⟩:=h;have hu:=bG hr;refine⟨_,((bQ (zx (i:=2) kD.nd rfl (Or.inl rfl) rfl (nJ (vL za (pv 0) (sT (pv 1)) (sT br))) (N':=["_law_cell"]) (.own rfl .nil) (fun _ _ _ _ _=>⟨(kR (i:=0) (show(["_law_cell"]:List Str).Nodup from by decide +kernel) rfl (Or.inl rfl)),zv,(oI (jt rfl) (by rfl) T.Ak (by kernel_rfl) (a9 (pv 0) (a9 (cg xK br (pv 0)) c9)))⟩))
 (bQ (iF (i:=3) kD.nd rfl (Or.inl rfl) (cg l5 br (pv 1)))
 (bQ (DS PassesOwn.never rfl (nJ (pv 2)) (kR (i:=4) kD.nd rfl (Or.inl rfl))
 (gJ (iF (i:=3) kD.nd rfl (Or.inl rfl) (cg gN (cg l5 (cg jV (pv 3) br) (cg gN (pv 4) br)) br))))
 (gJ (lV (zA (kL cO (pv 3) (kL cO br (kL cO (oH rfl rfl T.pY rfl T.pX (zB rfl (nJ (pv 2)) (N':=["_law_cell"]) (.own rfl .nil) (fun _ _ _ _ _=>⟨(kR (i:=0) (show(["_law_cell"]:List Str).Nodup from by decide +kernel) rfl (Or.inl rfl)),(zu (kJ N4 (pv 0) (cg Lz br br) (bK _))),(pv 0)⟩))) zy))) rfl rfl (by intro z;cases z) (by decide)))))))),?_⟩
  obtain⟨cs,ecs,lcs⟩:=Fx ns (some b) (some 63);refine⟨_,rfl,_,rfl,_,rfl,_,rfl,p0,_,rfl,hS,fun p hp=>⟨p,rfl,⟨_,SqL.of ax⟩,?_⟩⟩
  rw[ecs];have s1:ko H (upd H p (.lst (cs.map V.int))):=(ko.refl H).new hp;refine rM (K:=K) (a:=p) (xs:=cs.map V.int) (fun i ys σ' H'=>∃ zs:List Int,ys=zs.map V.int/\(∀ z∈zs,0<=z)/\zs.length=i/\(∃ o,σ' = [o])/\H'=upd H p (.lst (cs.map V.int))) ⟨[],rfl,by simp,rfl,⟨_,rfl⟩,rfl⟩ ?_ ?_ ?_
  ·rintro i ys σ' H' hi ⟨zs,rfl,_,hz,_,rfl⟩
   refine⟨SqL.of ax,?_⟩;rw[j3]at hi ⊢;exact ay (by omega)
  ·rintro i x ys σ' H' hi ⟨zs,rfl,z0,hz,⟨o,rfl⟩,rfl⟩
   obtain⟨c,rfl⟩:=int_at hi;refine IK ?_;refine⟨_,rfl,_,rfl,_,_,rfl,rfl,_,_,rfl,?_⟩;refine⟨zs ++ [if 0 - c > c then 0 - c else c],by simp,?_,by simp[hz],⟨_,rfl⟩,rfl⟩
   intro z hz';rcases SY.mp hz' with h|h
   ·exact z0 z h
   ·rw[qr.mp h]
    split <;> omega
  ·rintro ys σ' H' ⟨zs,rfl,z0,hz,_,rfl⟩ D hD
   have s2:ko H (upd (upd H p (.lst (cs.map V.int))) D (.lst (zs.map V.int))):=s1.new hD;have hcD:(upd (upd H p (.lst (cs.map V.int))) D (.lst (zs.map V.int))) D=some (.lst (zs.map V.int)):=ax
   generalize upd (upd H p (.lst (cs.map V.int))) D (.lst (zs.map V.int))=H2 at s2 hcD ⊢
   refine⟨_,rfl,_,_,rfl,rfl,?_⟩;refine⟨_,rfl,D,rfl,⟨_,SqL.of hcD⟩,E5 (K:=K) (a:=D) (xs:=zs.map V.int) (fun i σ' H'=>∃(n:Int)(o:Option V),σ' = [some (.ref p0),some (.int b),some (.ref D),some (.int n),o]/\0<=n/\n<2147483647/\H2=H')
    ⟨_,_,rfl,by omega,by omega,rfl⟩ (fun i σ' H' _ ⟨_,_,_,_,_,e⟩=>by rw[<- e];exact SqL.of hcD) ?_ ?_⟩
   ·rintro i y σ' H' hi ⟨n,o,rfl,n0,n1,rfl⟩
    obtain⟨z,rfl⟩:=int_at hi;refine⟨_,rfl,_,_,rfl,rfl,.inr ⟨by decide,by decide⟩,_,rfl,_,_,rfl,rfl,(by show(0:Int)<2147483629;decide),_,_,rfl,rfl,_,_,rfl,rfl,(by show(0:Int)<2147483647;decide),?_⟩
    exact⟨_,_,rfl,(mod_lt (by decide)).1,(mod_lt (by decide)).2,rfl⟩
   ·rintro σ' H' ⟨n,o,rfl,n0,n1',rfl⟩
    intro pd hpd;have Me:(upd H2 pd (.dK [])) D=some (.lst (zs.map V.int)):=by rw[ao (aS hcD hpd)];exact hcD
    have s3:ko H (upd H2 pd (.dK [])):=s2.new hpd;have Mb:(upd H2 pd (.dK [])) pd=some (.dK []):=ax;have fpd:H pd=none:=s2.free hpd
    generalize upd H2 pd (.dK [])=H3 at Me s3 Mb ⊢
    refine⟨_,rfl,_,rfl,D,rfl,⟨_,SqL.of Me⟩,rM (K:=K) (a:=D) (xs:=zs.map V.int) (fun i ys σ' H'=>∃ ws:List Int,ys=ws.map V.int/\(∀ z∈ws,0<=z)/\ws.length<=i/\(∃ o,σ' = [o])/\H3=H') ⟨[],rfl,by simp,S3 _,⟨_,rfl⟩,rfl⟩ ?_ ?_ ?_⟩
    ·rintro i ys σ' H' hi ⟨ws,rfl,_,hz',_,rfl⟩
     refine⟨SqL.of Me,?_⟩;rw[j3]at hi ⊢;rw[j3]at hz;exact ay (by omega)
    ·rintro i x ys σ' H' hi ⟨ws,rfl,w0,hz',⟨o,rfl⟩,rfl⟩
     obtain⟨c,rfl,hc⟩:=IB hi;refine⟨_,rfl,_,_,rfl,rfl,⟨by decide,by decide,by decide⟩,_,_,rfl,rfl,_,rfl,?_⟩
     refine aB (fun h1=>?_) (fun h1=>?_)
     ·refine⟨_,rfl,ws ++ [c],by simp,?_,by simp;omega,⟨_,rfl⟩,rfl⟩
      intro z hz';rcases SY.mp hz' with h|h
      ·exact w0 z h
      ·rw[qr.mp h];exact z0 c hc
     ·exact⟨ws,rfl,w0,by omega,⟨_,rfl⟩,rfl⟩
    ·rintro ys σ' H' ⟨ws,rfl,w0,hz',_,rfl⟩ D2 hD2
     refine⟨D2,_,rfl,SqL.of ax,fun q hq=>?_⟩
     have n1:pd≠D2:=aS Mb hD2;have e1:(upd H3 D2 (.lst (ws.map V.int))) pd=some (.dK []):=by rw[ao n1];exact Mb
     have n2:pd≠q:=aS e1 hq;have s4:ko H (upd (upd H3 D2 (.lst (ws.map V.int))) q (.lst ((ws.map V.int).reverse))):=(s3.new hD2).new hq;refine⟨by rw[ao n2];exact e1,[(.inr "seed",.int n),(.inr "number",.int 0),(.inr "left",.ref q)],rfl,(by show 3<=15;decide),?_⟩
     rw[show da [] [((.inr "seed":Key),V.int n),(.inr "number",.int 0),(.inr "left",.ref q)]=dk n 0 q from by kernel_rfl]
     refine k pd q _ fpd ((s3.new hD2).free hq) ⟨n,0,ws.reverse,ax,?_,n0,n1',Uc _,?_⟩ ?_
     ·rw[ao n2.symm,ax,List.map_reverse]
     ·intro x hx;exact w0 x (by simpa using hx)
     ·intro c o hc
      have:c≠pd:=aS hc fpd
      rw[ao this];exact s4 c o hc
theorem kT(T:Txt K mg a):a8 P w K mg base CX0 1 a.cT a.mY ["kinds","kind"] (spQ K DW):=by
 refine T.ja.F.okQ gG (fun ts Q h=>?_) (fun _ _ _ _ _ _ hr=>?_)
 ·obtain⟨ks,k,rfl,_⟩:=h;rfl
 ·have hu:=bG hr;refine⟨_,_,((ag (bp (g:=(Tg.tp [2,3])) PassesOwn.never rfl (gH (QPE.f (qv 0))) (c8 (a7 2 gG.nd) (a7 3 gG.nd))
 (aj (aX (bD hu (qv 2) (qv 1))
 (aj (aI (QPE.f (qv 3))))
 aD)))
 (aj (aI (av ai))))),fun ts Q h=>?_⟩
  obtain⟨ks,k,rfl,hq⟩:=h;refine⟨j8 ks,fun i q=>(∃ o2 o3,q = [.r (tKs ks),.r (.s k),o2,o3])/\∀(j:Nat)(y:Kd),j<i->ks[j]? = some y->y.1≠k,⟨⟨_,_,rfl⟩,fun j y hj=>absurd hj (Nat.not_lt_zero _)⟩,?_,?_⟩
  ·rintro i x q hx ⟨⟨o2,o3,rfl⟩,hno⟩
   rw[L7]at hx;obtain⟨kk,hk,rfl⟩:=QX.mp hx;refine⟨_,rfl,?_⟩;refine⟨rfl,?_⟩;refine aB (fun g1=>?_) (fun g1=>?_)
   ·refine⟨mj _,?_⟩;rw[zL hk (V.str.inj (of_decide_eq_true g1)) hno]at hq;exact hq
   ·refine⟨⟨_,_,rfl⟩,fun j y hj hy=>?_⟩
    by_cases e:j=i
    ·subst e;rw[hk]at hy;cases hy;exact fun z=>g1 (decide_eq_true (congrArg V.str z))
    ·exact hno j y (by omega) hy
  ·rintro q ⟨⟨o2,o3,rfl⟩,hno⟩
   rw[Ik fun j y hy=>hno j y (by have:=(QH.mp hy).1;simp;omega) hy]at hq
   exact hq
theorem Ea(T:Txt K mg a):a8 P w K mg base CX0 2 a.jj a.z8 ["_law_deal_here","_law_many"] (spQ K Ht):=by
 have aT:=kc (@gO P w K mg base a T);refine T.AB.F.okQ bP (fun ts Q h=>?_) (fun _ _ _ _ _ _ hr=>?_)
 ·obtain⟨m,rfl,_⟩:=h;rfl
 ·have hu:=bG hr;refine⟨_,_,((ag (aC 2 bP.nd aJ)
 (ag (aC 3 bP.nd (Hi (QPF.w aJ) (QPF.w (bj rfl (lR rfl T.gT (af (QPF.w (aP aT hr T.a6 (af (qv 0) (af ah az)))) az)) (N':=["_law_k","_law_letters","_law_deal_here"]) (.own rfl (.got (i:=2) rfl rfl (.inl rfl) (.got (i:=0) rfl rfl (.inl rfl) .nil))) (bZ (g:=(Tg.nm 0)) (fun _ _ _ _ _=>⟨(cG 0),(QPE.f (aq (qv 1) (QPF.w (aP aT hr T.a6 (af (qv 2) (af ah az))))))⟩))))))
 (ag (aC 4 bP.nd (aP aT hr T.a6 (af (qv 0) (af (QPF.w (bq (QPF.w (b8 T.cX (af (qv 3) az))) ah)) az))))
 (ag (aC 5 bP.nd (aP aT hr T.a6 (af (qv 0) (af ah az))))
 (ag (aC 6 bP.nd (aG ai))
 (ag (bp (g:=(Tg.nm 7)) PassesOwn.never rfl (jf rfl T.gT (af (qv 1) az)) (a7 7 bP.nd)
 (ag (aC 8 bP.nd (QPE.f (aq (qv 2) (QPF.w (Dz (QPF.w (bq (qv 5) (QPF.w (oA ah (qv 7))))) ah)))))
 (ag (aC 9 bP.nd (bq (QPF.w (bq (QPF.w (bq (QPF.w (bq (QPF.w (dO (qv 3) fv (fu (qv 4)))) (qv 8))) (QPF.w (dO (qv 3) (fu (qv 4)) fv)))) (QPF.w (oA (QPF.w aJ) (QPF.w (Dz (qv 7) ah)))))) (QPF.w (oA (QPF.w aJ) (QPF.w (Hk (qv 7) ah))))))
 (ag (aX (bE (lZ rfl) iw rfl (qv 9) (QPF.w (av (jg (by rfl)))))
 (aj (aC 9 bP.nd (bq (qv 9) (QPF.w aJ))))
 aD)
 (ag (aX (bE (lZ rfl) iw rfl (qv 9) (QPF.w (av (jg (by rfl)))))
 (aj (aC 9 bP.nd (bq (qv 9) (QPF.w aJ))))
 aD)
 (aj (aY (i:=6) (pv 6) (QPE.f (qv 9)))))))))
 (ag (aC 10 bP.nd (aG (jg (by rfl))))
 (ag (aC 10 bP.nd (bq (qv 10) (QPF.w (aG (jg (by rfl))))))
 (ag (aC 9 bP.nd (QPE.f (aq (qv 10) (QPF.w (aP aT hr T.a6 (af (qv 0) (af ah az)))))))
 (ag (aX (QPW.pt (xt (bD hu (QPF.w (aP aT hr T.a6 (af (qv 0) (af ah az)))) ah) (sL (bE (rC rfl) iw rfl (qv 9) (qv 6)))))
 (aj (G9 (i:=6) (pv 6) (QPF.w (aP aT hr T.a6 (af (qv 0) (af (qv 1) az)))) (qv 9)))
 aD)
 (aj (eR (i:=6) (pv 6)))))))))))))),fun ts Q h=>?_⟩
  obtain⟨m,rfl,m0,m1,hq⟩:=h;refine⟨by decide,by decide,fun n n0 n1=>⟨by omega,by omega,ay (by rw[dC];omega),fun i ys=>∃ cs:List Nat,ys=cs.map (fun c=>.s ⟨#[c]⟩)/\cs.length=i,⟨[],rfl,rfl⟩,?_,?_⟩⟩
  ·rintro i x ys hx ⟨cs,rfl,hc⟩
   obtain⟨rfl,hi⟩:=jQ hx;refine⟨_,rfl,by decide,by decide,fun r r0 r1=>⟨by decide +kernel,_,zM r0 r1,rfl,?_⟩⟩
   exact⟨cs ++ [m9 r.toNat],by simp,by simp[hc]⟩
  ·rintro ys ⟨cs,rfl,hc⟩
   rw[dC]at hc;have e2:((cs.map (fun c=>(⟨#[c]⟩:Str))).map (·.length)).sum=cs.length:=by
    clear hc
    induction cs with
    | nil=>rfl
    | cons c cs ih=>simp only[Tx,Vh,Te,ih,show(⟨#[c]⟩:Str).length=1 from rfl];omega
   refine⟨cs.map (fun c=>(⟨#[c]⟩:Str)),?_,?_,?_⟩
   ·rw[<- Gw,TQ];rfl
   ·rw[e2,show(Str.ofString "").length=0 from by decide +kernel];omega
   have z:=PySem.size_glued (Str.ofString "") (cs.map (fun c=>(⟨#[c]⟩:Str)))
   rw[e2,show(Str.ofString "").length=0 from by decide +kernel]at z
   have lz:(Txt.join (Str.ofString "") (cs.map (fun c=>(⟨#[c]⟩:Str)))).length<=5:=by
    show(Builtin.Str.glued _ _).length<=5;omega
   generalize Txt.join (Str.ofString "") (cs.map (fun c=>(⟨#[c]⟩:Str)))=core at lz ⊢
   refine⟨bo (by omega),by omega,by omega,fun at_ a0 a1=>⟨by decide,by decide,fun tn t0 t1=>?_⟩⟩
   have lc1:(Txt.slice core none (some at_)).length<=5:=Tn (Txt.slice_le _ _ _) lz;have lc2:(Txt.slice core (some at_) none).length<=5:=Tn (Txt.slice_le _ _ _) lz;have lx:(Str.ofString "x").length=1:=by decide +kernel
   have ly:(Str.ofString "y").length=1:=by decide +kernel
   have lq:(Str.ofString "q").length=1:=by decide +kernel
   refine⟨by omega,by omega,fun i q=>(∃ o7 o8 o9 L,q = [.r .cZ,.r (.i m),.o (.s tQ),.o (.s core),.o (.i at_),.o (.i tn),.o (.l L),o7,o8,o9,.no]/\L =((TR i).map (wordOf kept (Txt.slice core none (some at_)) (Txt.slice core (some at_) none) tn.toNat)).map .s),⟨_,_,_,_,rfl,rfl⟩,?_,?_⟩
   ·rintro i x q hx ⟨o7,o8,o9,L,rfl,rfl⟩
    obtain⟨rfl,hi⟩:=jQ hx;have hi:i<52:=by omega
    have e1:∀ c:Nat,(⟨#[c]⟩:Str).length=1:=fun _=>rfl
    have eL:m9 (((tn+7*(0+(i:Int))) % 26).toNat)=m9 (tn.toNat+7*i):=by
     have ht:tn+7*(0+(i:Int)) =((tn.toNat+7*i:Nat):Int):=by rw[Vn,Int.natCast_add,VM,Up t0];rfl
     rw[ht];show 97+(tn.toNat+7*i) % 26 % 26=97+(tn.toNat+7*i) % 26;rw[Nat.mod_mod]
    have r1:=gj "x" ((0+(i:Int)) % 2).toNat;have r2:=gj "y" ((0+(i:Int)) / 26).toNat;rw[lx]at r1;rw[ly]at r2;refine⟨_,rfl,.inl ⟨by omega,by omega⟩,(by show(0:Int)<26;decide),(by decide +kernel),_,zM (mod_lt (by decide)).1 (mod_lt (by decide)).2,rfl,?_⟩
    refine⟨bo (by omega),bo (by rw[e1];omega),bo (by omega),bo (by rw[Str.length_append,e1];omega),(by show(0:Int)<2;decide),by omega,by omega,by omega,bo (by rw[Str.length_append,Str.length_append,e1];omega),⟨by decide,by decide⟩,by omega,by omega,by omega,bo (by rw[Str.length_append,Str.length_append,Str.length_append,e1];omega),?_⟩
    have eW:Txt.slice core none (some at_)++⟨#[m9 (((tn+7*(0+(i:Int))) % 26).toNat)]⟩++Txt.slice core (some at_) none++iE "x" ((0+(i:Int)) % 2).toNat++iE "y" ((0+(i:Int)) / 26).toNat=cy (Txt.slice core none (some at_)) (Txt.slice core (some at_) none) tn.toNat i:=by
     unfold cy;rw[eL,show((0+(i:Int)) % 2).toNat=i % 2 from by rw[Vn];rfl,show((0+(i:Int)) / 26).toNat=i / 26 from by rw[Vn];rfl]
    have lW:=jv (Txt.slice core none (some at_)) (Txt.slice core (some at_) none) tn.toNat i;rw[eW];have snoc:∀ z:Str,z=wordOf kept (Txt.slice core none (some at_)) (Txt.slice core (some at_) none) tn.toNat i ->
      ((TR i).map (wordOf kept (Txt.slice core none (some at_)) (Txt.slice core (some at_) none) tn.toNat)).map L2.T.s ++ [L2.T.s z] =((TR (i+1)).map (wordOf kept (Txt.slice core none (some at_)) (Txt.slice core (some at_) none) tn.toNat)).map L2.T.s:=fun z hz=>by
     subst hz;rw[List.range_succ];simp
    have ln:(((TR i).map (wordOf kept (Txt.slice core none (some at_)) (Txt.slice core (some at_) none) tn.toNat)).map L2.T.s).length<S4:=ay (by simp;omega)
    refine⟨by rfl,aB (fun g1=>?_) (fun g1=>?_)⟩
    ·have g1:inV (.str (cy (Txt.slice core none (some at_)) (Txt.slice core (some at_) none) tn.toNat i)) (wa.map V.str)=true:=by rw[<- de];exact g1
     refine⟨bo (by rw[lq];omega),by rfl,aB (fun g2=>?_) (fun _=>?_)⟩
     ·have g2:inT (.s (cy (Txt.slice core none (some at_)) (Txt.slice core (some at_) none) tn.toNat i++("q":Str))) (jC.map L2.T.s)=true:=g2;rw[de,LL]at g2;cases g2
     exact⟨ln,rfl,_,_,_,_,rfl,snoc (cy (Txt.slice core none (some at_)) (Txt.slice core (some at_) none) tn.toNat i++("q":Str)) (by unfold wordOf;rw[j6,g1,Bool.true_or,if_pos rfl])⟩
    ·have g1:inV (.str (cy (Txt.slice core none (some at_)) (Txt.slice core (some at_) none) tn.toNat i)) (wa.map V.str)=false:=by
      cases e:inV (.str (cy (Txt.slice core none (some at_)) (Txt.slice core (some at_) none) tn.toNat i)) (wa.map V.str)with
      | false=>rfl
      | true=>rw[<- de]at e;exact absurd e g1
     refine⟨by rfl,aB (fun g2=>?_) (fun g2=>?_)⟩
     ·have g2:inV (.str (cy (Txt.slice core none (some at_)) (Txt.slice core (some at_) none) tn.toNat i)) (jC.map V.str)=true:=by rw[<- de];exact g2
      exact⟨bo (by rw[lq];omega),ln,rfl,_,_,_,_,rfl,snoc (cy (Txt.slice core none (some at_)) (Txt.slice core (some at_) none) tn.toNat i++("q":Str)) (by unfold wordOf;rw[j6,g1,g2,VZ,if_pos rfl])⟩
     ·have g2:inV (.str (cy (Txt.slice core none (some at_)) (Txt.slice core (some at_) none) tn.toNat i)) (jC.map V.str)=false:=by
       cases e:inV (.str (cy (Txt.slice core none (some at_)) (Txt.slice core (some at_) none) tn.toNat i)) (jC.map V.str)with
       | false=>rfl
       | true=>rw[<- de]at e;exact absurd e g2
      exact⟨ln,rfl,_,_,_,_,rfl,snoc (cy (Txt.slice core none (some at_)) (Txt.slice core (some at_) none) tn.toNat i) (by unfold wordOf;rw[j6,g1,g2,VZ,if_neg (by decide),Str.append_empty])⟩
   ·rintro q ⟨o7,o8,o9,L,rfl,rfl⟩
    rw[dC];have nd:((TR m.toNat).map (wordOf kept (Txt.slice core none (some at_)) (Txt.slice core (some at_) none) tn.toNat)).Nodup:=nodup_range fun i j hi hj hne=>AJ (by omega) (by omega) hne
    have wl:∀ w∈(TR m.toNat).map (wordOf kept (Txt.slice core none (some at_)) (Txt.slice core (some at_) none) tn.toNat),1<=w.length/\w.length<=20:=fun w hw=>by
     obtain⟨i,hi,rfl⟩:=S5.mp hw;exact wO lc1 lc2 (by have:=Ux.mp hi;omega)
    have ll:((TR m.toNat).map (wordOf kept (Txt.slice core none (some at_)) (Txt.slice core (some at_) none) tn.toNat)).length=m.toNat:=by simp
    generalize(TR m.toNat).map (wordOf kept (Txt.slice core none (some at_)) (Txt.slice core (some at_) none) tn.toNat)=ws at nd wl ll
    refine⟨bo (by decide),by rfl,by rfl,by decide,by decide,fun r r0 r1=>?_⟩
    obtain⟨wd,ew,hm⟩:=Jo (ws:=near) r0 r1;refine⟨_,ew,rfl,by decide,by decide,fun r3 _ _=>⟨rfl,?_⟩⟩
    have done:Q (.l (ws.map .s)):=hq ws (by omega) nd wl
    refine aB (fun _=>?_) (fun _=>RL done)
    refine⟨by rw[gq];rfl,aB (fun h2=>?_) (fun _=>done)⟩
    have hni:wd ∉ ws:=IC (by rw[<- de];simpa using h2)
    refine⟨m0,by omega,fun r4 r40 r41=>⟨r4.toNat,?_,aL ws,rfl,?_⟩⟩
    ·unfold ixN;rw[if_pos r40,if_pos (by rw[j3];omega)]
    ·have z:=hq (ws.set r4.toNat wd) (by rw[Ue];omega) (Bw nd hni) fun w hw=>by
      rcases Vv hw with z|z
      ·exact wl w z
      ·rw[z];exact Er wd hm
     rw[List.map_set]at z;exact z
theorem Ed(T:Txt K mg a):a8 P w K mg base CX0 2 a.jn a.Ac ["_law_deal_here","_law_words_here"] (spQ K Hx):=by
 have aT:=kc (@gO P w K mg base a T);refine T.AE.F.okQ b6 (fun ts Q h=>?_) (fun _ _ _ _ _ _ hr=>?_)
 ·obtain⟨ws,rfl,_⟩:=h;rfl
 ·have hu:=bG hr;refine⟨_,_,((ag (aC 2 b6.nd (aP aT hr T.a6 (af (qv 0) (af ah az))))
 (ag (KY (i:=3) (j:=4) rfl b6.nd rfl rfl (by decide) rfl rfl (aq (qv 1) ah) (aq (qv 1) ah) rfl)
 (ag (aC 5 b6.nd (bq (QPF.w (dO (qv 1) (fu ah) fv)) (QPF.w (dO (qv 1) fv (fu ah)))))
 (ag (aX (bD hu (qv 2) ah)
 (aj (aI (av (ae (av (ae (QPE.f (qv 3)) (ae (av (ae (av (ae (QPE.f (aq (qv 5) ah)) (ae (av ai) ai))) (ae (av (ae (QPE.f (aq (qv 5) ah)) (ae (av (ae (QPE.f (qv 3)) ai)) ai))) ai))) ai))) ai))))
 aD)
 (ag (aX (bD hu (qv 2) ah)
 (aj (aI (av (ae (av (ae (QPE.f (qv 3)) (ae (av (ae (av (ae (QPE.f (aq (qv 5) ah)) (ae (av ai) ai))) (ae (av (ae (QPE.f (aq (qv 5) ah)) (ae (av (ae (QPE.f (qv 3)) ai)) ai))) (ae (av (ae (QPE.f (aq (qv 5) ah)) (ae (av (ae (QPE.f (qv 3)) ai)) ai))) ai)))) ai))) ai))))
 aD)
 (ag (aX (bD hu (qv 2) ah)
 (aj (aI (av (ae (av (ae (QPE.f (qv 3)) (ae (av (ae (av (ae (QPE.f (aq (qv 5) ah)) (ae (av ai) ai))) (ae (av (ae (QPE.f (aq (qv 5) ah)) (ae (av ai) ai))) ai))) ai))) (ae (av (ae (QPE.f (qv 4)) (ae (av (ae (av (ae (QPE.f (aq (qv 5) ah)) (ae (av ai) ai))) (ae (av (ae (QPE.f (aq (qv 5) ah)) (ae (av (ae (QPE.f (qv 3)) (ae (QPE.f (qv 4)) ai))) ai))) ai))) ai))) ai)))))
 aD)
 (ag (aX (bD hu (qv 2) ah)
 (aj (aI (av (ae (av (ae (QPE.f (qv 3)) (ae (av (ae (av (ae (QPE.f (aq (qv 5) ah)) (ae (av ai) ai))) (ae (av (ae (QPE.f (aq (qv 5) ah)) (ae (av (ae (QPE.f (qv 3)) (ae (QPE.f (qv 3)) ai))) ai))) ai))) ai))) ai))))
 aD)
 (ag (aX (bD hu (qv 2) ah)
 (aj (aI (av (ae (av (ae (QPE.f (qv 3)) (ae (av (ae (av (ae (QPE.f (aq (qv 5) ah)) (ae (av ai) ai))) (ae (av (ae (QPE.f (aq (qv 5) ah)) (ae (av (ae (QPE.f (qv 4)) ai)) ai))) ai))) ai))) (ae (av (ae (QPE.f (qv 4)) (ae (av (ae (av (ae (QPE.f (aq (qv 5) ah)) (ae (av (ae (QPE.f (qv 3)) ai)) ai))) ai)) ai))) ai)))))
 aD)
 (ag (aC 6 b6.nd (aG ai))
 (ag (aC 7 b6.nd (bq ah (QPF.w (aP aT hr T.a6 (af (qv 0) (af ah az))))))
 (ag (aC 8 b6.nd bF)
 (ag (bp (g:=(Tg.nm 9)) PassesOwn.never rfl (jf rfl T.gT (af (qv 7) az)) (a7 9 b6.nd)
 (ag (aC 10 b6.nd (aG ai))
 (ag (bp (g:=(Tg.nm 11)) PassesOwn.never rfl (jf rfl T.gT (af (QPF.w (bq ah (QPF.w (aP aT hr T.a6 (af (qv 0) (af (QPF.w (jT (aG (ae bF (ae bF ai))) (QPF.w (aN ju nA (by rfl) T.Al (by kernel_rfl) (af (QPF.w (lT (tG hu rfl) nC (bK _) (qv 7) ah)) az))))) az)))))) az)) (a7 11 b6.nd)
 (ag (aC 12 b6.nd (oA (QPF.w (aP aT hr T.a6 (af (qv 0) (af (QPF.w (jT (aG (ae bF (ae bF (ae bF ai)))) (QPF.w (aP aT hr T.a6 (af (qv 0) (af ah az)))))) az)))) (QPF.w (aN ju nA (by rfl) T.Al (by kernel_rfl) (af (QPF.w (lT zF (sv (g':=fun i j=>.b (decide (j<i))) fun _ _ _ _=>.b _) (bK _) (QPF.w (bq (qv 9) (qv 11))) ah)) az)))))
 (ag (kG (i:=13) b6.nd rfl (Or.inl rfl) rfl (lR rfl T.gT (af (qv 12) az)) (N':=["_law_i","_law_words_here","_law_deal_here","_law_many"]) (.own rfl (.got (i:=1) rfl rfl (.inl rfl) (.got (i:=0) rfl rfl (.inl rfl) (.got (i:=7) rfl rfl (.inl rfl) .nil)))) (bZ (g:=(Tg.nm 0)) (fun _ _ _ _ _=>⟨(cG 0),(QPE.f (aq (qv 1) (QPF.w (aP aT hr T.a6 (af (qv 2) (af (qv 3) az))))))⟩)))
 (ag (aY (i:=10) (pv 10) (av (ae (QPE.f (aq (qv 5) (qv 8))) (ae (aN (cq rfl) ck (by rfl) T.di (by kernel_rfl) (af (qv 13) az)) ai))))
 (aj (aC 8 b6.nd (bq (qv 8) ah)))))))
 (aj (aY (i:=6) (pv 6) (av (ae (QPE.f (aq (qv 1) (qv 9))) (ae (aN (cq rfl) ck (by rfl) T.di (by kernel_rfl) (af (qv 10) az)) ai))))))))
 (aj (aI (aN (cq rfl) ck (by rfl) T.di (by kernel_rfl) (af (qv 6) az))))))))))))))))),fun ts Q h=>?_⟩
  obtain⟨ws,rfl,hl,hnd,hq⟩:=h;obtain⟨x0,x1,wr,rfl⟩:∃ x0 x1 wr,ws=x0::x1::wr:=by
   match ws,hl with
   | x0::x1::wr,_=>exact⟨x0,x1,wr,rfl⟩
  have at0:atI ((x0::x1::wr).map L2.T.s) 0=some (.s x0):=fh (j:=0) rfl;have at1:atI ((x0::x1::wr).map L2.T.s) 1=some (.s x1):=fh (j:=1) rfl;refine⟨by decide,by decide,fun fm f0 f1=>⟨_,at0,rfl,_,at1,rfl,aL _,aL _,?_⟩⟩
  have hM:((x0::x1::wr).drop 4++(x0::x1::wr).take 4).Nodup:=A6 hnd;have lM:((x0::x1::wr).drop 4++(x0::x1::wr).take 4).length=40:=by rw[RM,UD,Ti];omega
  refine⟨bo (by have:=congrArg UB (Pj hl);rw[RM,j3]at this;omega),zT _ _ _,zT _ _ _,?_⟩
  rw[Pj hl];have hMw:∀ x∈(x0::x1::wr).drop 4++(x0::x1::wr).take 4,x∈x0::x1::wr:=fun x hx=>(SY.mp hx).elim List.mem_of_mem_drop Ud
  generalize(x0::x1::wr).drop 4++(x0::x1::wr).take 4=M at hM lM hMw
  obtain⟨m0,m1,m2,m3,mr,rfl⟩:∃ m0 m1 m2 m3 mr,M=m0::m1::m2::m3::mr:=by
   match M,lM with
   | m0::m1::m2::m3::mr,_=>exact⟨m0,m1,m2,m3,mr,rfl⟩
  have t0:atI ((m0::m1::m2::m3::mr).map L2.T.s) 0=some (.s m0):=fh (j:=0) rfl;have t1:atI ((m0::m1::m2::m3::mr).map L2.T.s) 1=some (.s m1):=fh (j:=1) rfl;have t2:atI ((m0::m1::m2::m3::mr).map L2.T.s) 2=some (.s m2):=fh (j:=2) rfl;have t3:atI ((m0::m1::m2::m3::mr).map L2.T.s) 3=some (.s m3):=fh (j:=3) rfl;have hw3:3 <=(x0::x1::wr).length:=by omega
  have mkf:∀(ks:List Kd)(n made:Nat),qh (x0::x1::wr) (m0::m1::m2::m3::mr) n ks n made->1<=n->n<=3->Q (tKs ks):=fun ks n made D n1 n3=>hq ks (D.good hnd hM n1 n3 hw3) fun x hx=>hMw x (Ud (D.mn▸hx))
  have a1:x0∈(x0::x1::wr).take 1:=SG;have a2:x0∈(x0::x1::wr).take 2:=SG;have b2:x1∈(x0::x1::wr).take 2:=SK _ SG;refine⟨rfl,aB (fun _=>?_) (fun _=>?_)⟩
  ·refine⟨rfl,_,t0,rfl,_,t1,rfl,rfl,?_⟩;exact mkf [(x0,[(m0,[]),(m1,[x0])])] 1 2 ⟨rfl,rfl,by decide,all1 ⟨UE _ _,leK 2 6⟩,all1 (all2 ⟨leK 0 4,yE⟩ ⟨leK 1 4,all1 a1⟩)⟩ (by decide) (by decide)
  refine⟨rfl,aB (fun _=>?_) (fun _=>?_)⟩
  ·refine⟨rfl,_,t0,rfl,_,t1,rfl,rfl,_,t2,rfl,rfl,?_⟩;exact mkf [(x0,[(m0,[]),(m1,[x0]),(m2,[x0])])] 1 3 ⟨rfl,rfl,by decide,all1 ⟨UE _ _,leK 3 6⟩,all1 (Sr ⟨leK 0 4,yE⟩ ⟨leK 1 4,all1 a1⟩ ⟨leK 1 4,all1 a1⟩)⟩ (by decide) (by decide)
  refine⟨rfl,aB (fun _=>?_) (fun _=>?_)⟩
  ·refine⟨rfl,_,t0,rfl,_,t1,rfl,rfl,_,t2,rfl,_,t3,rfl,rfl,rfl,?_⟩;exact mkf [(x0,[(m0,[]),(m1,[])]),(x1,[(m2,[]),(m3,[x0,x1])])] 2 4 ⟨rfl,rfl,by decide,all2 ⟨UE _ _,leK 2 6⟩ ⟨UE _ _,leK 2 6⟩,all2 (all2 ⟨leK 0 4,yE⟩ ⟨leK 0 4,yE⟩) (all2 ⟨leK 0 4,yE⟩ ⟨leK 2 4,all2 a2 b2⟩)⟩ (by decide) (by decide)
  refine⟨rfl,aB (fun _=>?_) (fun _=>?_)⟩
  ·refine⟨rfl,_,t0,rfl,_,t1,rfl,rfl,rfl,?_⟩;exact mkf [(x0,[(m0,[]),(m1,[x0,x0])])] 1 2 ⟨rfl,rfl,by decide,all1 ⟨UE _ _,leK 2 6⟩,all1 (all2 ⟨leK 0 4,yE⟩ ⟨leK 2 4,all2 a1 a1⟩)⟩ (by decide) (by decide)
  refine⟨rfl,aB (fun _=>?_) (fun _=>?_)⟩
  ·refine⟨rfl,_,t0,rfl,_,t1,rfl,rfl,rfl,_,t2,rfl,rfl,?_⟩;exact mkf [(x0,[(m0,[]),(m1,[x1])]),(x1,[(m2,[x0])])] 2 3 ⟨rfl,rfl,by decide,all2 ⟨UE _ _,leK 2 6⟩ ⟨UE _ _,leK 1 6⟩,all2 (all2 ⟨leK 0 4,yE⟩ ⟨leK 1 4,all1 b2⟩) (all1 ⟨leK 1 4,all1 a2⟩)⟩ (by decide) (by decide)
  clear t0 t1 t2 t3 at0 at1 mkf a1 a2 b2 hw3
  generalize hMM:m0::m1::m2::m3::mr=M at hM lM hMw ⊢
  generalize hWW:x0::x1::wr=ws at hnd hl hMw hq ⊢
  refine⟨by decide,by decide,fun r2 r20 r21=>?_⟩
  refine⟨by omega,by omega,fun i q=>∃ ks made L o9 o10 o11 o12 o13,q = [.r .cZ,.r (.l (ws.map .s)),.o (.i fm),.o (.s x0),.o (.s x1),.o (.l (M.map .s)),.o (.l L),.o (.i (1+r2)),.o (.i (made:Nat)),o9,o10,o11,o12,o13]/\L=ks.map tK/\qh ws M (1+r2).toNat ks i made,
   ⟨[],0,_,_,_,_,_,_,rfl,rfl,⟨rfl,rfl,S3 _,(fun _ z=>nomatch z),(fun _ z=>nomatch z)⟩⟩,?_,?_⟩
  ·rintro i x q hx ⟨ks,made,L,o9,o10,o11,o12,o13,rfl,rfl,D⟩
   obtain⟨rfl,hi⟩:=jQ hx;have hb1:=D.b1;have lks:ks.length=i:=by
    have:=congrArg UB D.nm
    rw[j3,Ti,Uq (by omega)]at this
    exact this
   have hwi:i<ws.length:=by omega
   refine⟨_,rfl,rfl,_,NZ 3 6 _,?_,?_,fun r5 r50 r51=>?_⟩
   ·split <;> decide
   ·split <;> decide
   have r5b:r5<6:=by split at r51 <;> omega
   refine⟨by omega,by omega,fun j q=>∃ ms ff L' o11 o12 o13,q = [.r .cZ,.r (.l (ws.map .s)),.o (.i fm),.o (.s x0),.o (.s x1),.o (.l (M.map .s)),.o (.l (ks.map tK)),.o (.i (1+r2)),.o (.i (ff:Nat)),.r (.i (0+(i:Nat))),.o (.l L'),o11,o12,o13]/\L'=ms.map tM/\ms.length=j/\ff=made+j/\M.take made++ms.map (·.1)=M.take ff/\(∀ m∈ms,m.2.length<=4/\∀ f∈m.2,f∈ws.take (1+r2).toNat),
    ⟨[],made,_,_,_,_,rfl,rfl,rfl,rfl,by simp,fun _ z=>nomatch z⟩,?_,?_⟩
   ·rintro j x q hx ⟨ms,ff,L',o11,o12,o13,rfl,rfl,lms,emd,hmd,hfl⟩
    obtain⟨rfl,hj⟩:=jQ hx;refine⟨_,rfl,by decide,by decide,fun r6 r60 r61=>?_⟩
    obtain⟨v,ev,hv⟩:=JV (x:=3) (y:=3) (z:=5) r60 r61;refine⟨_,ev,by omega,by omega,fun r7 r70 r71=>?_⟩
    refine⟨.inl ⟨by omega,by omega⟩,?_⟩
    have hwd:∀ b:Bool,0<=r7*(if b=true then 1 else 0)/\r7*(if b=true then 1 else 0)<=4:=fun b=>by cases b <;> simp <;> omega
    obtain⟨w0,w4⟩:=hwd (decide (0<0+(i:Int)+(0+(j:Int))))
    generalize hwv:r7*(if decide (0<0+(i:Int)+(0+(j:Int)))=true then 1 else 0)=wide at w0 w4 ⊢
    refine⟨by omega,by omega,ay (by rw[dC];omega),fun p ys=>∃ fs:List Str,ys=fs.map .s/\fs.length=p/\∀ f∈fs,f∈ws.take (1+r2).toNat,⟨[],rfl,rfl,fun _ z=>nomatch z⟩,?_,?_⟩
    ·rintro p x ys hx ⟨fs,rfl,lf,hf⟩
     obtain⟨rfl,hp⟩:=jQ hx;refine⟨_,rfl,by omega,by omega,fun r8 r80 r81=>?_⟩
     have h8:r8.toNat<ws.length:=by omega
     have e8:atI (ws.map L2.T.s) r8=some (.s ws[r8.toNat]):=by
      have:=fh (ws:=ws) (j:=r8.toNat) (w:=ws[r8.toNat]) (by simp[h8])
      rwa [Up r80]at this
     refine⟨_,e8,rfl,fs ++ [ws[r8.toNat]],by simp,by simp[lf],fun f hff=>?_⟩
     rcases SY.mp hff with h|h
     ·exact hf f h
     ·rw[qr.mp h];exact List.mem_take_iff_getElem.mpr ⟨r8.toNat,Nat.lt_min.mpr ⟨(Int.toNat_lt_toNat (by omega)).mpr r81,h8⟩,rfl⟩
    ·rintro ys ⟨fs,rfl,lf,hf⟩
     rw[dC]at lf;have hi2:i<=2:=Wh (Tq hi (V9.mpr (show 1+r2<=3 by omega)))
     have hj5:j<=5:=Wh (Tq hj (V9.mpr (show 1+r5<=6 by omega)))
     have J8:ff<M.length:=by rw[emd,lM];exact UU (Nat.add_le_add (Tn hb1 (Nat.mul_le_mul_left 6 hi2)) hj5) (by decide)
     have em:atI (M.map L2.T.s) ((ff:Nat):Int)=some (.s M[ff]):=fh (by simp[J8])
     refine⟨ay (by rw[j3];omega),_,em,rfl,aL _,?_⟩
     refine⟨ms ++ [(M[ff],fs)],ff+1,_,_,_,_,rfl,by simp[tM],by simp[lms],by omega,?_,fun m hm=>?_⟩
     ·rw[S9,<- Tp,hmd];exact take_one (by simp[J8])
     ·rcases SY.mp hm with h|h
      ·exact hfl m h
      ·rw[qr.mp h];exact⟨by show fs.length<=4;omega,hf⟩
   ·rintro q ⟨ms,ff,L',o11,o12,o13,rfl,rfl,lms,emd,hmd,hfl⟩
    rw[dC]at lms emd;have ei:atI (ws.map L2.T.s) (0+((i:Nat):Int))=some (.s ws[i]):=by rw[Vn];exact fh (by simp[hwi])
    refine⟨ay (by rw[j3];omega),_,ei,rfl,aU rF _,?_⟩
    refine⟨ks ++ [(ws[i],ms)],ff,_,_,_,_,_,_,rfl,by simp[tK,tMs],D.next (by simp[hwi]) hmd (fun z=>?_) (by omega) (by omega) hfl⟩
    rw[z]at lms;simp at lms;omega
  ·rintro q ⟨ks,made,L,o9,o10,o11,o12,o13,rfl,rfl,D⟩
   rw[dC]at D;refine⟨aU pq _,?_⟩;exact hq ks (D.good hnd hM (by omega) (by omega) (by omega)) fun x hx=>hMw x (Ud (D.mn▸hx))
theorem zI(T:Txt K mg a):a8 P w K mg base CX0 2 a.mq a.Fm ["_law_deal_here","_law_scope","_law_some"] (spQ K xE):=by
 have aT:=kc (@gO P w K mg base a T);refine T.qw.F.okQ nE (fun ts Q h=>?_) (fun _ _ _ _ _ _ hr=>?_)
 ·obtain⟨sc,fs,t,_,rfl,_⟩:=h;rfl
 ·have hu:=bG hr;refine⟨_,_,((ag (aC 3 nE.nd (aG ai))
 (ag (bp (g:=(Tg.nm 4)) PassesOwn.never rfl (Dv (i:=2) (pv 2)) (a7 4 nE.nd)
 (ag (kG (i:=5) nE.nd rfl (Or.inl rfl) rfl (dD (qv 1)) (N':=["_law_name","_law_other","_law_kind"]) (.own rfl (.own rfl (.got (i:=4) rfl rfl (.inl rfl) .nil))) (oC (g:=(Tg.tp [0,1])) (fun _ _ _ _ _=>⟨(c8 (cG 0) (cG 1)),(bD hu (qv 1) (qv 2)),(QPE.f (qv 0))⟩)))
 (ag (aX (bD hu (qv 5) (QPF.w (aG ai)))
 (aj (aI dX))
 aD)
 (aj (aY (i:=3) (pv 3) (QPE.f (aq (qv 5) (QPF.w (fc (jt rfl) xa (by rfl) T.Ak (by kernel_rfl) (af (QPF.w (aP aT hr T.a6 (af (qv 0) (af (QPF.w (b8 T.cX (af (qv 5) az))) az)))) (af (QPF.w (aP aT hr T.a6 (af (qv 0) (af (QPF.w (b8 T.cX (af (qv 5) az))) az)))) az)))))))))))
 (aj (aI (aN (cq rfl) ck (by rfl) T.di (by kernel_rfl) (af (qv 3) az))))))),fun ts Q h=>?_⟩
  obtain⟨sc,fs,t,ht,rfl,hsc,hfs,hn,hq⟩:=h;rcases ht with rfl|rfl
  all_goals
   refine⟨fun i q=>∃ ns o4 o5 L,q = [.r .cZ,.r (.l (sc.map tP)),.r _,.o (.l L),o4,o5]/\L=ns.map .s/\Fills sc ns (fs.take i),⟨[],_,_,_,rfl,rfl,rfl,fun _ z=>nomatch z⟩,?_,?_⟩
   ·rintro i x q hx ⟨ns,o4,o5,L,rfl,rfl,hF⟩
    rw[L7]at hx;obtain⟨f,hf,rfl⟩:=QX.mp hx;have hif:i<fs.length:=(QH.mp hf).1;refine⟨_,rfl,ay (by rw[j3];omega),fun k ys=>∃ os:List Str,ys=os.map .s/\os.length<=k/\∀ n∈os,(n,f)∈sc,⟨[],rfl,S3 _,fun _ z=>nomatch z⟩,?_,?_⟩
    ·rintro k x ys hx ⟨os,rfl,lo,ho⟩
     rw[L7]at hx;obtain⟨p,hp,rfl⟩:=QX.mp hx;refine⟨_,rfl,rfl,aB (fun e=>⟨rfl,os ++ [p.1],by simp,by simp;omega,fun n hn=>?_⟩) (fun _=>⟨os,rfl,by omega,ho⟩)⟩
     rcases SY.mp hn with h|h
     ·exact ho n h
     ·rw[qr.mp h];have e':(L2.T.s p.2).v =(L2.T.s f).v:=by simpa using e
      have e2:p.2=f:=V.str.inj e';rw[<- e2];exact RB hp
    ·rintro ys ⟨os,rfl,lo,ho⟩
     rw[j3]at lo;refine⟨by rw[gq];rfl,aB (fun _=>hn) (fun hne=>?_)⟩
     have l0:0<os.length:=by
      cases os with
      | nil=>exact absurd rfl hne
      | cons _ _=>simp
     have ln:ns.length=i:=by rw[hF.1,Ti];omega
     have lo':((os.map L2.T.s).length:Int)=os.length:=by rw[j3]
     refine⟨ay (by rw[j3];omega),by rw[lo'];omega,by rw[lo'];omega,fun r r0 r1=>⟨by rw[lo'];omega,by rw[lo'];omega,fun r' r0' r1'=>?_⟩⟩
     rw[lo']at r1 r1';have hm:∃ m:Int,(if r' > r then r' else r)=m/\0<=m/\m<os.length:=⟨_,rfl,by split <;> omega,by split <;> omega⟩
     obtain⟨m,em,m0,m1⟩:=hm;have hmo:m.toNat<os.length:=by omega
     refine⟨.s os[m.toNat],(by show atI (os.map L2.T.s) (if r' > r then r' else r)=_;rw[em];exact Mu m0 hmo),rfl,ns ++ [os[m.toNat]],_,_,_,rfl,by simp,?_⟩
     rw[<- take_one hf];exact hF.snoc (ho _ (US _))
   ·rintro q ⟨ns,o4,o5,L,rfl,rfl,hF⟩
    rw[j3,Tb]at hF;exact⟨aL _,hq ns hF⟩
theorem Ef(T:Txt K mg a):a8 P w K mg base CX0 3 a.jq a.Ae ["_law_deal_here","_law_world","_law_scope","_law_kind","_law_f"] (spQ K nI):=by
 have qi:=@zI P w K mg base a T;refine T.vb.F.okQ cL (fun ts Q h=>?_) (fun _ _ _ _ _ _ hr=>?_)
 ·obtain⟨ks,hs,ws,sc,f,h,rfl,_⟩:=h;rfl
 ·have hu:=bG hr;refine⟨_,_,((ag (sM (g:=(Tg.tp [5,6,7])) (i:=1) (pv 1) (kQ (K:=K) (n:=3) rfl rfl (bR (a7 5 cL.nd) (bR (a7 6 cL.nd) (bR (a7 7 cL.nd) kP)))))
 (ag (aC 8 cL.nd (aP qi hr T.qw (af (qv 0) (af (qv 2) (af (QPF.w (aG (ae (QPE.f (qv 3)) ai))) az)))))
 (ag (aX (bE tD n8 (bK _) (qv 8) (QPF.w dX))
 (aj (aI (av (ae aJ (ae (QPE.f (aq (qv 8) ah)) ai)))))
 aD)
 (ag (aC 9 cL.nd (QPE.f (aq (qv 7) (QPF.w (b8 T.cX (af (qv 2) az))))))
 (ag (bp (g:=(Tg.tp [10,11])) PassesOwn.never rfl (gH (QPE.f (dE (QPF.w (aN (bW rfl) cA (by rfl) T.gW (by kernel_rfl) (af (qv 5) az))) (qv 3)))) (c8 (a7 10 cL.nd) (a7 11 cL.nd))
 (ag (aC 12 cL.nd (aP qi hr T.qw (af (qv 0) (af (qv 2) (af (qv 11) az)))))
 (aj (aX (bE tD n8 (bK _) (qv 12) (QPF.w dX))
 (aj (aI (av (ae aJ (ae (QPE.f (qv 9)) (ae (QPE.f (qv 10)) (ae (QPE.f (qv 12)) (ae (av (ae aJ (ae (QPE.f (qv 9)) ai))) ai))))))))
 aD))))
 (ag (aC 12 cL.nd (aN (cq rfl) ck (by rfl) T.di (by kernel_rfl) (af (QPF.w (bj rfl (dD (QPF.w (dO (qv 2) fv (fu (QPF.w (b8 T.cX (af (aq (aq (qv 6) (qv 4)) ah) az))))))) (N':=["_law_name","_law_other"]) (.own rfl (.own rfl .nil)) (bZ (g:=(Tg.tp [0,1])) (fun _ _ _ _ _=>⟨(c8 (cG 0) (cG 1)),(QPE.f (qv 0))⟩)))) az)))
 (aj (aI (av (ae aJ (ae (QPE.f (qv 9)) (ae (QPE.f (aq (aq (qv 6) (qv 4)) ah)) (ae (QPE.f (qv 12)) (ae (av (ae aJ (ae (QPE.f (qv 9)) ai))) ai))))))))))))))),fun ts Q hh=>?_⟩
  obtain⟨ks,hs,ws,sc,f,h,rfl,W,hf,S,hq⟩:=hh;have IF:h∈hs:=RB hf;obtain⟨hp1,hp2,hp3,hp4⟩:=W.hp h IF;have ef:atI (hs.map tH) (f:Int)=some (tH h):=bX (by rw[L7,hf];rfl)
  have hsl:sc.length<ws.length:=by have:=S.ln;have:=W.wl;omega
  have ex:atI (ws.map L2.T.s) ((sc.map tP).length:Int)=some (.s ws[sc.length]):=by rw[j3];exact fh (Es hsl)
  have fx:ws[sc.length] ∉ sc.map (·.1):=S.fresh W.wn (Es hsl)
  generalize ws[sc.length]=x at ex fx
  refine⟨_,rfl,rfl,sc,[h.2.2],_,.inr rfl,rfl,by have:=S.ln;omega,by show 1<=1000;decide,?_,fun ns hF=>?_⟩
  ·obtain⟨kd,hkd,ek⟩:=J3 hp4;refine⟨_,ex,rfl,aU pq ks,_,iH ks,_,ji W.gk.nd hp4,mj _,fun i q=>∃ o10 o11 o12,q = [.r .cZ,.r (tW ks hs ws),.r (.l (sc.map tP)),.r (.s h.2.2),.r (.i f),.r (tKs ks),.r (.l (hs.map tH)),.r (.l (ws.map .s)),.o .n,.o (.s x),o10,o11,o12],⟨_,_,_,rfl⟩,?_,?_⟩
   ·rintro i t q hx ⟨o10,o11,o12,rfl⟩
    rw[L7]at hx;obtain⟨m,hm,rfl⟩:=QX.mp hx;have hm':m∈kd.2:=by rw[<- v7 W.gk.nd hkd,ek];exact RB hm
    refine⟨_,rfl,sc,m.2,_,.inl rfl,rfl,by have:=S.ln;omega,by have:=(W.gk.fl kd hkd m hm').1;omega,⟨_,_,_,rfl⟩,fun ns hF=>?_⟩
    refine⟨rfl,rfl,aL _,rfl,hq 2 _ (by decide) (.make hkd hm' hF fx (.give ?_)) (k9 pK (S3 _))⟩
    rw[ek];simp
   ·rintro q ⟨o10,o11,o12,rfl⟩
    have ec:dQ (sc.map tP) none (some ((h.2.1.map tP).length:Int))=h.2.1.map tP:=by rw[j3,Fv (by rw[j3];exact S.p1),<- Vg,S.pf]
    refine⟨_,ef,_,rfl,aU fi _,?_⟩;rw[ec];refine⟨ay (by rw[j3];omega),fun i ys=>ys =((h.2.1.take i).map (·.1)).map .s,rfl,?_,?_⟩
    ·rintro i t ys hx rfl
     rw[L7]at hx;obtain⟨p,hp,rfl⟩:=QX.mp hx;refine⟨_,rfl,rfl,?_⟩;show _ ++ [L2.T.s p.1]=_;rw[S8,hp];simp
    ·rintro ys rfl
     rw[j3,Tb];refine⟨aL _,rfl,_,ef,_,rfl,rfl,aL _,rfl,hq 2 _ (by decide) (.call IF ?_ fx (.give (by simp))) (k9 pK (S3 _))⟩
     have z:=Fills.self (sc:=sc) (n:=h.2.1.length)
     rwa [S.pf]at z
  ·obtain⟨n,rfl⟩:∃ n,ns = [n]:=by
    match ns,hF.1 with
    | [n],_=>exact⟨n,rfl⟩
   exact⟨_,rfl,rfl,hq 1 _ (by decide) (.give (hF.2 (n,h.2.2) (by simp))) pK⟩
theorem HY(T:Txt K mg a)(N:Nat)(gY:a8 P w K mg base CX0 (2*N+3) a.ka a.yr ["_law_deal_here","_law_world","_law_scope","_law_f","_law_room"] (spQ K (jU N))):a8 P w K mg base CX0 (2*N+4) a.my a.Fu ["_law_deal_here","_law_world","_law_scope","_law_f","_law_room"] (spQ K (Ll N)):=by
 have aT:=kc (@gO P w K mg base a T);refine T.Gg.F.okQ cN (fun ts Q h=>?_) (fun _ _ _ _ _ _ hr=>?_)
 ·obtain⟨ks,hs,ws,sc,f,h,u,rfl,_⟩:=h;rfl
 ·have hu:=bG hr;refine⟨_,_,((ag (sM (g:=(Tg.tp [5,6,7])) (i:=1) (pv 1) (kQ (K:=K) (n:=3) rfl rfl (bR (a7 5 cN.nd) (bR (a7 6 cN.nd) (bR (a7 7 cN.nd) kP)))))
 (ag (lQ (g:=(Tg.tp [8,9])) (aq (qv 2) (QPF.w (fc (jt rfl) xa (by rfl) T.Ak (by kernel_rfl) (af (QPF.w (aP aT hr T.a6 (af (qv 0) (af (QPF.w (b8 T.cX (af (qv 2) az))) az)))) (af (QPF.w (aP aT hr T.a6 (af (qv 0) (af (QPF.w (b8 T.cX (af (qv 2) az))) az)))) az))))) (c8 (a7 8 cN.nd) (a7 9 cN.nd)))
 (ag (aC 10 cN.nd (QPE.f (dE (QPF.w (aN (bW rfl) cA (by rfl) T.gW (by kernel_rfl) (af (qv 5) az))) (qv 9))))
 (ag (vA (i:=4) (pv 4) (pv 4) (QPF.w (b8 T.cX (af (qv 10) az))))
 (ag (aC 11 cN.nd (aG ai))
 (ag (bp (g:=(Tg.tp [12,13])) PassesOwn.never rfl (gH (QPE.f (qv 10))) (c8 (a7 12 cN.nd) (a7 13 cN.nd))
 (ag (kG (i:=14) cN.nd rfl (Or.inl rfl) rfl (zm rfl T.bx (by kernel_rfl) (af (qv 13) az)) (N':=["_law_k","_law_field","_law_words_here","_law_scope"]) (.own rfl (.own rfl (.got (i:=7) rfl rfl (.inl rfl) (.got (i:=2) rfl rfl (.inl rfl) .nil)))) (bZ (g:=(Tg.tp [0,1])) (fun _ _ _ _ _=>⟨(c8 (cG 0) (cG 1)),(av (ae (QPE.f (aq (qv 2) (QPF.w (bq (QPF.w (b8 T.cX (af (qv 3) az))) (qv 0))))) (ae (QPE.f (qv 1)) ai)))⟩)))
 (ag (aC 15 cN.nd (aN (cq rfl) ck (by rfl) T.di (by kernel_rfl) (af (QPF.w (bj rfl (dD (qv 14)) (N':=["_law_name","_law_field"]) (.own rfl (.own rfl .nil)) (bZ (g:=(Tg.tp [0,1])) (fun _ _ _ _ _=>⟨(c8 (cG 0) (cG 1)),(QPE.f (qv 0))⟩)))) az)))
 (aj (aY (i:=11) (pv 11) (av (ae (QPE.f (qv 12)) (ae (QPE.f (qv 15)) (ae (aP gY hr T.kx (af (qv 0) (af (qv 1) (af (QPF.w (bq (qv 2) (qv 14))) (af (qv 3) (af (qv 4) az)))))) ai)))))))))
 (aj (aI (av (ae aJ (ae (QPE.f (qv 8)) (ae (aN (cq rfl) ck (by rfl) T.di (by kernel_rfl) (af (qv 11) az)) ai))))))))))))),fun ts Q hh=>?_⟩
  obtain⟨ks,hs,ws,sc,f,h,u,rfl,W,hf,S,hl,hne,huN,hq⟩:=hh;have l0:0<sc.length:=U2.mpr hne;have lsc:((sc.map tP).length:Int)=sc.length:=by rw[j3]
  refine⟨_,rfl,by rw[lsc];omega,by rw[lsc];omega,fun r r0 r1=>⟨by rw[lsc];omega,by rw[lsc];omega,fun r' r0' r1'=>?_⟩⟩
  rw[lsc]at r1 r1';obtain⟨m0,m1⟩:=max_two r0 r1 r0' r1';obtain⟨⟨x,k⟩,hx,ex⟩:=iL (f:=tP) m0 m1;refine⟨tP (x,k),ex,rfl,_,rfl,?_⟩;obtain⟨kd,hkd,ek⟩:=J3 (S.kd _ hx);obtain rfl:kd.1=k:=ek;have em:=v7 W.gk.nd hkd;refine⟨aU pq ks,_,iH ks,tMs kd.2,by rw[ji W.gk.nd (S.kd _ hx),em],mj _,V1 _,?_⟩
  obtain⟨ne1,ne6⟩:=W.gk.ne kd hkd;have lk1:1<=kd.2.length:=U2.mpr ne1;have lkm:((kd.2.map tM).length:Int)=kd.2.length:=by rw[j3]
  have wl:=W.wl;have e1:(u - ((kd.2.map tM).length:Int)).toNat=u.toNat - kd.2.length:=by rw[lkm];omega
  generalize u - ((kd.2.map tM).length:Int)=u' at e1 ⊢
  refine⟨mj kd.2,fun i q=>∃ arms L o12 o13 o14 o15,q = [.r .cZ,.r (tW ks hs ws),.r (.l (sc.map tP)),.r (.i f),.r (.rm u'),.r (tKs ks),.r (.l (hs.map tH)),.r (.l (ws.map .s)),.r (.s x),.r (.s kd.1),.o (tMs kd.2),.o (.l L),o12,o13,o14,o15]/\L=arms.map tA/\qV ks hs h.2.2 sc (sz u'.toNat) (3*u'.toNat+2) arms (kd.2.take i),
   ⟨[],_,_,_,_,_,rfl,rfl,⟨rfl,fun i a m h1=>by simp at h1⟩⟩,?_,?_⟩
  ·rintro i t q hx ⟨arms,L,o12,o13,o14,o15,rfl,rfl,hA⟩
   rw[L7]at hx;obtain⟨m,hm,rfl⟩:=QX.mp hx;obtain⟨fl4,flk⟩:=W.gk.fl kd hkd m (RB hm);have hik:i<kd.2.length:=(QH.mp hm).1;have lA:arms.length=i:=by rw[hA.ln,Ti];omega
   obtain⟨ln,ndn,S'⟩:=S.more (ns:=(ws.drop sc.length).take m.2.length) W.wn rfl (by omega) (by omega) flk
   refine⟨_,rfl,ay (by rw[bg,j3];omega),fun j ys=>ys =(((ws.drop sc.length).take j).zip (m.2.take j)).map tP,rfl,?_,?_⟩
   ·rintro j y ys hy rfl
    obtain⟨z,hz,rfl⟩:=cj hy;rw[L7]at hz;obtain⟨g,hg,rfl⟩:=QX.mp hz;have hjm:j<m.2.length:=(QH.mp hg).1;have hwj:sc.length+j<ws.length:=by omega
    have ew:atI (ws.map L2.T.s) (((sc.map tP).length:Int)+(j:Nat))=some (.s ws[sc.length+j]):=by
     rw[j3];exact fh (j:=sc.length+j) (Es hwj)
    refine⟨_,rfl,_,ew,rfl,rfl,?_⟩;show _ ++ [tP (ws[sc.length+j],g)]=_;rw[Cf (a:=ws[sc.length+j]) (by rw[List.getElem?_drop,Es hwj]) hg,S9]
    rfl
   ·rintro ys rfl
    rw[show(g7 (m.2.map L2.T.s)).length=m.2.length by rw[bg,j3],Tb]
    generalize hns:(ws.drop sc.length).take m.2.length=ns at ln ndn S' ⊢
    refine⟨ay (by rw[j3,Us];omega),fun j ys=>ys =(((ns.zip m.2).take j).map (·.1)).map .s,rfl,?_,?_⟩
    ·rintro j y ys hy rfl
     rw[L7]at hy;obtain⟨p,hp,rfl⟩:=QX.mp hy;refine⟨_,rfl,rfl,?_⟩;show _ ++ [L2.T.s p.1]=_;rw[S8,hp];simp
    ·rintro ys rfl
     rw[show((ns.zip m.2).map tP).length =(ns.zip m.2).length by rw[j3],Tb,yT ln]
     refine⟨aL _,ay (by rw[j3];omega),rfl,aL _,bo (by rw[j3,j3,Us];omega),aU fi _,aU fi _,ks,hs,ws,sc++ns.zip m.2,f,h,_,by rw[S9],W,hf,S',by rw[RM,Us];omega,by omega,fun n b hn hb dd=>?_⟩
     refine⟨arms ++ [(m.1,ns,b,n)],_,_,_,_,_,rfl,by simp[tA],?_⟩
     rw[S8,hm];exact hA.snoc ⟨rfl,ln,ndn,hb,hn,dd⟩
  ·rintro q ⟨arms,L,o12,o13,o14,o15,rfl,rfl,hA⟩
   rw[j3,Tb]at hA;obtain⟨hS,hle⟩:=hA.snd hx hkd;refine⟨rfl,hA.im,hq _ _ ?_ hS ((hA.dep (by omega)).mono (by omega))⟩
   rw[hA.ln,e1]at hle
   have:=GA (n:=u.toNat) lk1 ne6
   omega
def qMk(N:Nat):QS:=sP (DF (Tg.tp [17,18]) (qOp qIx (bc 5) (gf lY (aK (bc 0) (aK (qCB xy (aK (bc 5) dP)) dP)))))
 (sP (DF (Tg.tp [19,20]) (qOp qIx (bc 18) (gf lY (aK (bc 0) (aK (qCB xy (aK (bc 18) dP)) dP)))))
  (sP (xw 16 (gf xE (aK (bc 0) (aK (bc 2) (aK (bc 20) dP)))))
   (sP (Hn (rn (qOp (A8 false) (bc 16) (qC .n))) (fun D q=>gf nI (aK (bc 0) (aK (bc 1) (aK (bc 2) (aK (bc 8) (aK (bc 3) dP))))) q D.rt) zp)
    fun D q=>vD (aK (qC (.s (Str.ofString "make"))) (aK (qIm (bc 10)) (aK (qIm (bc 19)) (aK (qIm (bc 16)) (aK (gf (jU N) (aK (bc 0) (aK (bc 1) (aK (qOp A9 (bc 2) (Hm (aK (vD (aK (qIm (bc 10)) (aK (qIm (bc 17)) dP))) dP))) (aK (bc 3) (aK (bc 4) dP)))))) dP))))) q D.rt)))
def qCl(N:Nat):QS:=sP (Hn (rn (qOp Ho (bc 9) (qC (.i 6))))
 (sP (xw 15 (gf lY (aK (bc 0) (aK (qCB xy (aK (bc 6) dP)) dP))))
  (sP (xw 16 (gf xE (aK (bc 0) (aK (bc 2) (aK (zr [none] (asT (qOp qIx (qOp qIx (bc 6) (bc 15)) (qC (.i 1)))) (Tg.nm 0) DG (qIm (qOp qIx (bc 0) (qC (.i 1))))) dP)))))
   (Hn (rn (qOp (A8 true) (bc 16) (qC .n))) (fun D q=>vD (aK (qC (.s (Str.ofString "call"))) (aK (qIm (bc 10)) (aK (qIm (qOp qIx (qOp qIx (bc 6) (bc 15)) (qC (.i 0)))) (aK (qIm (bc 16)) (aK (gf (jU N) (aK (bc 0) (aK (bc 1) (aK (qOp A9 (bc 2) (Hm (aK (vD (aK (qIm (bc 10)) (aK (qIm (qOp qIx (qOp qIx (bc 6) (bc 15)) (qC (.i 2)))) dP))) dP))) (aK (bc 3) (aK (bc 4) dP)))))) dP))))) q D.rt) zp))) zp) (qMk N)
def qNm(N:Nat):QS:=sP (DF (Tg.tp [13,14]) (qOp qIx (bc 2) (gf lY (aK (bc 0) (aK (qCB xy (aK (bc 2) dP)) dP)))))
 fun D q=>vD (aK (qC (.s (Str.ofString "name"))) (aK (qIm (bc 10)) (aK (qIm (bc 13)) (aK (gf (jU N) (aK (bc 0) (aK (bc 1) (aK (qOp A9 (bc 2) (Hm (aK (vD (aK (qIm (bc 10)) (aK (qIm (bc 14)) dP))) dP))) (aK (bc 3) (aK (bc 4) dP)))))) dP)))) q D.rt
structure AH(N B D:Nat)(ks:List Kd)(hs:List Hd)(ws:List Str)(sc:Sc)(f:Nat)(h:Hd)(u:Int)(x:Str)(Q:L2.T->Prop):Prop where
 W:Wld ks hs ws
 kd:∀ p∈sc,p.2∈ks.map (·.1)
 l16:sc.length<=16
 fx:x ∉ sc.map (·.1)
 hE:nI [.cZ,tW ks hs ws,.l (sc.map tP),.s h.2.2,.i f] Q
 go:∀{k:Str},k∈ks.map (·.1)->∀{Q':L2.T->Prop},(∀ n b,n<=B->Snd ks hs h.2.2 n (sc ++ [(x,k)]) b->Dep D b->Q' b)->jU N [.cZ,tW ks hs ws,.l (sc.map tP ++ [tP (x,k)]),.i f,.rm u] Q'
 hq:∀ n b,n<=B+1->Snd ks hs h.2.2 n sc b->Dep (D+1) b->Q b
 d1:1<=D
theorem zf{f:Nat}{h:Hd}{Q:L2.T->Prop}(C:AH N B D ks hs ws sc f h u x Q)(o10 o11 o12 o13 o14 o15 o16 o17 o18 o19:Sl) :
  qMk N { nx:=fun _=>Q .n,rt:=Q } [.r .cZ,.r (tW ks hs ws),.r (.l (sc.map tP)),.r (.i f),.r (.rm u),.r (tKs ks),.r (.l (hs.map tH)),.r (.l (ws.map .s)),.o (.s h.2.2),.o (.i fm),.o (.s x),o10,o11,o12,o13,o14,o15,o16,o17,o18,o19]:=by
 obtain⟨W,kdm,h3,fx,hE,go,hq,d1⟩:=C;have lk:((ks.map tK).length:Int)=ks.length:=by rw[j3]
 have k1:=W.gk.k1;have k2:=W.gk.k2;refine⟨by rw[lk];omega,by rw[lk];omega,fun r6 r60 r61=>?_⟩
 rw[lk]at r61;obtain⟨kd,hkd,ek⟩:=iL (f:=tK) r60 r61;obtain⟨ne1,ne6⟩:=W.gk.ne kd hkd;have lm:((kd.2.map tM).length:Int)=kd.2.length:=by rw[j3]
 have l1:1<=kd.2.length:=U2.mpr ne1;refine⟨_,ek,pq kd,_,rfl,by rw[lm];omega,by rw[lm];omega,fun r7 r70 r71=>?_⟩
 rw[lm]at r71;obtain⟨m,hm,em⟩:=iL (f:=tM) r70 r71;refine⟨_,em,rF m,_,rfl,sc,m.2,_,.inl rfl,rfl,by omega,by have:=(W.gk.fl kd hkd m hm).1;omega,hE,fun ns hF=>?_⟩
 refine⟨rfl,rfl,aL _,rfl,rfl,bo (by rw[j3];show sc.length+1<=10000;omega),aU fi _,rfl,?_⟩
 exact go (S5.mpr ⟨kd,hkd,rfl⟩) fun n b hn hb dd=>hq (n+1) _ (by omega) (.make hkd hm hF fx hb) (k9 dd d1)
theorem G5{f:Nat}{h:Hd}{Q:L2.T->Prop}{nx:Sq->Prop}(C:AH N B D ks hs ws sc f h u x Q)(hne:sc ≠ [])(o10 o11 o12 o13 o14 o15 o16 o17 o18 o19:Sl) :
  qNm N { nx:=nx,rt:=Q } [.r .cZ,.r (tW ks hs ws),.r (.l (sc.map tP)),.r (.i f),.r (.rm u),.r (tKs ks),.r (.l (hs.map tH)),.r (.l (ws.map .s)),.o (.s h.2.2),.o (.i fm),.o (.s x),o10,o11,o12,o13,o14,o15,o16,o17,o18,o19]:=by
 obtain⟨W,kdm,h3,fx,hE,go,hq,d1⟩:=C;have lsc:((sc.map tP).length:Int)=sc.length:=by rw[j3]
 have l0:0<sc.length:=U2.mpr hne;refine⟨by rw[lsc];omega,by rw[lsc];omega,fun r5 r50 r51=>?_⟩
 rw[lsc]at r51;obtain⟨⟨y,k⟩,hy,ey⟩:=iL (f:=tP) r50 r51;refine⟨_,ey,rfl,_,rfl,rfl,rfl,rfl,rfl,bo (by rw[j3];show sc.length+1<=10000;omega),aU fi _,rfl,?_⟩
 exact go (kdm _ hy) fun n b hn hb dd=>hq (n+1) _ (by omega) (.name hy fx hb) (Fe dd)
theorem G7{f:Nat}{h:Hd}{Q:L2.T->Prop}(C:AH N B D ks hs ws sc f h u x Q)(o10 o11 o12 o13 o14 o15 o16 o17 o18 o19:Sl) :
  qCl N { nx:=fun _=>Q .n,rt:=Q } [.r .cZ,.r (tW ks hs ws),.r (.l (sc.map tP)),.r (.i f),.r (.rm u),.r (tKs ks),.r (.l (hs.map tH)),.r (.l (ws.map .s)),.o (.s h.2.2),.o (.i fm),.o (.s x),o10,o11,o12,o13,o14,o15,o16,o17,o18,o19]:=by
 obtain⟨W,kdm,h3,fx,hE,go,hq,d1⟩:=id C;refine⟨rfl,aB (fun _=>?_) (fun _=>zf C _ _ _ _ _ _ _ _ _ _)⟩
 have lh:((hs.map tH).length:Int)=hs.length:=by rw[j3]
 have h1':=W.h1;have h8':=W.h8;refine⟨by rw[lh];omega,by rw[lh];omega,fun g g0 g1=>?_⟩
 rw[lh]at g1;obtain⟨hd,hhd,eg⟩:=iL (f:=tH) g0 g1;obtain⟨q1,q2,q3,q4⟩:=W.hp hd hhd;refine⟨_,eg,_,rfl,ay (by rw[j3];omega),fun i ys=>ys =((hd.2.1.take i).map (·.2)).map .s,rfl,?_,?_⟩
 ·rintro i t ys ht rfl
  rw[L7]at ht;obtain⟨p,hp,rfl⟩:=QX.mp ht;refine⟨_,rfl,_,rfl,rfl,?_⟩;show _ ++ [L2.T.s p.2]=_;rw[S8,hp];simp
 ·rintro ys rfl
  rw[show(hd.2.1.map tP).length=hd.2.1.length by rw[j3],Tb]
  refine⟨sc,hd.2.1.map (·.2),_,.inr rfl,rfl,by omega,by rw[j3];omega,zf C _ _ _ _ _ _ _ _ _ _,fun ns hF=>?_⟩
  refine⟨rfl,_,eg,_,rfl,rfl,aL _,rfl,_,eg,_,rfl,rfl,bo (by rw[j3];show sc.length+1<=10000;omega),aU fi _,rfl,?_⟩
  exact go q4 fun n b hn hb dd=>hq (n+1) _ (by omega) (.call hhd hF fx hb) (k9 dd d1)
theorem NY{r:Int}(h0:0<=r)(h1:r<3):∃ w:Str,atI [L2.T.s "pay",L2.T.s "pay",L2.T.s "get"] r=some (.s w)/\(w = "pay" \/ w = "get"):=by
 obtain⟨n,rfl⟩:∃ n:Nat,r=n:=⟨r.toNat,by omega⟩
 match n,h1 with
 | 0,_=>exact⟨_,rfl,.inl rfl⟩
 | 1,_=>exact⟨_,rfl,.inl rfl⟩
 | 2,_=>exact⟨_,rfl,.inr rfl⟩
 | n+3,h=>omega
theorem HZ(T:Txt K mg a)(N:Nat):a8 P w K mg base CX0 (2*N+3) a.ka a.yr ["_law_deal_here","_law_world","_law_scope","_law_f","_law_room"] (spQ K (jU N)):=by
 induction N with
 | zero =>
  refine never fun ts Q hh=>?_
  obtain⟨ks,hs,ws,sc,f,h,u,rfl,W,hf,S,hl,huN,hq⟩:=hh;omega
 | succ N gY =>
  have MD:=HY T N gY;have aT:=kc (@gO P w K mg base a T);have qi:=@zI P w K mg base a T;have Ar:=@Ef P w K mg base a T;refine T.kx.F.okQ bI (fun ts Q h=>?_) (fun _ _ _ _ _ _ hr=>?_)
  ·obtain⟨ks,hs,ws,sc,f,h,u,rfl,_⟩:=h;rfl
  ·have hu:=bG hr;refine⟨_,_,((ag (sM (g:=(Tg.tp [5,6,7])) (i:=1) (pv 1) (kQ (K:=K) (n:=3) rfl rfl (bR (a7 5 bI.nd) (bR (a7 6 bI.nd) (bR (a7 7 bI.nd) kP)))))
 (ag (aC 8 bI.nd (QPE.f (aq (aq (qv 6) (qv 3)) ah)))
 (ag (aC 9 bI.nd (aP aT hr T.a6 (af (qv 0) (af ah az))))
 (ag (aX (QPW.pt (zg (zh (Hh (qv 4) ah) ah) (zg (bD hu (qv 9) ah) (xr (Nw (QPF.w (b8 T.cX (af (qv 2) az))) ah)))))
 (aj (aI (aP Ar hr T.vb (af (qv 0) (af (qv 1) (af (qv 2) (af (qv 8) (af (qv 3) az))))))))
 aD)
 (ag (vA (i:=4) (pv 4) (pv 4) ah)
 (ag (aC 10 bI.nd (QPE.f (aq (qv 7) (QPF.w (b8 T.cX (af (qv 2) az))))))
 (ag (aX (zh (qv 9) ah)
 (ag (aC 11 bI.nd (bq ah (QPF.w (aP aT hr T.a6 (af (qv 0) (af (QPF.w (jT (aG (ae bF (ae bF (ae bF ai)))) (QPF.w (aP aT hr T.a6 (af (qv 0) (af ah az)))))) az))))))
 (ag (aC 12 bI.nd (jT (aG (jg (by rfl))) (QPF.w (aP aT hr T.a6 (af (qv 0) (af ah az))))))
 (aj (aI (av (ae (QPE.f (qv 12)) (ae (QPE.f (qv 11)) (ae (aP gY hr T.kx (af (qv 0) (af (qv 1) (af (qv 2) (af (qv 3) (af (qv 4) az)))))) ai))))))))
 aD)
 (ag (aX (QPW.pt (xt (zh (qv 9) ah) (sL (bE (vQ hu rfl) rf (bK _) (qv 2) (QPF.w (aG ai))))))
 (aj (aI (aP MD hr T.Gg (af (qv 0) (af (qv 1) (af (qv 2) (af (qv 3) (af (qv 4) az))))))))
 aD)
 (ag (aX (QPW.pt (xt (bD hu (qv 9) ah) (sL (bE (vQ hu rfl) rf (bK _) (qv 2) (QPF.w (aG ai))))))
 (ag (lQ (g:=(Tg.tp [13,14])) (aq (qv 2) (QPF.w (aP aT hr T.a6 (af (qv 0) (af (QPF.w (b8 T.cX (af (qv 2) az))) az))))) (c8 (a7 13 bI.nd) (a7 14 bI.nd)))
 (aj (aI (av (ae aJ (ae (QPE.f (qv 10)) (ae (QPE.f (qv 13)) (ae (aP gY hr T.kx (af (qv 0) (af (qv 1) (af (QPF.w (bq (qv 2) (QPF.w (aG (ae (av (ae (QPE.f (qv 10)) (ae (QPE.f (qv 14)) ai))) ai))))) (af (qv 3) (af (qv 4) az)))))) ai))))))))
 aD)
 (ag (aX (bD hu (qv 9) ah)
 (ag (aC 15 bI.nd (aP aT hr T.a6 (af (qv 0) (af (QPF.w (b8 T.cX (af (qv 6) az))) az))))
 (ag (aC 16 bI.nd (aP qi hr T.qw (af (qv 0) (af (qv 2) (af (QPF.w (bj rfl (fJ (aq (aq (qv 6) (qv 15)) ah)) (N':=["_law_param"]) (.own rfl .nil) (bZ (g:=(Tg.nm 0)) (fun _ _ _ _ _=>⟨(cG 0),(QPE.f (aq (qv 0) ah))⟩)))) az)))))
 (aj (aX (bE tD n8 (bK _) (qv 16) (QPF.w dX))
 (aj (aI (av (ae aJ (ae (QPE.f (qv 10)) (ae (QPE.f (aq (aq (qv 6) (qv 15)) ah)) (ae (QPE.f (qv 16)) (ae (aP gY hr T.kx (af (qv 0) (af (qv 1) (af (QPF.w (bq (qv 2) (QPF.w (aG (ae (av (ae (QPE.f (qv 10)) (ae (QPE.f (aq (aq (qv 6) (qv 15)) ah)) ai))) ai))))) (af (qv 3) (af (qv 4) az)))))) ai))))))))
 aD))))
 aD)
 (ag (lQ (g:=(Tg.tp [17,18])) (aq (qv 5) (QPF.w (aP aT hr T.a6 (af (qv 0) (af (QPF.w (b8 T.cX (af (qv 5) az))) az))))) (c8 (a7 17 bI.nd) (a7 18 bI.nd)))
 (ag (lQ (g:=(Tg.tp [19,20])) (aq (qv 18) (QPF.w (aP aT hr T.a6 (af (qv 0) (af (QPF.w (b8 T.cX (af (qv 18) az))) az))))) (c8 (a7 19 bI.nd) (a7 20 bI.nd)))
 (ag (aC 16 bI.nd (aP qi hr T.qw (af (qv 0) (af (qv 2) (af (qv 20) az)))))
 (ag (aX (bE D7 zc (bK _) (qv 16) (QPF.w dX))
 (aj (aI (aP Ar hr T.vb (af (qv 0) (af (qv 1) (af (qv 2) (af (qv 8) (af (qv 3) az))))))))
 aD)
 (aj (aI (av (ae aJ (ae (QPE.f (qv 10)) (ae (QPE.f (qv 19)) (ae (QPE.f (qv 16)) (ae (aP gY hr T.kx (af (qv 0) (af (qv 1) (af (QPF.w (bq (qv 2) (QPF.w (aG (ae (av (ae (QPE.f (qv 10)) (ae (QPE.f (qv 17)) ai))) ai))))) (af (qv 3) (af (qv 4) az)))))) ai))))))))))))))))))))))),fun ts Q hh=>?_⟩
   obtain⟨ks,hs,ws,sc,f,h,u,rfl,W,hf,S,hl,huN,hq⟩:=hh;have ef:atI (hs.map tH) (f:Int)=some (tH h):=bX (by rw[L7,hf];rfl)
   have hE:nI [.cZ,tW ks hs ws,.l (sc.map tP),.s h.2.2,.i f] Q:=⟨ks,hs,ws,sc,f,h,rfl,W,hf,S,fun n b hn hb dd=>hq n b (Tn hn (CA _)) hb (dd.mono (by omega))⟩
   have lsc:((sc.map tP).length:Int)=sc.length:=by rw[j3]
   have wl:=W.wl;have hsl:sc.length<ws.length:=by omega
   have ex:atI (ws.map L2.T.s) ((sc.map tP).length:Int)=some (.s ws[sc.length]):=by rw[j3];exact fh (Es hsl)
   have hx:ws[sc.length]? = some ws[sc.length]:=Es hsl;have fx:ws[sc.length] ∉ sc.map (·.1):=S.fresh W.wn hx
   generalize ws[sc.length]=x at ex fx hx
   refine⟨_,rfl,_,ef,_,rfl,rfl,by decide,by decide,fun fm f0 f1=>⟨rfl,fun r hr1=>aB (fun _=>hE) (fun h1=>⟨rfl,aB (fun _=>hE) (fun _=>aB (fun _=>hE) (fun h3=>?_))⟩)⟩⟩
   have h1:¬ r<1:=fun z=>h1 (decide_eq_true z)
   have h3:sc.length<=16:=by
    have h3:¬(16:Int)<((sc.map tP).length:Int):=fun z=>h3 (decide_eq_true z)
    rw[lsc]at h3;omega
   have u1:u.toNat =(u - 1).toNat+1:=by omega
   have uN:(u - 1).toNat<N:=by omega
   have s1:=wY (u - 1).toNat;rw[<- u1]at s1;have go:∀{k:Str},k∈ks.map (·.1)->∀{Q':L2.T->Prop},(∀ n b,n<=sz (u - 1).toNat->Snd ks hs h.2.2 n (sc ++ [(x,k)]) b->Dep (3*(u - 1).toNat+2) b->Q' b)->jU N [.cZ,tW ks hs ws,.l (sc.map tP ++ [tP (x,k)]),.i f,.rm (u - 1)] Q':=fun{k} hk {Q'} hQ =>
    ⟨ks,hs,ws,sc ++ [(x,k)],f,h,u - 1,by rw[S9];rfl,W,hf,S.snoc hx (by omega) hk,by rw[RM];simp;omega,uN,hQ⟩
   have C:AH N (sz (u - 1).toNat) (3*(u - 1).toNat+2) ks hs ws sc f h (u - 1) x Q:=⟨W,S.kd,h3,fx,hE,go,fun n b hn hb dd=>hq n b (by omega) hb (dd.mono (by omega)),by omega⟩
   refine⟨by decide,_,ex,rfl,aB (fun _=>?_) (fun _=>?_)⟩
   ·refine⟨by decide,by decide,fun r2 r20 r21=>?_⟩
    obtain⟨v2,ev2,hv2⟩:=JV (x:=3) (y:=9) (z:=1000) r20 r21;refine⟨_,ev2,by omega,by omega,fun c c0 c1=>⟨by decide,by decide,fun r4 r40 r41=>?_⟩⟩
    obtain⟨wd,ew,hw⟩:=NY r40 r41;refine⟨_,ew,rfl,rfl,ks,hs,ws,sc,f,h,u - 1,rfl,W,hf,S,hl,uN,fun n b hn hb dd=>hq (n+1) _ (by omega) (.cW hw hb) ((BU dd).mono (by omega))⟩
   ·refine(fun rest=>aB (fun _=>aB (fun hne=>?_) (fun _=>rest)) (fun _=>rest)) ?_
    ·have RZ:sc ≠ []:=fun z=>by rw[z]at hne;exact absurd hne (by decide)
     exact⟨ks,hs,ws,sc,f,h,u - 1,rfl,W,hf,S,by omega,RZ,uN,fun n b hn hb dd=>hq n b (by rw[u1];exact hn) hb (dd.mono (by omega))⟩
    refine(fun rest=>⟨rfl,aB (fun _=>aB (fun hne=>G5 C (fun z=>by rw[z]at hne;exact absurd hne (by decide)) _ _ _ _ _ _ _ _ _ _) (fun _=>rest)) (fun _=>rest)⟩) ?_
    exact G7 C _ _ _ _ _ _ _ _ _ _
theorem xO(T:Txt K mg a):a8 P w K mg base CX0 66 a.eV a.rL ["_law_deal_here","_law_most","_law_room"] (spQ K Bb):=by
 have aT:=kc (@gO P w K mg base a T);have Jw:=@Ea P w K mg base a T;have Jx:=@Ed P w K mg base a T;have gY:=@HZ P w K mg base a T 31;refine T.mM.F.okQ bu (fun ts Q h=>?_) (fun _ _ _ _ _ _ hr=>?_)
 ·obtain⟨m,u,rfl,_⟩:=h;rfl
 ·have hu:=bG hr;refine⟨_,_,((ag (aC 3 bu.nd (aP Jw hr T.AB (af (qv 0) (af ah az))))
 (ag (aC 4 bu.nd (aP Jx hr T.AE (af (qv 0) (af (qv 3) az))))
 (ag (aC 5 bu.nd (aG ai))
 (ag (aC 6 bu.nd (oA ah (QPF.w (aP aT hr T.a6 (af (qv 0) (af ah az))))))
 (ag (bp (g:=(Tg.nm 7)) PassesOwn.never rfl (jf rfl T.gT (af (QPF.w (bq ah (QPF.w (aP aT hr T.a6 (af (qv 0) (af (qv 1) az)))))) az)) (a7 7 bu.nd)
 (ag (aC 8 bu.nd (jT (aG (ae bF (ae bF (ae bF (ae bF (ae bF (ae bF (ae bF ai)))))))) (QPF.w (aP aT hr T.a6 (af (qv 0) (af ah az))))))
 (ag (kG (i:=9) bu.nd rfl (Or.inl rfl) rfl (lR rfl T.gT (af (qv 8) az)) (N':=["_law_k","_law_words_here","_law_kinds_here","_law_deal_here"]) (.own rfl (.got (i:=3) rfl rfl (.inl rfl) (.got (i:=4) rfl rfl (.inl rfl) (.got (i:=0) rfl rfl (.inl rfl) .nil)))) (bZ (g:=(Tg.nm 0)) (fun _ _ _ _ _=>⟨(cG 0),(av (ae (QPE.f (aq (qv 1) (qv 0))) (ae (QPE.f (aq (aq (qv 2) (QPF.w (aP aT hr T.a6 (af (qv 3) (af (QPF.w (b8 T.cX (af (qv 2) az))) az))))) ah)) ai)))⟩)))
 (aj (aY (i:=5) (pv 5) (av (ae (QPE.f (aq (qv 3) (QPF.w (fc (jt rfl) xa (by rfl) T.Ak (by kernel_rfl) (af (QPF.w (Dy (qv 6) (qv 7))) (af (QPF.w (Dy (qv 7) (qv 6))) az)))))) (ae (aN (cq rfl) ck (by rfl) T.di (by kernel_rfl) (af (qv 9) az)) (ae (QPE.f (aq (aq (qv 4) (QPF.w (aP aT hr T.a6 (af (qv 0) (af (QPF.w (b8 T.cX (af (qv 4) az))) az))))) ah)) ai)))))))))
 (ag (aC 10 bu.nd (aG ai))
 (ag (bp (g:=(Tg.tp [7,11])) PassesOwn.never rfl (Dw (i:=5) rfl T.bx (by kernel_rfl) (pv 5)) (c8 (a7 7 bu.nd) (a7 11 bu.nd))
 (ag (aC 12 bu.nd (aP gY hr T.kx (af (qv 0) (af (Hf (af (qv 4) (af (qv 5) (af (qv 3) az)))) (af (QPF.w (aN (B7 rfl) AY (by rfl) T.pY (by kernel_rfl) (af (aq (qv 11) ah) az))) (af (qv 7) (af (QPF.w (Hg (aG (ae (QPE.f (qv 2)) ai)))) az)))))))
 (aj (aY (i:=10) (pv 10) (bq (qv 11) (QPF.w (av (ae (QPE.f (qv 12)) ai))))))))
 (aj (aI (av (ae (QPE.f (qv 4)) (ae (aN (cq rfl) ck (by rfl) T.di (by kernel_rfl) (af (qv 10) az)) ai))))))))))))),fun ts Q hh=>?_⟩
  obtain⟨mo,u,rfl,mo0,mo8,u0,u30,hq⟩:=hh;refine⟨40,rfl,by decide,by decide,fun ws hl hnd _=>?_⟩
  have hl:ws.length=40:=by omega
  refine⟨ws,rfl,hl,hnd,fun ks gk0 _=>⟨by decide,by decide,fun ow w0 w1=>?_⟩⟩
  have gk:=gk0.p;have k1:=gk.k1;have k2:=gk.k2;have lk:((ks.map tK).length:Int)=ks.length:=by rw[j3]
  refine⟨.inl ⟨by omega,by omega⟩,by omega,by omega,fun n n0 n1=>?_⟩
  refine⟨by omega,by omega,fun i q=>∃ hs L o5 o6 o7,q = [.r .cZ,.r (.i mo),.r (.i u),.o (.l (ws.map .s)),.o (tKs ks),.o (.l L),.o (.i (39*ow)),o5,o6,o7,.no,.no,.no]/\L=hs.map tH/\rR ks ws ow.toNat hs i,⟨[],_,_,_,_,rfl,rfl,⟨rfl,rfl,fun _ z=>nomatch z⟩⟩,?_,?_⟩
  ·rintro i x q hx ⟨hs,L,o5,o6,o7,rfl,rfl,hH⟩
   obtain⟨rfl,hi⟩:=jQ hx;refine⟨_,rfl,by decide,by decide,fun r2 r20 r21=>?_⟩
   obtain⟨m,hm,em⟩:=iL (xs:=[1,1,2,2,0,3,4]) (f:=L2.T.i) r20 r21;have hm:m=1\/m=1\/m=2\/m=2\/m=0\/m=3\/m=4:=by simpa using hm
   refine⟨_,em,by omega,by omega,ay (by rw[dC];omega),fun p ys=>∃ ps:Sc,ys=ps.map tP/\ps.map (·.1)=ws.take p/\∀ q∈ps,q.2∈ks.map (·.1),⟨[],rfl,rfl,fun _ z=>nomatch z⟩,?_,?_⟩
   ·rintro p y ys hy ⟨ps,rfl,hp1,hp2⟩
    obtain⟨rfl,hp⟩:=jQ hy;have hpw:p<ws.length:=by omega
    have ew:atI (ws.map L2.T.s) (0+((p:Nat):Int))=some (.s ws[p]):=by rw[Vn];exact fh (by simp[hpw])
    refine⟨_,rfl,_,ew,rfl,by rw[lk];omega,by rw[lk];omega,fun r3 r30 r31=>?_⟩
    rw[lk]at r31;obtain⟨kd,hkd,ek⟩:=iL (f:=tK) r30 r31;refine⟨_,ek,_,rfl,rfl,ps ++ [(ws[p],kd.1)],by simp[tP],?_,fun q hq'=>?_⟩
    ·rw[S9,hp1];exact take_one (by simp[hpw])
    ·rcases SY.mp hq' with z|z
     ·exact hp2 q z
     ·rw[qr.mp z];exact S5.mpr ⟨kd,hkd,rfl⟩
   ·rintro ys ⟨ps,rfl,hp1,hp2⟩
    rw[dC]at hp1;have lps:ps.length=m.toNat:=by
     have:=congrArg UB hp1
     rw[j3,Ti]at this;omega
    have hwi:jW ow.toNat i<ws.length:=by unfold jW;split <;> omega
    have ei:atI (ws.map L2.T.s) (if 0+(i:Int) - 39*ow > 39*ow - (0+(i:Int))then 0+(i:Int) - 39*ow else 39*ow - (0+(i:Int)))=some (.s ws[jW ow.toNat i]):=by
     have e:(if 0+(i:Int) - 39*ow > 39*ow - (0+(i:Int))then 0+(i:Int) - 39*ow else 39*ow - (0+(i:Int))) =((jW ow.toNat i:Nat):Int):=by
      unfold jW
      have:ow=0\/ow=1:=by omega
      rcases this with rfl|rfl
      ·show _ =((i:Nat):Int);split <;> omega
      ·show _ =((39 - i:Nat):Int);split <;> omega
     rw[e];exact fh (by simp[hwi])
    refine⟨ay (by rw[j3,hH.ln];omega),_,ei,rfl,aU fi _,by rw[lk];omega,by rw[lk];omega,fun r4 r40 r41=>?_⟩
    rw[lk]at r41;obtain⟨kd,hkd,ek⟩:=iL (f:=tK) r40 r41;refine⟨_,ek,_,rfl,rfl,hs ++ [(ws[jW ow.toNat i],ps,kd.1)],_,_,_,_,rfl,by simp[tH],hH.snoc (Es hwi) ⟨by show ps.length<=4;omega,hp2,by show ps.map (·.1)=ws.take ps.length;rw[lps];exact hp1,S5.mpr ⟨kd,hkd,rfl⟩⟩⟩
  ·rintro q ⟨hs,L,o5,o6,o7,rfl,rfl,hH⟩
   rw[dC]at hH;have W:Wld ks hs ws:=⟨gk,hl,hnd,by rw[hH.ln];omega,by rw[hH.ln];omega,hH.nd hl hnd (by omega),hH.hp⟩
   refine⟨fun i q=>∃ fs L o5 o9 o10,q = [.r .cZ,.r (.i mo),.r (.i u),.o (.l (ws.map .s)),.o (tKs ks),.r (.l (hs.map tH)),.o (.i (39*ow)),o5,o6,o7,.o (.l L),o9,o10]/\L=fs.map tF/\fs.map (·.1)=hs.take i/\∀ f∈fs,Snd ks hs f.1.2.2 f.2.2 f.1.2.1 f.2.1/\f.2.2<=50000/\Dep 92 f.2.1,⟨[],_,_,_,_,rfl,rfl,rfl,fun _ z=>nomatch z⟩,?_,?_⟩
   ·rintro i x q hx ⟨fs,L,o5,o9,o10,rfl,rfl,hf1,hf2⟩
    obtain⟨y,hy,rfl⟩:=cj hx;rw[L7]at hy;obtain⟨hd,hhd,rfl⟩:=QX.mp hy;have IF:=RB hhd;obtain⟨q1,q2,q3,q4⟩:=W.hp hd IF;have lfs:fs.length=i:=by
     have:=congrArg UB hf1
     rw[j3,Ti]at this
     have:=(QH.mp hhd).1
     omega
    have lhs:=W.h8;have hil:=(QH.mp hhd).1;refine⟨_,rfl,_,rfl,aU fi _,rfl,ks,hs,ws,hd.2.1,i,hd,u,rfl,W,hhd,⟨q3,by omega,q2,S3 _,by rw[Tb]⟩,by omega,by omega,fun n b hn hb dd=>?_⟩
    refine⟨ay (by rw[j3];omega),hb.im,bo (by show 4<=10000;decide),OQ hd,(by show(b.im&&true)=true;rw[hb.im];rfl),fs ++ [(hd,b,n)],_,_,_,_,rfl,by simp[tF],?_,fun f' hf'=>?_⟩
    ·rw[S9,hf1,S8,hhd];rfl
    ·rcases SY.mp hf' with z|z
     ·exact hf2 f' z
     ·rw[qr.mp z];exact⟨hb,Tn hn (Tn (Gy (by omega)) M6),dd.mono (by omega)⟩
   ·rintro q ⟨fs,L,o5,o9,o10,rfl,rfl,hf1,hf2⟩
    rw[bg,j3,Tb]at hf1;have him:L2.T.ims (fs.map tF)=true:=by
     have go:∀(l:List Fn),(∀ f∈l,f.2.1.im=true)->L2.T.ims (l.map tF)=true:=by
      intro l
      induction l with
      | nil=>intro _;rfl
      | cons f r ih =>
       intro h;show((true&&(L2.T.ims (f.1.2.1.map tP)&&(true&&(f.2.1.im&&true))))&&L2.T.ims (r.map tF))=true;rw[aU fi,h f SG,ih fun f hf=>h f (SK _ hf)];rfl
     exact go fs fun f hf=>(hf2 f hf).1.im
    refine⟨j8 ks,him,hq ks fs ⟨gk,?_,?_,fun f hf=>?_,fun f hf=>?_,fun f hf=>(hf2 f hf).2.2⟩⟩
    ·have:=congrArg UB hf1
     rw[j3]at this
     have:=W.h8
     omega
    ·have:fs.map (·.1.1) =(fs.map (·.1)).map (·.1):=by rw[TQ];rfl
     rw[this,hf1];exact W.hn
    ·have hm:f.1∈hs:=by rw[<- hf1];exact S5.mpr ⟨f,hf,rfl⟩
     obtain⟨q1,q2,q3,q4⟩:=W.hp f.1 hm;exact⟨q1,q2,by rw[q3];exact hnd.sublist (UO _ _),q4⟩
    ·rw[hf1];exact⟨(hf2 f hf).1,(hf2 f hf).2.1⟩
theorem gR{ts:List L2.T}(h:∀ t∈ts,t.im=true):L2.T.ims ts=true:=by
 induction ts with
 | nil=>rfl
 | cons t r ih=>show(t.im&&L2.T.ims r)=true;rw[h t SG,ih fun t ht=>h t (SK _ ht)];rfl
theorem cx(h:n<=1002000):n<S4:=UU h (by decide)
def Jp:L2.T->L2.T
 | .t [_,_,b]=>b
 | _=>.n
def subs:L2.T->List (L2.T×L2.T)
 | .t [.s _,.s _,.t arms]=>arms.map fun x=>(Jp x,x)
 | .t [.s _,.i _,b]=>[(b,.n)]
 | .t [.s _,.s _,.s _,b]=>[(b,.n)]
 | .t [.s _,.s _,.s _,.t _,b]=>[(b,.n)]
 | _=>[]
inductive Kid(ks:List Kd)(hs:List Hd):Sc->L2.T->Nat->L2.T->L2.T->Sc->Prop
 | cW{sc:Sc}{w:Str}{c:Int}{b:L2.T}:(w = "pay" \/ w = "get")->Kid ks hs sc (.t [.s w,.i c,b]) 0 b .n sc
 | name{sc:Sc}{x y k:Str}{b:L2.T}:(y,k)∈sc->x ∉ sc.map (·.1)->Kid ks hs sc (.t [.s "name",.s x,.s y,b]) 0 b .n (sc ++ [(x,k)])
 | make{sc:Sc}{x:Str}{m:Mk1}{kd:Kd}{ns:List Str}{b:L2.T}:kd∈ks->m∈kd.2->x ∉ sc.map (·.1)->Kid ks hs sc (.t [.s "make",.s x,.s m.1,.t (ns.map .s),b]) 0 b .n (sc ++ [(x,kd.1)])
 | call{sc:Sc}{x:Str}{h:Hd}{ns:List Str}{b:L2.T}:h∈hs->x ∉ sc.map (·.1)->Kid ks hs sc (.t [.s "call",.s x,.s h.1,.t (ns.map .s),b]) 0 b .n (sc ++ [(x,h.2.2)])
 | case{sc:Sc}{x:Str}{kd:Kd}{arms:List Arm}{j:Nat}{a:Arm}{m:Mk1}:(x,kd.1)∈sc->kd∈ks->arms.map (·.1)=kd.2.map (·.1)->arms[j]? = some a->kd.2[j]? = some m->a.2.1.length=m.2.length ->(sc.map (·.1)++a.2.1).Nodup->Kid ks hs sc (.t [.s "case",.s x,.t (arms.map tA)]) j a.2.2.1 (tA a) (sc++a.2.1.zip m.2)
inductive Shp:L2.T->Prop
 | give{x:Str}:Shp (.t [.s "give",.s x])
 | cW{w:Str}{c:Int}{b:L2.T}:(w = "pay" \/ w = "get")->b.im=true->Shp (.t [.s w,.i c,b])
 | name{x y:Str}{b:L2.T}:b.im=true->Shp (.t [.s "name",.s x,.s y,b])
 | use{w x m:Str}{ns:List Str}{b:L2.T}:(w = "make" \/ w = "call")->b.im=true->Shp (.t [.s w,.s x,.s m,.t (ns.map .s),b])
 | case{x:Str}{arms:List Arm}:(∀ a∈arms,a.2.2.1.im=true)->arms.length<=50000->Shp (.t [.s "case",.s x,.t (arms.map tA)])
structure Nod where
 b:L2.T
 ab:L2.T
 am:L2.T
 pa:List (Nat×L2.T×Nat)
 sc:Sc
def LU(n:Nat)(d:Nod)(j:Nat)(b am:L2.T)(sc:Sc):Nod:=⟨b,.i n,am,d.pa ++ [(n,d.b,j)],sc⟩
inductive Ask(ks:List Kd)(sc:Sc):L2.T->Option Str->Prop
 | give{x:Str}:Ask ks sc (.t [.s "give",.s x]) none
 | cW{w:Str}{c:Int}{b:L2.T}:(w = "pay" \/ w = "get")->Ask ks sc (.t [.s w,.i c,b]) none
 | name{x y k:Str}{b:L2.T}:(y,k)∈sc->Ask ks sc (.t [.s "name",.s x,.s y,b]) (some k)
 | make{x:Str}{m:Mk1}{kd:Kd}{ns:List Str}{b:L2.T}:kd∈ks->m∈kd.2->Ask ks sc (.t [.s "make",.s x,.s m.1,.t (ns.map .s),b]) (some kd.1)
 | call{x g:Str}{ns:List Str}{b:L2.T}:Ask ks sc (.t [.s "call",.s x,.s g,.t (ns.map .s),b]) none
 | case{x k:Str}{arms:List Arm}:(x,k)∈sc->Ask ks sc (.t [.s "case",.s x,.t (arms.map tA)]) (some k)
structure MB(ks:List Kd)(hs:List Hd)(n:Nat)(d:Nod)(cs:List Nod):Prop where
 ok:∀(j:Nat)(c:Nod),cs[j]? = some c->c=LU n d j c.b c.am c.sc/\Kid ks hs d.sc d.b j c.b c.am c.sc
 su:cs.map (fun c=>(c.b,c.am))=subs d.b
 sh:Shp d.b
 ak:∃ o,Ask ks d.sc d.b o
mutual
inductive Pre(ks:List Kd)(hs:List Hd):Nat->Nod->List Nod->Prop
 | mk{n:Nat}{d:Nod}{cs L:List Nod}:MB ks hs n d cs->cf ks hs (n+1) cs L->Pre ks hs n d (d::L)
inductive cf(ks:List Kd)(hs:List Hd):Nat->List Nod->List Nod->Prop
 | nil{n:Nat}:cf ks hs n [] []
 | cons{n:Nat}{d:Nod}{ds L M:List Nod}:Pre ks hs n d L->cf ks hs (n+L.length) ds M->cf ks hs n (d::ds) (L++M)
end
variable{ds:List Nod}{L:List Nod}
theorem cf.app{es M:List Nod}:∀{n:Nat},cf ks hs n ds L->cf ks hs (n+L.length) es M->cf ks hs n (ds++es) (L++M):=by
 induction ds generalizing L with
 | nil=>intro n h h2;cases h;simpa using h2
 | cons d ds ih =>
  intro n h h2;cases h with
  | @cons _ _ _ L1 M1 h1 h3 =>
   rw[VF,Tp];exact .cons h1 (ih h3 (by rw[RM,<- V0]at h2;exact h2))
theorem cf.pop{d:Nod}(h:cf ks hs n (d::ds) L):∃ cs L',MB ks hs n d cs/\L=d::L'/\cf ks hs (n+1) (cs++ds) L':=by
 cases h with
 | @cons _ _ _ L1 M1 h1 h3 =>
  cases h1 with
  | @mk _ _ cs L2 hk h2 =>
   refine⟨cs,L2++M1,hk,rfl,h2.app ?_⟩;rw[Te]at h3;rw[show n+1+L2.length=n+(L2.length+1)by omega]
   exact h3
theorem cf.le(h:cf ks hs n ds L):ds.length<=L.length:=by
 induction ds generalizing n L with
 | nil=>exact TX _
 | cons d ds ih =>
  cases h with
  | cons h1 h3 =>
   have:=ih h3
   cases h1;simp only[Te,RM];omega
theorem LR{l:List Nat}{x:Nat}(h:x∈l):x<=l.sum:=by
 induction l with
 | nil=>cases h
 | cons y r ih =>
  rw[Vh];rcases S1.mp h with z|z
  ·omega
  ·have:=ih z;omega
theorem Ir{l:List Nat}(h:∀ x∈l,1<=x):l.length<=l.sum:=by
 induction l with
 | nil=>exact S3 _
 | cons y r ih =>
  have h1:=h y SG;have h2:=ih fun z hz=>h z (SK _ hz)
  rw[Vh,Te];omega
theorem Snd.pos{b:L2.T}(h:Snd ks hs r n sc b):1<=n:=by cases h <;> omega
theorem Snd.pre{m:Nat}{b:L2.T}(h:Snd ks hs r m sc b)(hm5:m<=50000):∀(n:Nat)(ab am:L2.T)(pa:List (Nat×L2.T×Nat)),∃ L,Pre ks hs n ⟨b,ab,am,pa,sc⟩ L/\L.length<=m:=by
 have one:∀{m:Nat}{sc sc':Sc}{b b':L2.T}{o:Option Str},Kid ks hs sc b 0 b' .n sc'->Shp b->Ask ks sc b o->subs b = [(b',.n)] ->(∀(n:Nat)(ab am:L2.T)(pa:List (Nat×L2.T×Nat)),∃ L,Pre ks hs n ⟨b',ab,am,pa,sc'⟩ L/\L.length<=m)->∀(n:Nat)(ab am:L2.T)(pa:List (Nat×L2.T×Nat)),∃ L,Pre ks hs n ⟨b,ab,am,pa,sc⟩ L/\L.length<=m+1:=by
  intro m sc sc' b b' o hk sh ak hs' ih n ab am pa;obtain⟨L,h1,h2⟩:=ih (n+1) (.i n) .n (pa ++ [(n,b,0)]);refine⟨⟨b,ab,am,pa,sc⟩::L,.mk (cs:=[⟨b',.i n,.n,pa ++ [(n,b,0)],sc'⟩]) ⟨fun j c hc=>?_,by rw[hs'];rfl,sh,⟨o,ak⟩⟩ (by have:=cf.cons h1 (.nil);rwa [Td]at this),by simp;omega⟩
  cases j with
  | zero=>cases hc;exact⟨rfl,hk⟩
  | succ j=>simp at hc
 induction h with
 | give hx =>
  intro n ab am pa;exact⟨[_],.mk (cs:=[]) ⟨fun j c hc=>by simp at hc,rfl,.give,⟨none,.give⟩⟩ .nil,by simp⟩
 | cW hw h ih=>exact one (.cW hw) (.cW hw h.im) (.cW hw) rfl (ih (by omega))
 | name hy hx h ih=>exact one (.name hy hx) (.name h.im) (.name hy) rfl (ih (by omega))
 | make hkd hm hF hx h ih=>exact one (.make hkd hm hx) (.use (.inl rfl) h.im) (.make hkd hm) rfl (ih (by omega))
 | call hh hF hx h ih=>exact one (.call hh hx) (.use (.inr rfl) h.im) .call rfl (ih (by omega))
 | @case sc x kd arms hx hkd hnm h1 h2 ih =>
  intro n ab am pa;have el:arms.length=kd.2.length:=by simpa using congrArg UB hnm
  have sz:∀(j:Nat)(a:Arm),arms[j]? = some a->a.2.2.2 <=(arms.map (·.2.2.2)).sum:=fun j a ha=>LR (S5.mpr ⟨a,RB ha,rfl⟩)
  have sh:Shp (.t [.s "case",.s x,.t (arms.map tA)]):=.case (fun a ha=>by
   obtain⟨i,hi,e⟩:=Tz ha;exact(h2 i a (kd.2[i]'(by omega)) (by rw[Es hi,e]) (Es _)).im) (by
   have:arms.length <=(arms.map (·.2.2.2)).sum:=by
    have:=Ir (l:=arms.map (·.2.2.2)) fun z hz=>by
     obtain⟨a,ha,rfl⟩:=S5.mp hz;obtain⟨i,hi,e⟩:=Tz ha;exact(h2 i a (kd.2[i]'(by omega)) (by rw[Es hi,e]) (Es _)).pos
    simpa using this
   omega)
  let b:L2.T:=.t [.s "case",.s x,.t (arms.map tA)]
  have go:∀(k j:Nat),j+k=arms.length->∀ n',∃(cs L:List Nod),cf ks hs n' cs L/\cs.length=k/\L.length <=((arms.drop j).map (·.2.2.2)).sum/\cs.map (fun c=>(c.b,c.am)) =(arms.drop j).map (fun a=>(a.2.2.1,tA a))/\∀(i:Nat)(c:Nod),cs[i]? = some c->c=LU n ⟨b,ab,am,pa,sc⟩ (j+i) c.b c.am c.sc/\Kid ks hs sc b (j+i) c.b c.am c.sc:=by
   intro k
   induction k with
   | zero =>
    intro j hj n';refine⟨[],[],.nil,rfl,TX _,?_,fun i c hc=>by simp at hc⟩
    rw[List.drop_eq_nil_of_le (by omega)];rfl
   | succ k ihk =>
    intro j hj n';have hjl:j<arms.length:=by omega
    have ea:arms[j]? = some arms[j]:=Es hjl;have em:kd.2[j]? = some (kd.2[j]'(by omega)):=Es _
    obtain⟨q1,q2⟩:=h1 j _ _ ea em;have hK:Kid ks hs sc b j arms[j].2.2.1 (tA arms[j]) (sc++arms[j].2.1.zip (kd.2[j]'(by omega)).2):=.case hx hkd hnm ea em q1 q2
    obtain⟨L1,p1,p2⟩:=ih j _ _ ea em (by have:=sz j _ ea;omega) n' (.i n) (tA arms[j]) (pa ++ [(n,b,j)])
    obtain⟨cs,L,c1,c2,c3,c4,c5⟩:=ihk (j+1) (by omega) (n'+L1.length)
    have ed:arms.drop j=arms[j]::arms.drop (j+1):=U1 hjl;refine⟨_::cs,L1++L,.cons p1 c1,by simp[c2],?_,?_,fun i c hc=>?_⟩
    ·rw[ed,Tx,Vh,RM];omega
    ·rw[ed,Tx,Tx,c4]
    ·cases i with
     | zero=>cases hc;exact⟨rfl,hK⟩
     | succ i =>
      obtain⟨z1,z2⟩:=c5 i c hc;rw[show j+(i+1)=j+1+i by omega]
      exact⟨z1,z2⟩
  obtain⟨cs,L,c1,_,c3,c4,c5⟩:=go arms.length 0 (by omega) (n+1)
  rw[Vr]at c3 c4;refine⟨_::L,.mk (cs:=cs) ⟨fun j c hc=>?_,?_,sh,⟨_,.case hx⟩⟩ c1,by simp;omega⟩
  ·have:=c5 j c hc
   rwa [UA]at this
  ·rw[c4];show _ =(arms.map tA).map fun x=>(Jp x,x)
   rw[TQ];rfl
theorem cf.from:∀(k:Nat){n:Nat}{ds M:List Nod},M.length=k->cf ks hs n ds M->∀(m:Nat)(d:Nod),M[m]? = some d ->(∃ j,ds[j]? = some d/\(m=0->j=0))\/∃(p:Nat)(e:Nod)(cs:List Nod)(j:Nat),p<m/\M[p]? = some e/\MB ks hs (n+p) e cs/\cs[j]? = some d:=by
 intro k
 induction k with
 | zero =>
  intro n ds M hl h m d hm;rw[TM.mp hl]at hm;simp at hm
 | succ k ih =>
  intro n ds M hl h m d hm;cases ds with
  | nil=>cases h;simp at hl
  | cons d0 ds =>
   obtain⟨cs,L',hk,rfl,h2⟩:=h.pop;cases m with
   | zero=>cases hm;exact .inl ⟨0,rfl,fun _=>rfl⟩
   | succ m =>
    rcases ih (n:=n+1) (by simpa using hl) h2 m d (by simpa using hm)with⟨j,hj,_⟩ |⟨p,e,cs',j,hp,he,hK,hc⟩
    ·by_cases hjl:j<cs.length
     ·rw[TC hjl]at hj;exact .inr ⟨0,d0,cs,j,by omega,rfl,hk,hj⟩
     ·rw[Ub (by omega)]at hj
      exact .inl ⟨j - cs.length+1,by simpa using hj,fun z=>by omega⟩
    ·exact .inr ⟨p+1,e,cs',j,by omega,by simpa using he,by rw[show n+(p+1)=n+1+p by omega];exact hK,hc⟩
def spT(C:Addr)(p a r:L2.T):L2.T:=.ob C ["piece","above","arm"] [p,a,r]
def spN(C:Addr)(d:Nod):L2.T:=spT C d.b d.ab d.am
def Bd(C:Addr):PSp:=fun ts Q=>∃(b:L2.T)(n:Nat),ts = [b,.i n]/\Shp b/\b.im=true/\Q (.l ((subs b).map fun p=>spT C p.1 (.i n) p.2))
theorem Shp.im{b:L2.T}(h:Shp b):b.im=true:=by
 cases h with
 | give=>rfl
 | cW _ h=>show(true&&(true&&(L2.T.im _&&true)))=true;rw[h];rfl
 | name h=>show(true&&(true&&(true&&(L2.T.im _&&true))))=true;rw[h];rfl
 | use _ h=>show(true&&(true&&(true&&(L2.T.ims _&&(L2.T.im _&&true)))))=true;rw[h,aL];rfl
 | case h =>
  show(true&&(true&&(L2.T.ims _&&true)))=true;rw[gR fun t ht=>by
   obtain⟨a,ha,rfl⟩:=S5.mp ht;show(true&&(L2.T.ims (a.2.1.map .s)&&(a.2.2.1.im&&true)))=true;rw[h a ha,aL];rfl]
  rfl
theorem cf.ims{M:List Nod}(h:cf ks hs n ds M):∀ e∈M,e.b.im=true:=by
 have go:∀(k:Nat){n:Nat}{ds M:List Nod},M.length=k->cf ks hs n ds M->∀ e∈M,e.b.im=true:=by
  intro k
  induction k with
  | zero =>
   intro n ds M hl h e he;rw[TM.mp hl]at he;cases he
  | succ k ih =>
   intro n ds M hl h e he;cases ds with
   | nil=>cases h;simp at hl
   | cons d0 ds =>
    obtain⟨cs,L',hK,rfl,h2⟩:=h.pop;rcases S1.mp he with rfl|he
    ·exact hK.sh.im
    ·exact ih (by simpa using hl) h2 e he
 exact go _ rfl h
theorem cf.asks:∀(k:Nat){n:Nat}{ds M:List Nod},M.length=k->cf ks hs n ds M->∀ e∈M,∃ o,Ask ks e.sc e.b o:=by
 intro k
 induction k with
 | zero =>
  intro n ds M hl h e he;rw[TM.mp hl]at he;cases he
 | succ k ih =>
  intro n ds M hl h e he;cases ds with
  | nil=>cases h;simp at hl
  | cons d0 ds =>
   obtain⟨cs,L',hK,rfl,h2⟩:=h.pop;rcases S1.mp he with rfl|he
   ·exact hK.ak
   ·exact ih (by simpa using hl) h2 e he
def Hv(C:Addr):PSp:=fun ts Q=>∃(ks:List Kd)(hs:List Hd)(d:Nod)(L:List Nod),ts = [d.b]/\d.ab = .n/\d.am = .n/\Pre ks hs 0 d L/\L.length<=50000/\Q (.l (L.map (spN C)))
def DU:PSp:=fun ts Q=>∃(ks:List Kd)(hs:List Hd)(d:Nod)(L:List Nod),ts = [d.b]/\d.ab = .n/\d.am = .n/\Pre ks hs 0 d L/\L.length<=50000/\Q (.l (L.map (·.b)))
theorem zG(T:Txt K mg a):a8 P w K mg base CX0 1 a.bU a.iV ["self","piece","above","arm"] (w6 a.aM ["piece","above","arm"]):=by
 refine Fun.ok (k:=0) T.fC sx (fun vs H Q E h=>?_) fun cdv A outer s H vs Q E hr h=>?_
 ·obtain⟨x,dx,args,rfl,hl,_⟩:=h;show args.length+1=4;rw[hl];rfl
 ·obtain⟨x,dx,args,rfl,hl,hx,hq⟩:=h;obtain⟨v1,v2,v3,rfl⟩:∃ v1 v2 v3,args = [v1,v2,v3]:=by
   match args,hl with
   | [v1,v2,v3],_=>exact⟨v1,v2,v3,rfl⟩
  refine⟨_,bQ (xD (pv 0) (pv 1) rfl) (bQ (xD (pv 0) (pv 2) rfl) (gJ (xD (pv 0) (pv 3) rfl))),?_⟩;refine⟨_,rfl,_,rfl,x,a.aM,dx,_,rfl,hx,T.dJ,T.dG,(by show 0<1000;decide),?_⟩
  refine⟨_,rfl,_,rfl,x,a.aM,dx,_,rfl,ax,T.dJ,T.dH,(by show 1<1000;decide),?_⟩
  refine⟨_,rfl,_,rfl,x,a.aM,dx,_,rfl,ax,T.dJ,T.mS,(by show 2<1000;decide),?_⟩
  rw[nu,nu];exact hq
theorem l7(T:Txt K mg a):a8 P w K mg base CX0 3 a.bM a.g8 ["piece","number"] (spQ K (Bd a.aM)):=by
 have nP:=@zG P w K mg base a T;refine T.ia.F.okQ lK (fun ts Q h=>?_) (fun _ _ _ _ _ _ hr=>?_)
 ·obtain⟨b,n,rfl,_⟩:=h;rfl
 ·have hu:=bG hr;refine⟨_,_,((ag (aX (bD hu (aq (qv 0) ah) (QPF.w aJ))
 (aj (aI (aG ai)))
 aD)
 (ag (aX (bD hu (aq (qv 0) ah) (QPF.w aJ))
 (aj (aI (bj rfl (fJ (aq (qv 0) ah)) (N':=["arm","number"]) (.own rfl (.got (i:=1) rfl rfl (.inl rfl) .nil)) (bZ (g:=(Tg.nm 0)) (fun _ _ _ _ _=>⟨(cG 0),(oB rfl T.tN nP (hr.mono (by first|decide|omega)) rfl T.tL T.i4 (af (aq (qv 0) ah) (af (qv 1) (af (qv 0) az))))⟩)))))
 aD)
 (aj (aI (aG (ae (oB rfl T.tN nP (hr.mono (by first|decide|omega)) rfl T.tL T.i4 (af (aq (qv 0) (QPF.w (sN ah))) (af (qv 1) (af (QPF.w dX) az)))) ai))))))),fun ts Q h=>?_⟩
  obtain⟨b,n,rfl,hS,him,hq⟩:=h;cases hS with
  | give=>exact⟨_,rfl,rfl,aB (fun _=>hq) (fun z=>absurd (by decide +kernel) z)⟩
  | @cW w c b hw hb =>
   have n1:¬ decide ((L2.T.s w).v =(L2.T.s "give").v)=true:=by rcases hw with rfl|rfl <;> decide +kernel
   have n2:¬ decide ((L2.T.s w).v =(L2.T.s "case").v)=true:=by rcases hw with rfl|rfl <;> decide +kernel
   refine⟨_,rfl,rfl,aB (fun z=>absurd z n1) fun _=>⟨_,rfl,rfl,aB (fun z=>absurd z n2) fun _=>⟨_,rfl,?_⟩⟩⟩
   exact⟨(by show(b.im&&(true&&(true&&true)))=true;rw[hb];rfl),rfl,hq⟩
  | @name x y b hb =>
   refine⟨_,rfl,rfl,aB (fun z=>absurd z (by decide +kernel)) fun _=>⟨_,rfl,rfl,aB (fun z=>absurd z (by decide +kernel)) fun _=>⟨_,rfl,?_⟩⟩⟩
   exact⟨(by show(b.im&&(true&&(true&&true)))=true;rw[hb];rfl),rfl,hq⟩
  | @use w x m ns b hw hb =>
   have n1:¬ decide ((L2.T.s w).v =(L2.T.s "give").v)=true:=by rcases hw with rfl|rfl <;> decide +kernel
   have n2:¬ decide ((L2.T.s w).v =(L2.T.s "case").v)=true:=by rcases hw with rfl|rfl <;> decide +kernel
   refine⟨_,rfl,rfl,aB (fun z=>absurd z n1) fun _=>⟨_,rfl,rfl,aB (fun z=>absurd z n2) fun _=>⟨_,rfl,?_⟩⟩⟩
   exact⟨(by show(b.im&&(true&&(true&&true)))=true;rw[hb];rfl),rfl,hq⟩
  | @case x arms hb hl =>
   refine⟨_,rfl,rfl,aB (fun z=>absurd z (by decide +kernel)) fun _=>⟨_,rfl,rfl,aB (fun _=>?_) fun z=>absurd (by decide +kernel) z⟩⟩
   refine⟨_,rfl,cx (by rw[j3];omega),fun i ys=>ys =(arms.take i).map (fun z=>spT a.aM z.2.2.1 (.i n) (tA z)),rfl,?_,?_⟩
   ·rintro i y ys hy rfl
    rw[L7]at hy;obtain⟨z,hz,rfl⟩:=QX.mp hy;have hi:=hb z (RB hz);refine⟨_,rfl,_,rfl,(by show(z.2.2.1.im&&(true&&((true&&(L2.T.ims (z.2.1.map .s)&&(z.2.2.1.im&&true)))&&true)))=true;rw[hi,aL];rfl),rfl,?_⟩
    show _ ++ [spT a.aM z.2.2.1 (.i n) (tA z)]=_;rw[S8,hz];simp
   ·rintro ys rfl
    rw[j3,Tb];have e:(subs (.t [.s "case",.s x,.t (arms.map tA)])).map (fun p=>spT a.aM p.1 (.i n) p.2)=arms.map fun z=>spT a.aM z.2.2.1 (.i n) (tA z):=by
     show((arms.map tA).map fun x=>(Jp x,x)).map _=_
     rw[TQ,TQ];rfl
    rw[e]at hq;exact hq
theorem vT(T:Txt K mg a):a8 P w K mg base CX0 4 a.jk a.z9 ["body"] (spQ K (Hv a.aM)):=by
 have nP:=@zG P w K mg base a T;have nk:=@l7 P w K mg base a T;refine T.u6.F.okQ kC (fun ts Q h=>?_) (fun _ _ _ _ _ _ hr=>?_)
 ·obtain⟨ks,hs,d,L,rfl,_⟩:=h;rfl
 ·have hu:=bG hr;refine⟨_,_,((ag (aC 1 kC.nd (aG ai))
 (ag (aC 2 kC.nd (aG (ae (oB rfl T.tN nP (hr.mono (by first|decide|omega)) rfl T.tL T.i4 (af (qv 0) (af (QPF.w dX) (af (QPF.w dX) az)))) ai)))
 (ag (ox PassesOwn.never (kF (qv 2))
 (ag (Dt (j:=3) kC.nd rfl (Or.inl rfl) (pv 2))
 (ag (bA (i:=2) (pv 2) (vC rfl rfl T.pY rfl T.pX (QPF.w (aP nk hr T.ia (af (gI T.dJ T.dG (qv 3)) (af (QPF.w (b8 T.cX (af (qv 1) az))) az))))))
 (aj (aY (i:=1) (pv 1) (QPE.f (qv 3)))))))
 (aj (eR (i:=1) (pv 1))))))),fun ts Q h=>?_⟩
  obtain⟨ks,hs,d,L,rfl,e1,e2,hP,hL,hq⟩:=h;have him:d.b.im=true:=by cases hP with|mk hk _=>exact hk.sh.im
  refine⟨(by show(d.b.im&&(true&&(true&&true)))=true;rw[him];rfl),rfl,?_⟩
  refine⟨fun c q=>∃(A W M:List Nod)(X Y:List L2.T)(o3:Sl),q = [.r d.b,.o (.l X),.o (.l Y),o3]/\X=A.map (spN a.aM)/\Y=W.reverse.map (spN a.aM)/\cf ks hs A.length W M/\L=A++M/\c=M.length,⟨_,[],[d],L,_,_,_,rfl,rfl,?_,?_,rfl,rfl⟩,?_⟩
  ·show [spT a.aM d.b .n .n] = [spT a.aM d.b d.ab d.am];rw[e1,e2]
  ·have:=cf.cons hP (.nil)
   rwa [Td]at this
  rintro c q ⟨A,W,M,X,Y,o3,rfl,rfl,rfl,hM,hLM,rfl⟩
  cases W with
  | nil =>
   cases hM;rw[Td]at hLM;subst hLM;exact hq
  | cons v W =>
   obtain⟨cs,M',hK,rfl,h2⟩:=hM.pop;have hle:=h2.le;have hLl:A.length+(M'.length+1)<=50000:=by rw[hLM,RM,Te]at hL;exact hL
   rw[RM]at hle;have eY:(v::W).reverse.map (spN a.aM)=W.reverse.map (spN a.aM) ++ [spN a.aM v]:=by simp
   have hcs:cs.map (spN a.aM) =(subs v.b).map fun p=>spT a.aM p.1 (.i A.length) p.2:=by
    rw[<- hK.su,TQ];refine List.map_congr_left fun c hc=>?_
    obtain⟨j,hj,rfl⟩:=Tz hc;have e:=(hK.ok j _ (Es hj)).1;show spT _ _ _ _=spT _ _ _ _;rw[show cs[j].ab = .i A.length from congrArg Nod.ab e]
   refine aB (fun _=>?_) (fun z=>absurd (by rw[eY];simp) z)
   refine⟨fun q'=>∃(A W M:List Nod)(X Y:List L2.T)(o3:Sl),q' = [.r d.b,.o (.l X),.o (.l Y),o3]/\X=A.map (spN a.aM)/\Y=W.reverse.map (spN a.aM)/\cf ks hs A.length W M/\L=A++M/\M.length<M'.length+1,?_,?_⟩
   ·rintro q' ⟨A,W,M,X,Y,o3,rfl,rfl,rfl,g1,g2,g3⟩
    exact⟨M.length,g3,A,W,M,_,_,_,rfl,rfl,rfl,g1,g2,rfl⟩
   ·refine⟨_,_,eY,gR fun t ht=>by
     obtain⟨z,_,rfl⟩:=S5.mp ht;rfl,by decide,?_⟩
    refine⟨rfl,(by decide),_,rfl,v.b,A.length,(by rw[j3]),hK.sh,hK.sh.im,?_⟩
    refine⟨gR fun t ht=>by
     obtain⟨z,_,rfl⟩:=S5.mp ht;rfl,?_⟩
    rw[<- hcs];refine⟨?_,?_⟩
    ·have:W.length+cs.length<=1002000:=by omega
     simp only[j3,VY];exact Tr (cx this)
    ·refine⟨cx (by rw[j3];omega),rfl,?_⟩
     exact⟨A ++ [v],cs++W,M',_,_,_,rfl,by simp,by simp,by rw[RM];exact h2,by simp[hLM],by omega⟩
def en{α:Type}(f:α->Str)(g:α->L2.T)(x:α):Key×L2.T:=(.inr (f x),g x)
theorem oK{α:Type}{f:α->Str}{g:α->L2.T}:∀ xs:List α,du (xs.map fun x=>.t [.s (f x),g x])=some (xs.map (en f g))
 | []=>rfl
 | k::r=>by
  show(match(some (.inr (f k)):Option Key),du (r.map fun x=>.t [.s (f x),g x])with|some k',some r=>some ((k',g k)::r) | _,_=>none)=_
  rw[oK r];rfl
theorem v5{α:Type}{f:α->Str}{g:α->L2.T}{xs ys:List α}(h:((xs++ys).map f).Nodup):b7 (xs.map (en f g)) (ys.map (en f g)) =(xs++ys).map (en f g):=by
 rw[S9]at h;obtain⟨h1,h2,h3⟩:=T1.mp h;rw[oP,S9]
 ·rw[TQ]
  have:(ys.map ((fun x:Key×L2.T=>x.1) ∘ en f g)) =(ys.map f).map Sum.inr:=by rw[TQ];rfl
  rw[this];exact UY.mpr (h2.imp fun hne z=>hne (Sum.inr.inj z))
 ·intro p hp q hq;obtain⟨x,hx,rfl⟩:=S5.mp hp;obtain⟨y,hy,rfl⟩:=S5.mp hq;exact fun z=>h3 _ (S5.mpr ⟨y,hy,rfl⟩) _ (S5.mpr ⟨x,hx,rfl⟩) (Sum.inr.inj z)
theorem nO{α:Type}{f:α->Str}{g:α->L2.T}{xs:List α}(h:(xs.map f).Nodup):b7 [] (xs.map (en f g))=xs.map (en f g):=v5 (xs:=[]) h
theorem kX{α:Type}{f:α->Str}{g:α->L2.T}:∀{xs:List α}{x:α},(xs.map f).Nodup->x∈xs->bS (xs.map (en f g)) (.inr (f x))=some (g x)
 | y::r,x,h,hx=>by
  have h':=TB.mp h;unfold bS;rw[Tx,TN,show(en f g y).1 = .inr (f y)from rfl,ug];by_cases e:f y=f x
  ·rw[decide_eq_true e];rcases S1.mp hx with rfl|z
   ·rfl
   ·exact absurd (S5.mpr ⟨x,z,e.symm⟩) h'.1
  ·rw[decide_eq_false e];rcases S1.mp hx with rfl|z
   ·exact absurd rfl e
   ·exact kX (xs:=r) h'.2 z
theorem Iq{α:Type}{f:α->Str}{g:α->L2.T}{xs:List α}{k:Str}(h:k ∉ xs.map f):bS (xs.map (en f g)) (.inr k)=none:=by
 unfold bS;rw[V3.mpr]
 ·rfl
 ·intro p hp;obtain⟨x,hx,rfl⟩:=S5.mp hp;rw[show(en f g x).1 = .inr (f x)from rfl,ug];exact fun z=>h (S5.mpr ⟨x,hx,of_decide_eq_true z⟩)
abbrev enM:Mk1->Key×L2.T:=en (·.1) fun m=>.t (m.2.map .s)
abbrev enP:Str×Str->Key×L2.T:=en (·.1) fun p=>.s p.2
theorem sV(ms:List Mk1):du (ms.map tM)=some (ms.map enM):=oK (f:=fun m:Mk1=>m.1) (g:=fun m:Mk1=>.t (m.2.map .s)) ms
theorem zC(sc:Sc):du (sc.map tP)=some (sc.map enP):=oK (f:=fun m:Str×Str=>m.1) (g:=fun p:Str×Str=>.s p.2) sc
theorem tO{k:Str}(h:(sc.map (·.1)).Nodup)(hx:(x,k)∈sc):bS (sc.map enP) (.inr x)=some (.s k):=kX (f:=fun m:Str×Str=>m.1) (g:=fun p:Str×Str=>.s p.2) h hx
theorem pA:∀{ks:List Kd}{i j:Nat}{k k':Kd}{m m':Mk1},(names ks).Nodup->ks[i]? = some k->ks[j]? = some k'->m∈k.2->m'∈k'.2->m.1=m'.1->i=j
 | x::r,0,0,_,_,_,_,_,_,_,_,_,_=>rfl
 | x::r,i+1,j+1,k,k',m,m',h,h1,h2,h3,h4,h5=>by
  have h:(x.2.map (·.1)++names r).Nodup:=h;exact congrArg (· + 1) (pA (ks:=r) (k:=k) (k':=k') (T1.mp h).2.1 (by simpa using h1) (by simpa using h2) h3 h4 h5)
 | x::r,0,j+1,k,k',m,m',h,h1,h2,h3,h4,h5=>by
  have h:(x.2.map (·.1)++names r).Nodup:=h;cases h1;exact absurd h5 ((T1.mp h).2.2 _ (S5.mpr ⟨m,h3,rfl⟩) _ (U0.mpr ⟨k',RB (by simpa using h2),S5.mpr ⟨m',h4,rfl⟩⟩))
 | x::r,i+1,0,k,k',m,m',h,h1,h2,h3,h4,h5=>by
  have h:(x.2.map (·.1)++names r).Nodup:=h;cases h2;exact absurd h5.symm ((T1.mp h).2.2 _ (S5.mpr ⟨m',h4,rfl⟩) _ (U0.mpr ⟨k,RB (by simpa using h1),S5.mpr ⟨m,h3,rfl⟩⟩))
theorem gi(h:(names ks).Nodup){k:Kd}(hk:k∈ks):(k.2.map (·.1)).Nodup:=by
 induction ks with
 | nil=>cases hk
 | cons x r ih =>
  have h:(x.2.map (·.1)++names r).Nodup:=h;obtain⟨h1,h2,_⟩:=T1.mp h;rcases S1.mp hk with rfl|z
  ·exact h1
  ·exact ih h2 z
theorem kW(h:(ks.map (·.1)).Nodup){k:Kd}(hk:k∈ks):ft ks k.1=k.2:=by
 obtain⟨i,hi,rfl⟩:=Tz hk;refine zL (Es hi) rfl fun j y hj hy e=>?_
 have hjl:j<ks.length:=by omega
 rw[Es hjl]at hy;cases hy
 have:=(Wi (h₀:=by simpa using hjl) (h₁:=by simpa using hi) h).mp (by simpa using e)
 omega
inductive Pth(ks:List Kd)(hs:List Hd):Sc->List (Nat×L2.T×Nat)->Sc->Prop
 | nil{sc:Sc}:Pth ks hs sc [] sc
 | cons{sc sc' Ni:Sc}{n j:Nat}{b b' am:L2.T}{r:List (Nat×L2.T×Nat)}:Kid ks hs sc b j b' am sc'->Pth ks hs sc' r Ni->Pth ks hs sc ((n,b,j)::r) Ni
theorem Pth.snoc{sc0:Sc}{pa:List (Nat×L2.T×Nat)}{b b' am:L2.T}(h:Pth ks hs sc0 pa sc)(hk:Kid ks hs sc b j b' am sc'):Pth ks hs sc0 (pa ++ [(n,b,j)]) sc':=by
 induction h with
 | nil=>exact .cons hk .nil
 | cons h1 _ ih=>exact .cons h1 (ih hk)
theorem cf.all{R:Nod->Prop}(hk:∀ n d j b am sc,R d->Kid ks hs d.sc d.b j b am sc->R (LU n d j b am sc)):∀(k:Nat){n:Nat}{ds M:List Nod},M.length=k->cf ks hs n ds M ->(∀ d∈ds,R d)->∀ e∈M,R e:=by
 intro k
 induction k with
 | zero =>
  intro n ds M hl h h0 e he;rw[TM.mp hl]at he;cases he
 | succ k ih =>
  intro n ds M hl h h0 e he;cases ds with
  | nil=>cases h;simp at hl
  | cons d0 ds =>
   obtain⟨cs,L',hK,rfl,h2⟩:=h.pop;have hd:=h0 d0 SG;rcases S1.mp he with rfl|he
   ·exact hd
   ·refine ih (by simpa using hl) h2 (fun c hc=>?_) e he
    rcases SY.mp hc with z|z
    ·obtain⟨j,hj,rfl⟩:=Tz z;obtain⟨e1,e2⟩:=hK.ok j _ (Es hj);rw[e1];exact hk _ _ _ _ _ _ hd e2
    ·exact h0 c (SK _ z)
theorem Kid.nd{b b' am:L2.T}(h:Kid ks hs sc b j b' am sc')(hn:(sc.map (·.1)).Nodup):(sc'.map (·.1)).Nodup:=by
 have one:∀{x k:Str},x ∉ sc.map (·.1) ->((sc ++ [(x,k)]).map (·.1)).Nodup:=fun{x k} hx=>by
  rw[S9];exact T1.mpr ⟨hn,by simp,fun y hy z hz e=>hx (by rw[Tx,Vm,qr]at hz;subst hz;rw[<- e];exact hy)⟩
 cases h with
 | cW=>exact hn
 | name _ hx=>exact one hx
 | make _ _ hx=>exact one hx
 | call _ hx=>exact one hx
 | case _ _ _ _ _ hl hN =>
  rw[S9,VG (by omega)]
  exact hN
theorem Kid.ext{b b' am:L2.T}(h:Kid ks hs sc b j b' am sc'):sc'=sc++sc'.drop sc.length:=by
 cases h <;> simp
theorem Kid.dep{b b' am:L2.T}(h:Kid ks hs sc b j b' am sc')(hd:Dep (N+1) b):Dep N b':=by
 have sub:∀{M:Nat}{xs:List L2.T}{x:L2.T},Dep M (.t xs)->x∈xs->Dep (M - 1) x:=fun{M xs x} h hx=>by
  cases M with
  | zero=>rcases h with⟨_,z⟩ |⟨_,z⟩ <;> cases z
  | succ M =>
   rcases h with⟨_,z⟩ |⟨_,z⟩ |⟨_,z,h⟩
   ·cases z
   ·cases z
   ·cases z;exact h _ hx
 cases h with
 | cW=>exact sub hd (by simp)
 | name=>exact sub hd (by simp)
 | make=>exact sub hd (by simp)
 | call=>exact sub hd (by simp)
 | @case _ _ arms _ ar _ _ _ _ ha =>
  have h1:=sub hd (x:=.t (arms.map tA)) (by simp)
  have h2:=sub h1 (x:=tA ar) (S5.mpr ⟨ar,RB ha,rfl⟩);have h3:=sub h2 (x:=ar.2.2.1) (by simp)
  exact h3.mono (by omega)
def iN(z:Nat):L2.T:=.i (z:Int)
theorem Bn(T:Txt K mg a):a8 P w K mg base CX0 5 a.gw a.wx ["body"] (spQ K DU):=by
 have uX:=@vT P w K mg base a T;refine T.wJ.F.okQ A5 (fun ts Q h=>?_) (fun _ _ _ _ _ _ hr=>?_)
 ·obtain⟨ks,hs,d,L,rfl,_⟩:=h;rfl
 ·have hu:=bG hr;refine⟨_,_,((aj (aI (bj rfl (dD (QPF.w (aP uX hr T.u6 (af (qv 0) az)))) (N':=["spot"]) (.own rfl .nil) (bZ (g:=(Tg.nm 0)) (fun _ _ _ _ _=>⟨(cG 0),(QPE.f (gI T.dJ T.dG (qv 0)))⟩)))))),fun ts Q h=>?_⟩
  obtain⟨ks,hs,d,L,rfl,e1,e2,hP,hL,hq⟩:=h;have him:=(show cf ks hs 0 [d] L by have:=cf.cons hP (.nil);rwa [Td]at this).ims
  refine⟨ks,hs,d,L,rfl,e1,e2,hP,hL,cx (by rw[j3];omega),fun i ys=>ys =(L.take i).map (·.b),rfl,?_,?_⟩
  ·rintro i y ys hy rfl
   rw[L7]at hy;obtain⟨z,hz,rfl⟩:=QX.mp hy;refine⟨_,rfl,rfl,(by decide),_,rfl,him z (RB hz),?_⟩
   show _ ++ [z.b]=_;rw[S8,hz];simp
  ·rintro ys rfl
   rw[j3,Tb];exact hq
def DV:PSp:=fun ts Q=>∃(fs:List Fn)(j:Nat)(f:Fn),ts = [.t (fs.map tF),.s f.1.1]/\(fs.map (·.1.1)).Nodup/\(∀ f∈fs,f.2.1.im=true)/\fs.length<=8/\fs[j]? = some f/\Q (.i (j:Int))
theorem Eu{α β:Type}{f:α->β}{xs:List α}(h:(xs.map f).Nodup){i:Nat}{x y:α}(hx:xs[i]? = some x)(hy:xs[j]? = some y)(e:f x=f y):i=j:=by
 have hi:=(QH.mp hx).1;exact(Wg (by simpa using hi) h).mp (by rw[L7,L7,hx,hy];exact congrArg some e)
theorem yf{fs:List Fn}(h:∀ f∈fs,f.2.1.im=true):L2.T.ims (fs.map tF)=true:=gR fun t ht=>by
 obtain⟨f,hf,rfl⟩:=S5.mp ht;show(true&&(L2.T.ims (f.1.2.1.map tP)&&(true&&(f.2.1.im&&true))))=true;rw[aU fi,h f hf];rfl
theorem tI(T:Txt K mg a):a8 P w K mg base CX0 1 a.cS a.mX ["functions","name"] (spQ K DV):=by
 refine T.m7.F.okQ gF (fun ts Q h=>?_) (fun _ _ _ _ _ _ hr=>?_)
 ·obtain⟨fs,j,f,rfl,_⟩:=h;rfl
 ·have hu:=bG hr;refine⟨_,_,((ag (bp (g:=(Tg.tp [2,3])) PassesOwn.never rfl (kH rfl T.bx (by kernel_rfl) (af (qv 0) az)) (c8 (a7 2 gF.nd) (a7 3 gF.nd))
 (aj (aX (bD hu (aq (qv 3) ah) (qv 1))
 (aj (aI (QPE.f (qv 2))))
 aD)))
 (aj (aI dX)))),fun ts Q h=>?_⟩
  obtain⟨fs,j,f,rfl,hn,him,h8,hf,hq⟩:=h;refine⟨yf him,fun i q=>(∃ o2 o3,q = [.r (.t (fs.map tF)),.r (.s f.1.1),o2,o3])/\i<=j,⟨⟨_,_,rfl⟩,TX _⟩,?_,?_⟩
  ·rintro i x q hx ⟨⟨o2,o3,rfl⟩,hij⟩
   obtain⟨y,hy,rfl⟩:=cj hx;rw[L7]at hy;obtain⟨f',hf',rfl⟩:=QX.mp hy;refine⟨_,rfl,_,rfl,rfl,aB (fun g=>?_) fun g=>⟨⟨_,_,rfl⟩,?_⟩⟩
   ·have:=Eu hn hf' hf (V.str.inj (of_decide_eq_true g))
    subst this;exact⟨rfl,hq⟩
   ·rcases Nat.lt_or_eq_of_le hij with z|rfl
    ·exact z
    ·rw[hf]at hf';cases hf';exact absurd (decide_eq_true rfl) g
  ·rintro q ⟨_,hij⟩
   rw[bg,j3]at hij
   have:=(QH.mp hf).1
   omega
def vJ:PSp:=fun ts Q=>∃(ks:List Kd)(kd:Kd)(m:Mk1),ts = [tKs ks,.s m.1]/\cF ks/\kd∈ks/\m∈kd.2/\Q (.s kd.1)
theorem gh(T:Txt K mg a):a8 P w K mg base CX0 1 a.bO a.hJ ["kinds","maker"] (spQ K vJ):=by
 refine T.eO.F.okQ dr (fun ts Q h=>?_) (fun _ _ _ _ _ _ hr=>?_)
 ·obtain⟨ks,kd,m,rfl,_⟩:=h;rfl
 ·have hu:=bG hr;refine⟨_,_,((ag (bp (g:=(Tg.tp [2,3])) PassesOwn.never rfl (gH (QPE.f (qv 0))) (c8 (a7 2 dr.nd) (a7 3 dr.nd))
 (aj (aX (bE (lZ rfl) iw rfl (qv 1) (QPF.w (bj rfl (fJ (qv 3)) (N':=["one"]) (.own rfl .nil) (bZ (g:=(Tg.nm 0)) (fun _ _ _ _ _=>⟨(cG 0),(QPE.f (aq (qv 0) ah))⟩)))))
 (aj (aI (QPE.f (qv 2))))
 aD)))
 (aj (aI dX)))),fun ts Q h=>?_⟩
  obtain⟨ks,kd,m,rfl,gk,hkd,hm,hq⟩:=h;obtain⟨j,hj,hje⟩:=Tz hkd;have hj':ks[j]? = some kd:=by rw[Es hj,hje]
  refine⟨j8 ks,fun i q=>(∃ o2 o3,q = [.r (tKs ks),.r (.s m.1),o2,o3])/\i<=j,⟨⟨_,_,rfl⟩,TX _⟩,?_,?_⟩
  ·rintro i x q hx ⟨⟨o2,o3,rfl⟩,hij⟩
   rw[L7]at hx;obtain⟨k',hk',rfl⟩:=QX.mp hx;refine⟨_,rfl,ay (by rw[j3];have:=(gk.ne k' (RB hk')).2;omega),fun i ys=>ys =((k'.2.take i).map (·.1)).map .s,rfl,?_,?_⟩
   ·rintro i' y ys hy rfl
    rw[L7]at hy;obtain⟨z,hz,rfl⟩:=QX.mp hy;refine⟨_,rfl,_,rfl,rfl,?_⟩;show _ ++ [L2.T.s z.1]=_;rw[S8,hz];simp
   ·rintro ys rfl
    rw[j3,Tb];have hin:inT (L2.T.s m.1) ((k'.2.map (·.1)).map L2.T.s)=true ↔ i=j:=by
     rw[de,nL]
     constructor
     ·intro g;obtain⟨m',hm',em⟩:=S5.mp g;exact pA gk.mn hk' hj' hm' hm em
     ·rintro rfl
      rw[hj']at hk';cases hk';exact S5.mpr ⟨m,hm,rfl⟩
    refine⟨by rw[gq];rfl,aB (fun g=>?_) fun g=>?_⟩
    ·have e:=hin.mp g;subst e;rw[hj']at hk';cases hk';exact⟨rfl,hq⟩
    ·have e:i≠j:=fun z=>g (hin.mpr z)
     exact⟨⟨_,_,rfl⟩,by omega⟩
  ·rintro q ⟨_,hij⟩
   rw[j3]at hij;omega
theorem zH(T:Txt K mg a):a8 P w K mg base CX0 1 a.mm a.Fl ["_law_kinds_here","_law_maker"] (spQ K vJ):=by
 refine T.va.F.okQ GZ (fun ts Q h=>?_) (fun _ _ _ _ _ _ hr=>?_)
 ·obtain⟨ks,kd,m,rfl,_⟩:=h;rfl
 ·have hu:=bG hr;refine⟨_,_,((aj (aI (QPE.f (aq (QPF.w (bj rfl (fJ (qv 0)) (N':=["_law_kind","_law_makers","_law_maker"]) (.own rfl (.own rfl (.got (i:=1) rfl rfl (.inl rfl) .nil))) (oC (g:=(Tg.tp [0,1])) (fun _ _ _ _ _=>⟨(c8 (cG 0) (cG 1)),(bE (D9 hu) og rfl (qv 2) (QPF.w (aN (bW rfl) cA (by rfl) T.gW (by kernel_rfl) (af (qv 1) az)))),(QPE.f (qv 0))⟩)))) ah))))),fun ts Q h=>?_⟩
  obtain⟨ks,kd,m,rfl,gk,hkd,hm,hq⟩:=h;obtain⟨j,hj,hje⟩:=Tz hkd;have hj':ks[j]? = some kd:=by rw[Es hj,hje]
  refine⟨ay (by rw[j3];have:=gk.k2;omega),fun i ys=>ys=if j<i then [.s kd.1]else [],rfl,?_,?_⟩
  ·rintro i y ys hy rfl
   rw[L7]at hy;obtain⟨k',hk',rfl⟩:=QX.mp hy;refine⟨_,rfl,aU rF _,_,sV k'.2,?_⟩;rw[nO (gi gk.mn (RB hk'))];have hin:(bS (k'.2.map enM) (.inr m.1)).isSome=true ↔ i=j:=by
    constructor
    ·intro g;by_cases z:m.1∈k'.2.map (·.1)
     ·obtain⟨m',hm',em⟩:=S5.mp z;exact pA gk.mn hk' hj' hm' hm em
     ·rw[Iq z]at g;cases g
    ·rintro rfl
     rw[hj']at hk';cases hk';rw[kX (gi gk.mn hkd) hm];rfl
   refine aB (fun g=>?_) fun g=>?_
   ·have e:=hin.mp g;subst e;rw[hj']at hk';cases hk';refine⟨rfl,?_⟩;rw[if_neg (Um _),if_pos (UC _)];rfl
   ·have e:i≠j:=fun z=>g (hin.mpr z)
    show(if j<i then _ else _)=if j<i+1 then _ else _
    by_cases z:j<i
    ·rw[if_pos z,if_pos (by omega)]
    ·rw[if_neg z,if_neg (by omega)]
  ·rintro ys rfl
   rw[j3,if_pos hj];exact⟨_,rfl,rfl,hq⟩
def Lj:PSp:=fun ts Q=>∃(t:L2.T)(fs:List Fn)(j:Nat)(f:Fn),ts = [.t [t,.t (fs.map tF)],.s f.1.1]/\t.im=true/\(fs.map (·.1.1)).Nodup/\(∀ f∈fs,f.2.1.im=true)/\fs.length<=8/\fs[j]? = some f/\Q (.i (j:Int))
theorem HV(T:Txt K mg a):a8 P w K mg base CX0 1 a.ml a.Fi ["_law_program_here","_law_name"] (spQ K Lj):=by
 refine T.Gf.F.okQ GY (fun ts Q h=>?_) (fun _ _ _ _ _ _ hr=>?_)
 ·obtain⟨t,fs,j,f,rfl,_⟩:=h;rfl
 ·have hu:=bG hr;refine⟨_,_,((aj (aI (DB (QPF.w (bj rfl (fJ (aq (qv 0) ah)) (N':=["_law_function"]) (.own rfl .nil) (bZ (g:=(Tg.nm 0)) (fun _ _ _ _ _=>⟨(cG 0),(QPE.f (aq (qv 0) ah))⟩)))) (qv 1))))),fun ts Q h=>?_⟩
  obtain⟨t,fs,j,f,rfl,ht,hn,him,h8,hf,hq⟩:=h;refine⟨_,rfl,ay (by rw[j3];omega),fun i ys=>ys =((fs.take i).map (·.1.1)).map .s,rfl,?_,?_⟩
  ·rintro i y ys hy rfl
   rw[L7]at hy;obtain⟨z,hz,rfl⟩:=QX.mp hy;refine⟨_,rfl,_,rfl,rfl,?_⟩;show _ ++ [L2.T.s z.1.1]=_;rw[S8,hz];simp
  ·rintro ys rfl
   rw[j3,Tb];refine⟨gq _,rfl,j,?_,hq⟩;have hjl:=(QH.mp hf).1;have hv:∀{x y:Str},eqV (L2.T.s x).v (L2.T.s y).v=true ↔ x=y:=fun{x y}=>by
    constructor
    ·intro z;have z:(x==y)=true:=z;exact eq_of_beq z
    ·rintro rfl;exact E6 rfl
   rw[TQ,VA,UJ];refine⟨hjl,?_,fun i hi=>?_⟩
   ·exact hv.mpr (by rw[(QH.mp hf).2])
   ·intro z
    have:=Eu (f:=fun f:Fn=>f.1.1) hn (Es (by omega:i<fs.length)) hf (hv.mp z)
    omega
def Bc:PSp:=fun ts Q=>∃(ks:List Kd)(fs:List Fn)(sc sc':Sc)(b b' am:L2.T)(j:Nat),ts = [.t [tKs ks,.t (fs.map tF)],b,am,.d (sc.map enP)]/\Prog ks fs/\Kid ks (fs.map (·.1)) sc b j b' am sc'/\(sc.map (·.1)).Nodup/\(∀ p∈sc,p.2∈ks.map (·.1))/\Q (.l ((sc'.drop sc.length).map tP))
theorem vU(T:Txt K mg a):a8 P w K mg base CX0 2 a.dz a.pM ["program","piece","arm","kinds"] (spQ K Bc):=by
 have wF:=@tI P w K mg base a T;have eM:=@gh P w K mg base a T;have i9:=@kT P w K mg base a T;refine T.qz.F.okQ iB (fun ts Q h=>?_) (fun _ _ _ _ _ _ hr=>?_)
 ·obtain⟨ks,fs,sc,sc',b,b',am,j,rfl,_⟩:=h;rfl
 ·have hu:=bG hr;refine⟨_,_,((ag (aC 4 iB.nd (QPE.f (aq (qv 1) ah)))
 (ag (aX (bD hu (qv 4) (QPF.w aJ))
 (aj (aI (aG (ae (av (ae (QPE.f (aq (qv 1) ah)) (ae (aP eM hr T.eO (af (aq (qv 0) ah) (af (aq (qv 1) ah) az))) ai))) ai))))
 aD)
 (ag (aX (bD hu (qv 4) (QPF.w aJ))
 (aj (aI (aG (ae (av (ae (QPE.f (aq (qv 1) ah)) (ae (QPE.f (aq (aq (aq (qv 0) ah) (QPF.w (aP wF hr T.m7 (af (aq (qv 0) ah) (af (aq (qv 1) ah) az))))) ah)) ai))) ai))))
 aD)
 (ag (aX (bD hu (qv 4) (QPF.w aJ))
 (aj (aI (aG (ae (av (ae (QPE.f (aq (qv 1) ah)) (ae (QPE.f (dE (qv 3) (aq (qv 1) ah))) ai))) ai))))
 aD)
 (ag (aX (bD hu (qv 4) (QPF.w aJ))
 (ag (aC 5 iB.nd (aN (bW rfl) cA (by rfl) T.gW (by kernel_rfl) (af (QPF.w (aP i9 hr T.ja (af (aq (qv 0) ah) (af (dE (qv 3) (aq (qv 1) ah)) az)))) az)))
 (aj (aI (xv rfl rfl T.pY rfl T.Kg (af (aq (qv 2) ah) (af (dE (qv 5) (aq (qv 2) ah)) az))))))
 aD)
 (aj (aI (aG ai))))))))),fun ts Q h=>?_⟩
  obtain⟨ks,fs,sc,sc',b,b',am,j,rfl,hP,hK,hnd,hsk,hq⟩:=h;cases hK with
  | @cW w c b hw =>
   have n1:¬ decide ((L2.T.s w).v =(L2.T.s "make").v)=true:=by rcases hw with rfl|rfl <;> decide +kernel
   have n2:¬ decide ((L2.T.s w).v =(L2.T.s "call").v)=true:=by rcases hw with rfl|rfl <;> decide +kernel
   have n3:¬ decide ((L2.T.s w).v =(L2.T.s "name").v)=true:=by rcases hw with rfl|rfl <;> decide +kernel
   have n4:¬ decide ((L2.T.s w).v =(L2.T.s "case").v)=true:=by rcases hw with rfl|rfl <;> decide +kernel
   refine⟨_,rfl,rfl,rfl,aB (fun z=>absurd z n1) fun _=>⟨rfl,aB (fun z=>absurd z n2) fun _=>⟨rfl,aB (fun z=>absurd z n3) fun _=>⟨rfl,aB (fun z=>absurd z n4) fun _=>?_⟩⟩⟩⟩
   rw[VH]at hq;exact hq
  | name hy hx =>
   refine⟨_,rfl,rfl,rfl,aB (fun z=>absurd z (by decide +kernel)) fun _=>⟨rfl,aB (fun z=>absurd z (by decide +kernel)) fun _=>⟨rfl,aB (fun _=>?_) fun z=>absurd (by decide +kernel) z⟩⟩⟩
   rw[Vs]at hq;exact⟨_,rfl,rfl,_,rfl,_,tO hnd hy,rfl,hq⟩
  | make hkd hm hx =>
   refine⟨_,rfl,rfl,rfl,aB (fun _=>?_) fun z=>absurd (by decide +kernel) z⟩
   rw[Vs]at hq;exact⟨_,rfl,rfl,_,rfl,_,rfl,ks,_,_,rfl,hP.gk,hkd,hm,hq⟩
  | call hh hx =>
   refine⟨_,rfl,rfl,rfl,aB (fun z=>absurd z (by decide +kernel)) fun _=>⟨rfl,aB (fun _=>?_) fun z=>absurd (by decide +kernel) z⟩⟩
   rw[Vs]at hq;obtain⟨f,hf,rfl⟩:=S5.mp hh;obtain⟨i,hi,hie⟩:=Tz hf;have hi':fs[i]? = some f:=by rw[Es hi,hie]
   refine⟨_,rfl,rfl,_,rfl,_,rfl,_,rfl,fs,i,f,rfl,hP.hn,fun f hf=>(hP.sn f hf).1.im,hP.l8,hi',?_⟩
   exact⟨_,bX (v:=tF f) (by rw[L7,hi'];rfl),_,rfl,rfl,hq⟩
  | @case x kd arms _ ar m hx hkd hnm ha hm hl hN =>
   refine⟨_,rfl,rfl,rfl,aB (fun z=>absurd z (by decide +kernel)) fun _=>⟨rfl,aB (fun z=>absurd z (by decide +kernel)) fun _=>⟨rfl,aB (fun z=>absurd z (by decide +kernel)) fun _=>⟨rfl,aB (fun _=>?_) fun z=>absurd (by decide +kernel) z⟩⟩⟩⟩
   rw[Vs]at hq;refine⟨_,rfl,_,rfl,_,tO hnd hx,ks,kd.1,rfl,?_⟩;rw[kW hP.gk.nd hkd];refine⟨aU rF _,_,sV kd.2,?_⟩;rw[nO (gi hP.gk.mn hkd)];have em:ar.1=m.1:=by
    have:=congrArg (·[j]?) hnm
    simp only[L7,ha,hm]at this;exact Option.some.inj this
   have hlk:bS (kd.2.map enM) (.inr ar.1)=some (.t (m.2.map .s)):=by rw[em];exact kX (gi hP.gk.mn hkd) (RB hm)
   refine⟨_,rfl,_,rfl,_,hlk,aL _,aL _,?_⟩;have ez:kz (ar.2.1.map L2.T.s) (m.2.map L2.T.s) =(ar.2.1.zip m.2).map tP:=by
    unfold kz;rw[List.zip_map,TQ];rfl
   rw[ez];exact hq
theorem Kid.sk{b b' am:L2.T}(gk:cF ks)(hh:∀ h∈hs,h.2.2∈ks.map (·.1))(h:Kid ks hs sc b j b' am sc')(hn:∀ p∈sc,p.2∈ks.map (·.1)):∀ p∈sc',p.2∈ks.map (·.1):=by
 have one:∀{x k:Str},k∈ks.map (·.1)->∀ p∈sc ++ [(x,k)],p.2∈ks.map (·.1):=fun{x k} hk p hp=>by
  rcases SY.mp hp with z|z
  ·exact hn p z
  ·rw[qr.mp z];exact hk
 cases h with
 | cW=>exact hn
 | name hy hx=>exact one (hn _ hy)
 | make hkd _ hx=>exact one (S5.mpr ⟨_,hkd,rfl⟩)
 | call h1 hx=>exact one (hh _ h1)
 | @case _ kd _ _ _ m _ hkd _ _ hm hl hN =>
  intro p hp;rcases SY.mp hp with z|z
  ·exact hn p z
  ·exact(gk.fl kd hkd m (RB hm)).2 _ (U4 z).2
def rtN(f:Fn):Nod:=⟨f.2.1,.n,.n,[],f.1.2.1⟩
structure Good(ks:List Kd)(fs:List Fn)(f:Fn)(e:Nod):Prop where
 nd:(e.sc.map (·.1)).Nodup
 sk:∀ p∈e.sc,p.2∈ks.map (·.1)
 pt:Pth ks (fs.map (·.1)) f.1.2.1 e.pa e.sc
 dp:∃ N,N+e.pa.length=92/\Dep N e.b
 sl:e.sc.length<=4+4*e.pa.length
 pi:∀ s∈e.pa,s.2.1.im=true
theorem Good.lim{fs:List Fn}{f:Fn}{e:Nod}(g:Good ks fs f e):e.sc.length<=372:=by
 obtain⟨N,h,d⟩:=g.dp
 have:=g.sl
 omega
theorem Kid.len{b b' am:L2.T}(gk:cF ks)(h:Kid ks hs sc b j b' am sc'):sc'.length<=sc.length+4:=by
 cases h with
 | cW=>omega
 | name=>simp
 | make=>simp
 | call=>simp
 | @case _ kd _ _ _ m _ hkd _ _ hm hl hN =>
  have:=(gk.fl kd hkd m (RB hm)).1
  rw[RM,Us];omega
theorem Kid.tup{ks:List Kd}{hs:List Hd}{sc sc':Sc}{b b' am:L2.T}{j:Nat}(h:Kid ks hs sc b j b' am sc'):¬ Dep 0 b:=by
 rintro(⟨_,z⟩ |⟨_,z⟩) <;> cases h <;> cases z
theorem yp:∀{N:Nat}{t:L2.T},Dep N t->t.im=true
 | 0,_,h=>by rcases h with⟨_,rfl⟩ |⟨_,rfl⟩ <;> rfl
 | N+1,_,h=>by
  rcases h with⟨_,rfl⟩ |⟨_,rfl⟩ |⟨ts,rfl,h⟩
  ·rfl
  ·rfl
  ·exact gR fun t ht=>yp (h t ht)
theorem E1{fs:List Fn}{f:Fn}(hP:Prog ks fs)(hf:f∈fs)(hL:cf ks (fs.map (·.1)) 0 [rtN f] L):∀ e∈L,Good ks fs f e:=by
 obtain⟨p1,p2,p3,p4⟩:=hP.pk f hf;refine hL.all (R:=Good ks fs f) (fun n d j b am sc g hk=>⟨hk.nd g.nd,hk.sk hP.gk (fun h hh=>?_) g.sk,g.pt.snoc hk,?_,?_,fun s hs=>?_⟩) _ rfl fun d hd=>?_
 ·obtain⟨f',hf',rfl⟩:=S5.mp hh;exact(hP.pk f' hf').2.2.2
 ·obtain⟨N,hN,dN⟩:=g.dp;cases N with
  | zero=>exact absurd dN hk.tup
  | succ N=>exact⟨N,by show N+(d.pa ++ [_]).length=92;rw[RM];simp;omega,hk.dep dN⟩
 ·have:=hk.len hP.gk
  have:=g.sl
  show sc.length<=4+4*(d.pa ++ [_]).length;rw[RM];simp;omega
 ·have hs:s∈d.pa ++ [(n,d.b,j)]:=hs;rcases SY.mp hs with z|z
  ·exact g.pi s z
  ·rw[qr.mp z];obtain⟨N,_,dN⟩:=g.dp;exact yp dN
 ·rw[qr.mp hd];exact⟨p3,p2,.nil,⟨92,rfl,hP.dp f hf⟩,p1,fun _ z=>nomatch z⟩
theorem wc:∀ sc:Sc,L2.T.imk (sc.map enP)=true
 | []=>rfl
 | p::r=>by show(true&&L2.T.imk (r.map enP))=true;rw[wc r];rfl
def tPr(ks:List Kd)(fs:List Fn):L2.T:=.t [tKs ks,.t (fs.map tF)]
def HA:PSp:=fun ts Q=>∃(ks:List Kd)(fs:List Fn)(i:Nat)(f:Fn)(L:List Nod),ts = [tPr ks fs,iN i]/\Prog ks fs/\fs[i]? = some f/\Pre ks (fs.map (·.1)) 0 (rtN f) L/\L.length<=50000/\∀ X:List L2.T,X.map L2.T.dof=L.map (fun e=>some (e.sc.map enP))->Q (.l X)
theorem oN(T:Txt K mg a):a8 P w K mg base CX0 5 a.cp a.jG ["program","f"] (spQ K HA):=by
 have uX:=@vT P w K mg base a T;have yR:=@vU P w K mg base a T;refine T.jL.F.okQ cB (fun ts Q h=>?_) (fun _ _ _ _ _ _ hr=>?_)
 ·obtain⟨ks,fs,i,f,L,rfl,_⟩:=h;rfl
 ·have hu:=bG hr;refine⟨_,_,((ag (aC 2 cB.nd (aG ai))
 (ag (aC 3 cB.nd (aP uX hr T.u6 (af (aq (aq (aq (qv 0) ah) (qv 1)) ah) az)))
 (ag (bp (g:=(Tg.nm 4)) PassesOwn.never rfl (He (i:=3) (pv 3)) (a7 4 cB.nd)
 (aj (aX (bE D7 zc (bK _) (gI T.dJ T.dH (qv 4)) (QPF.w dX))
 (aj (aY (i:=2) (pv 2) (Hj (aN (bW rfl) cA (by rfl) T.gW (by kernel_rfl) (af (aq (aq (aq (qv 0) ah) (qv 1)) ah) az)))))
 (ag (aC 5 cB.nd (aN pT sr (by rfl) T.gW (by kernel_rfl) (af (aq (qv 2) (gI T.dJ T.dH (qv 4))) az)))
 (ag (KS (i:=5) rfl (pv 5) (aP yR hr T.qz (af (qv 0) (af (gI T.dJ T.dG (aq (qv 3) (gI T.dJ T.dH (qv 4)))) (af (gI T.dJ T.mS (qv 4)) (af (qv 5) az))))))
 (aj (KZ (i:=5) (aY (i:=2) (pv 2) (QPE.f (qv 5))))))))))
 (aj (eR (i:=2) (pv 2))))))),fun ts Q h=>?_⟩
  obtain⟨ks,fs,i,f,L,rfl,hP,hf,hR,hL,hq⟩:=h;have hPL:cf ks (fs.map (·.1)) 0 [rtN f] L:=by have:=cf.cons hR (.nil);rwa [Td]at this
  have hfm:=RB hf;have G:=E1 hP hfm hPL;have ef:atI (fs.map tF) (i:Int)=some (tF f):=bX (by rw[L7,hf];rfl)
  refine⟨_,rfl,_,ef,_,rfl,ks,fs.map (·.1),rtN f,L,rfl,rfl,rfl,hR,hL,?_⟩;refine⟨fun c q=>∃(X:List L2.T)(o4 o5:Sl),q = [.r (tPr ks fs),.r (iN i),.o (.l X),.r (.l (L.map (spN a.aM))),o4,o5]/\X.map L2.T.dof =(L.take c).map fun e=>some (e.sc.map enP),⟨_,_,_,rfl,rfl⟩,?_,?_⟩
  ·rintro c y q hy ⟨X,o4,o5,rfl,hX⟩
   rw[L7]at hy;obtain⟨e,he,rfl⟩:=QX.mp hy;have hcl:=(QH.mp he).1;have hXl:X.length=c:=by
    have:=congrArg UB hX
    rw[j3,j3,Ti]at this;omega
   have hXs:X.length<S4:=cx (by omega)
   have fin:∀ t:L2.T,t.dof=some (e.sc.map enP) ->(X ++ [t]).map L2.T.dof =(L.take (c+1)).map fun e=>some (e.sc.map enP):=fun t ht=>by
    rw[S9,hX,S8,he];simp[ht]
   refine⟨_,rfl,rfl,(by decide),_,rfl,?_⟩
   rcases hPL.from _ rfl c e he with⟨j,hj,_⟩ |⟨p,e',cs,j,hpc,he2,hK,hc⟩
   ·have:e=rtN f:=by
     cases j with
     | zero=>cases hj;rfl
     | succ j=>simp at hj
    subst this;refine⟨hXs,_,rfl,_,ef,_,rfl,aU fi _,_,zC _,?_⟩;rw[nO (hP.pk f hfm).2.2.1];exact⟨wc _,fun o vs=>⟨_,_,_,rfl,fin _ rfl⟩⟩
   ·rw[UA]at hK;obtain⟨e3',BM⟩:=hK.ok j _ hc;obtain⟨eb,eab,eam,epa,esc⟩:=e;obtain rfl:eab=iN p:=congrArg Nod.ab e3';have g':=G e' (RB he2);obtain⟨t,ht1,ht2⟩:∃ t,X[p]? = some t/\t.dof=some (e'.sc.map enP):=by
     have:=congrArg (·[p]?) hX
     simp only[L7,VB hpc,he2]at this;exact QX.mp this
    have a1:atI X (p:Int)=some t:=bX ht1;have a2:atI (L.map (spN a.aM)) (p:Int)=some (spN a.aM e'):=bX (by rw[L7,he2];rfl)
    have em:b7 (e'.sc.map enP) ((esc.drop e'.sc.length).map enP)=esc.map enP:=by
     have ex:=BM.ext;have nn:=BM.nd g'.nd;rw[ex]at nn;rw[v5 nn,<- ex]
    refine⟨rfl,(by decide),_,rfl,_,a1,?_⟩
    simp only[dP,lU,ht2];refine⟨wc _,?_⟩;refine⟨rfl,(by decide),_,rfl,_,a2,rfl,(by decide),_,rfl,rfl,(by decide),_,rfl,ks,fs,e'.sc,esc,e'.b,eb,eam,j,rfl,hP,BM,g'.nd,g'.sk,?_⟩
    refine⟨wc _,aU fi _,_,zC _,?_,?_⟩
    ·have:=g'.lim
     have:esc.length<=e'.sc.length+4:=BM.len hP.gk
     simp only[j3,UD];exact Tr (cx (by omega))
    ·rw[em];exact⟨wc _,fun o vs=>⟨hXs,rfl,_,_,_,rfl,fin _ rfl⟩⟩
  ·rintro q ⟨X,o4,o5,rfl,hX⟩
   rw[j3,Tb]at hX;exact hq X hX
def Hy:PSp:=fun ts Q=>∃ b:L2.T,ts = [b]/\Shp b/\Q (.l ((subs b).map (·.1)))
theorem Ee(T:Txt K mg a):a8 P w K mg base CX0 1 a.jo a.Ad ["_law_piece"] (spQ K Hy):=by
 refine T.AF.F.okQ C0 (fun ts Q h=>?_) (fun _ _ _ _ _ _ hr=>?_)
 ·obtain⟨b,rfl,_⟩:=h;rfl
 ·have hu:=bG hr;refine⟨_,_,((ag (aX (bD hu (aq (qv 0) ah) (QPF.w aJ))
 (aj (aI (aG ai)))
 aD)
 (ag (aX (bD hu (aq (qv 0) ah) (QPF.w aJ))
 (aj (aI (bj rfl (fJ (aq (qv 0) ah)) (N':=["_law_arm"]) (.own rfl .nil) (bZ (g:=(Tg.nm 0)) (fun _ _ _ _ _=>⟨(cG 0),(QPE.f (aq (qv 0) ah))⟩)))))
 aD)
 (aj (aI (aG (ae (QPE.f (aq (qv 0) (QPF.w (sN ah)))) ai))))))),fun ts Q h=>?_⟩
  obtain⟨b,rfl,hS,hq⟩:=h;cases hS with
  | give=>exact⟨_,rfl,rfl,aB (fun _=>hq) (fun z=>absurd (by decide +kernel) z)⟩
  | @cW w c b hw hb =>
   have n1:¬ decide ((L2.T.s w).v =(L2.T.s "give").v)=true:=by rcases hw with rfl|rfl <;> decide +kernel
   have n2:¬ decide ((L2.T.s w).v =(L2.T.s "case").v)=true:=by rcases hw with rfl|rfl <;> decide +kernel
   exact⟨_,rfl,rfl,aB (fun z=>absurd z n1) fun _=>⟨_,rfl,rfl,aB (fun z=>absurd z n2) fun _=>⟨_,rfl,hb,hq⟩⟩⟩
  | @name x y b hb =>
   exact⟨_,rfl,rfl,aB (fun z=>absurd z (by decide +kernel)) fun _=>⟨_,rfl,rfl,aB (fun z=>absurd z (by decide +kernel)) fun _=>⟨_,rfl,hb,hq⟩⟩⟩
  | @use w x m ns b hw hb =>
   have n1:¬ decide ((L2.T.s w).v =(L2.T.s "give").v)=true:=by rcases hw with rfl|rfl <;> decide +kernel
   have n2:¬ decide ((L2.T.s w).v =(L2.T.s "case").v)=true:=by rcases hw with rfl|rfl <;> decide +kernel
   exact⟨_,rfl,rfl,aB (fun z=>absurd z n1) fun _=>⟨_,rfl,rfl,aB (fun z=>absurd z n2) fun _=>⟨_,rfl,hb,hq⟩⟩⟩
  | @case x arms hb hl =>
   refine⟨_,rfl,rfl,aB (fun z=>absurd z (by decide +kernel)) fun _=>⟨_,rfl,rfl,aB (fun _=>?_) fun z=>absurd (by decide +kernel) z⟩⟩
   refine⟨_,rfl,cx (by rw[j3];omega),fun i ys=>ys =(arms.take i).map (fun z=>z.2.2.1),rfl,?_,?_⟩
   ·rintro i y ys hy rfl
    rw[L7]at hy;obtain⟨z,hz,rfl⟩:=QX.mp hy;refine⟨_,rfl,_,rfl,hb z (RB hz),?_⟩;show _ ++ [z.2.2.1]=_;rw[S8,hz];simp
   ·rintro ys rfl
    rw[j3,Tb];have e:(subs (.t [.s "case",.s x,.t (arms.map tA)])).map (·.1)=arms.map fun z=>z.2.2.1:=by
     show((arms.map tA).map fun x=>(Jp x,x)).map _=_
     rw[TQ,TQ];rfl
    rw[e]at hq;exact hq
def tS(s:Nat×L2.T×Nat):L2.T:=.t [iN s.1,s.2.1,iN s.2.2]
def ptT(n:Nat)(e:Nod):L2.T:=.zl (e.pa.map tS ++ [.t [iN n,e.b,.n]])
def kI:Nat->List Nod->List L2.T
 | _,[]=>[]
 | n,e::r=>ptT n e::kI (n+1) r
variable{A:List Nod}
theorem DQ{B:List Nod}:∀{n:Nat},kI n (A++B)=kI n A++kI (n+A.length) B:=by
 induction A with
 | nil=>intro n;rfl
 | cons e r ih=>intro n;show _::kI (n+1) (r++B)=_ ::(kI (n+1) r++_);rw[ih,Te,show n+1+r.length=n+(r.length+1)by omega]
theorem oE:∀{n:Nat},(kI n A).length=A.length:=by
 induction A with
 | nil=>intro n;rfl
 | cons e r ih=>intro n;show(kI (n+1) r).length+1=_;rw[ih];rfl
theorem Hs:∀{n i:Nat},(kI n A)[i]? = A[i]?.map (ptT (n+i)):=by
 induction A with
 | nil=>intro n i;rfl
 | cons e r ih =>
  intro n i;cases i with
  | zero=>rfl
  | succ i=>show(kI (n+1) r)[i]? = r[i]?.map _;rw[ih,show n+1+i=n+(i+1)by omega]
theorem Hr:∀{n:Nat},L2.T.ims (kI n A)=true:=by
 induction A with
 | nil=>intro n;rfl
 | cons e r ih=>intro n;show(true&&L2.T.ims (kI (n+1) r))=true;rw[ih];rfl
theorem vK{xs ys:List L2.T}:L2.T.c7 (xs++ys) =(L2.T.c7 xs&&L2.T.c7 ys):=by
 induction xs with
 | nil=>rfl
 | cons x r ih=>show(x.pln&&L2.T.c7 (r++ys)) =((x.pln&&L2.T.c7 r)&&L2.T.c7 ys);rw[ih,Bool.and_assoc]
theorem gg{ts:List L2.T}(h:∀ t∈ts,t.pln=true):L2.T.c7 ts=true:=by
 induction ts with
 | nil=>rfl
 | cons t r ih=>show(t.pln&&L2.T.c7 r)=true;rw[h t SG,ih fun t ht=>h t (SK _ ht)];rfl
theorem ur:∀{N:Nat}{t:L2.T},Dep N t->t.pln=true
 | 0,_,h=>by rcases h with⟨_,rfl⟩ |⟨_,rfl⟩ <;> rfl
 | N+1,_,h=>by
  rcases h with⟨_,rfl⟩ |⟨_,rfl⟩ |⟨ts,rfl,h⟩
  ·rfl
  ·rfl
  ·exact gg fun t ht=>ur (h t ht)
theorem LN{w:World}{K:W.Frag}{CX:CXT}{k:Nat}{f:Addr}{fd:FuncData}{ps:List Str}{sp:yQ}(h:∀ ts Q,¬ sp ts Q):a8 P w K mg base CX k f fd ps (spL K j sp) :=
 ⟨fun _ _ _ _ ⟨_,ts,_,_,_,Qp,_,_,_,_,_,_,_,z,_⟩=>(h ts Qp z).elim,fun _ _ _ _ _ _ _ _ _ _ _ _ _ ⟨_,ts,_,_,_,Qp,_,_,_,_,_,_,_,z,_⟩=>(h ts Qp z).elim⟩
structure PX(ks:List Kd)(hs:List Hd)(N n:Nat)(d:Nod)(L:List Nod):Prop where
 pre:Pre ks hs n d L
 len:n+L.length<=50000
 dep:Dep N d.b
 pal:d.pa.length+N<=92
 pln:L2.T.c7 (d.pa.map tS)=true
 im:L2.T.ims (d.pa.map tS)=true
def Hw(N:Nat):yQ:=fun ts Q=>∃(ks:List Kd)(hs:List Hd)(n:Nat)(d:Nod)(L:List Nod)(p:Addr),ts = [d.b,.zl (d.pa.map tS),.lp p [iN n]]/\PX ks hs N n d L/\Q (.l (kI n L)) (.lp p [iN (n+L.length)])
theorem Eb(T:Txt K mg a)(N:Nat):a8 P w K mg base CX0 (N+2) a.jl a.Aa ["_law_body_here","_law_ahead","_law_counter"] (spL K 2 (Hw N)):=by
 have Jy:=@Ee P w K mg base a T
 induction N with
 | zero =>
  refine LN fun ts Q hh=>?_
  obtain⟨ks,hs,n,d,L,p,rfl,h,hq⟩:=hh;have h1:=h.pre;have h2:=h.dep;cases h1 with
  | mk hk _ =>
   have:=hk.sh
   rcases h2 with⟨_,z⟩ |⟨_,z⟩ <;> rw[z]at this <;> cases this
 | succ N uY =>
  refine T.u7.F.okL iy (fun ts Q h=>?_) (fun _ _ _ _ _ _ hr=>?_) (fun ts Q h=>?_)
  ·obtain⟨ks,hs,n,d,L,p,rfl,_⟩:=h;rfl
  ·have hu:=bG hr;refine⟨_,_,((ag (aC 3 iy.nd (QPE.f (aq (qvp 2) ah)))
 (ag (Dr (i:=2) (pv 2) ah (QPF.w (bq (qv 3) ah)))
 (ag (aC 4 iy.nd (aG (ae (sO (zo (qv 1) (QPF.w (aG (ae (av (ae (QPE.f (qv 3)) (ae (QPE.f (qv 0)) (ae dX ai)))) ai))))) ai)))
 (ag (bp (g:=(Tg.tp [5,6])) PassesOwn.never rfl (vB T.bx (aP Jy hr T.AF (af (qv 0) az))) (c8 (a7 5 iy.nd) (a7 6 iy.nd))
 (aj (Ha (m:=4) (i:=2) (j:=2) uY hr T.u7 (pv 4) (zj (qv 6) (zj (QPF.w (sO (zo (qv 1) (QPF.w (aG (ae (av (ae (QPE.f (qv 3)) (ae (QPE.f (qv 0)) (ae (QPE.f (qv 5)) ai)))) ai)))))) (Hc (i:=2) (pv 2) az))))))
 (aj (Ds (i:=4) (pv 4)))))))),fun ts Q t0 p' h ht ha=>?_⟩
   obtain⟨ks,hs,n,d,L,p,rfl,h,hq⟩:=h;cases ht;cases ha;obtain⟨h1,h2,h3,h4,h5,h6⟩:=h;cases h1 with
   | @mk _ _ cs L' hk hL =>
    have hb:=hk.sh.im;have hx:L2.T.ims (d.pa.map tS ++ [.t [iN n,d.b,.n]])=true:=by
     rw[j7,h6];show(true&&((true&&(d.b.im&&(true&&true)))&&true))=true;rw[hb];rfl
    have sz:(d.pa.map tS).length+1<=S4:=Tr (cx (by rw[j3];omega))
    have hl:n+(L'.length+1)<=50000:=h2;have pb:=ur (N:=N+1) h3;refine⟨_,rfl,rfl,0,rfl,rfl,rfl,?_⟩;refine⟨rfl,hb,_,_,rfl,rfl,sz,h6,(by show((true&&(d.b.im&&(true&&true)))&&true)=true;rw[hb];rfl),?_⟩
    refine⟨(by rw[vK,h5];show(true&&((true&&(d.b.pln&&(true&&true)))&&true))=true;rw[pb];rfl),?_⟩
    refine⟨d.b,rfl,hk.sh,?_⟩;have es:(subs d.b).map (·.1)=cs.map (·.b):=by rw[<- hk.su,TQ];rfl
    rw[es];refine⟨fun i q=>∃(A B:List Nod)(m:Nat)(F:List L2.T)(o5 o6:Sl),q = [.r d.b,.r (.zl (d.pa.map tS)),.o (.lp p' [iN m]),.o (iN n),.o (.l F),o5,o6]/\m=n+1+A.length/\F=kI n (d::A)/\L'=A++B/\cf ks hs (n+1+A.length) (cs.drop i) B,⟨[],L',n+1,_,_,_,rfl,rfl,rfl,rfl,hL⟩,?_,?_⟩
    ·rintro i y q hy ⟨A,B,m,F,o5,o6,rfl,rfl,rfl,hAB,hB⟩
     obtain⟨x,hx,rfl⟩:=cj hy;rw[L7]at hx;obtain⟨c,hc,rfl⟩:=QX.mp hx;have hcl:=(QH.mp hc).1;obtain⟨ec,BM⟩:=hk.ok i c hc;have ed:cs.drop i=c::cs.drop (i+1):=by
      rw[U1 hcl,(QH.mp hc).2]
     rw[ed]at hB;cases hB with
     | @cons _ _ _ L1 M1 hc1 hM =>
      have him:c.b.im=true:=by cases hc1 with|mk h _=>exact h.sh.im
      have hdc:=BM.dep h3;obtain⟨cb,cab,cam,cpa,csc⟩:=c;obtain rfl:cpa=d.pa ++ [(n,d.b,i)]:=congrArg Nod.pa ec;have ll:L'.length=A.length+(L1.length+M1.length):=by rw[hAB,RM,RM]
      have ep:(d.pa ++ [(n,d.b,i)]).map tS=d.pa.map tS ++ [.t [iN n,d.b,iN i]]:=by rw[S9];rfl
      have i1:L2.T.ims ([.t [iN n,d.b,iN i]]:List L2.T)=true:=by show((true&&(d.b.im&&(true&&true)))&&true)=true;rw[hb];rfl
      have p1:L2.T.c7 (d.pa.map tS ++ [.t [iN n,d.b,iN i]])=true:=by rw[vK,h5];show(true&&((true&&(d.b.pln&&(true&&true)))&&true))=true;rw[pb];rfl
      refine⟨_,rfl,by decide,him,rfl,hb,rfl,_,_,rfl,rfl,sz,h6,i1,p1,rfl,rfl,ks,hs,n+1+A.length,⟨cb,cab,cam,d.pa ++ [(n,d.b,i)],csc⟩,L1,p',?_,⟨hc1,by omega,hdc,by simp;omega,by rw[ep];exact p1,by rw[ep,j7,h6,i1];rfl⟩,rfl,Hr,?_,?_⟩
      ·show _ = [cb,.zl ((d.pa ++ [(n,d.b,i)]).map tS),_];rw[ep];rfl
      ·rw[oE,oE,Te];exact Tr (cx (by omega))
      ·refine⟨A++L1,M1,_,_,_,_,rfl,by rw[RM,<- V0],?_,by rw[Tp];exact hAB,?_⟩
       ·rw[<- VF,DQ,Te,show n+(A.length+1)=n+1+A.length by omega]
       ·rw[RM,<- V0];exact hM
    ·rintro q ⟨A,B,m,F,o5,o6,rfl,rfl,rfl,hAB,hB⟩
     rw[bg,j3,VH]at hB;cases hB;rw[Td]at hAB;subst hAB;refine⟨_,rfl,rfl,?_⟩;rw[show n+1+L'.length=n+(d::L').length by rw[Te];omega]
     exact hq
  ·obtain⟨ks,hs,n,d,L,p,rfl,_⟩:=h;exact⟨_,_,rfl,rfl⟩
def tBd(t:Str×Str×L2.T):L2.T:=.t [.s t.1,.s t.2.1,t.2.2]
theorem wy{xs:List L2.T}{x:L2.T}:dQ (xs ++ [x]) none (some (-1))=xs:=by
 unfold dQ;have e2:HT.sIx (xs ++ [x]).length (xs ++ [x]).length (some (-1))=xs.length:=by
  rw[RM];show(if(-1:Int)<0 then((-1:Int)+((xs.length+1:Nat):Int)).toNat else min (-1:Int).toNat (xs.length+1))=_
  rw[if_pos (by decide)]
  omega
 rw[e2];show((xs ++ [x]).drop 0).take (xs.length - 0)=xs;rw[Vr,Nat.sub_zero,List.take_left]
theorem zS{ts:List L2.T}{t:L2.T}(h:L2.T.ims ts=true)(ht:t∈ts):t.im=true:=by
 induction ts with
 | nil=>cases ht
 | cons x r ih =>
  have h:(x.im&&L2.T.ims r)=true:=h;rw[To]at h;rcases S1.mp ht with rfl|z
  ·exact h.1
  ·exact ih h.2 z
theorem LO(h:(sc.map (·.1)).Nodup){k k':Str}(h1:(y,k)∈sc)(h2:(y,k')∈sc):k=k':=by
 obtain⟨i,hi,e1⟩:=Tz h1;obtain⟨j,hj,e2⟩:=Tz h2
 have:=Eu (f:=fun p:Str×Str=>p.1) h (Es hi) (Es hj) (by rw[e1,e2])
 subst this;rw[e1]at e2;exact(Prod.mk.inj e2).2
theorem pick{us:List (Str×Str×L2.T)}{k:Str}(h:(sc.map (·.1)).Nodup)(hu:us.map (fun t=>(t.1,t.2.1))=sc)(hy:(y,k)∈sc):∃ r,(us.filter fun t=>decide (t.1=y)).map (fun t=>L2.T.s t.2.1) = .s k::r:=by
 rw[<- hu]at hy;obtain⟨t,ht,et⟩:=S5.mp hy;have hm:t∈us.filter fun t=>decide (t.1=y):=U3.mpr ⟨ht,decide_eq_true (congrArg Prod.fst et)⟩
 cases e:us.filter fun t=>decide (t.1=y)with
 | nil=>rw[e]at hm;cases hm
 | cons t' r =>
  have h':t'∈us.filter fun t=>decide (t.1=y):=by rw[e];exact SG
  obtain⟨h1,h2⟩:=U3.mp h';have h2:t'.1=y:=of_decide_eq_true h2
  have:t'.2.1=k:=LO h (by rw[<- hu];exact S5.mpr ⟨t',h1,by rw[h2]⟩) (by rw[<- hu];exact hy)
  exact⟨r.map fun t=>.s t.2.1,by rw[Tx,this]⟩
theorem Kid.RH{b b' am:L2.T}(gk:cF ks)(h:Kid ks hs sc b j b' am sc'){c:Nat}(hl:sc.length<=4+4*c):sc'.length<=4+4*(c+1):=by have:=h.len gk;omega
def Hz:PSp:=fun ts Q=>∃(ks:List Kd)(fs:List Fn)(i:Nat)(f:Fn)(n:Nat)(e:Nod),ts = [tPr ks fs,iN i,ptT n e]/\Prog ks fs/\fs[i]? = some f/\Good ks fs f e/\L2.T.ims (e.pa.map tS)=true/\∀ us:List (Str×Str×L2.T),us.map (fun t=>(t.1,t.2.1))=e.sc ->(∀ t∈us,t.2.2.im=true)->Q (.l (us.map tBd))
theorem Eg(T:Txt K mg a):a8 P w K mg base CX0 2 a.f_bound a.Af ["_law_program_here","_law_f","_law_path"] (spQ K Hz):=by
 have uZ:=@zH P w K mg base a T;have MC:=@HV P w K mg base a T;refine T.AG.F.okQ cM (fun ts Q h=>?_) (fun _ _ _ _ _ _ hr=>?_)
 ·obtain⟨ks,fs,i,f,n,e,rfl,_⟩:=h;rfl
 ·have hu:=bG hr;refine⟨_,_,((ag (kG (i:=3) cM.nd rfl (Or.inl rfl) rfl (zm rfl T.bx (by kernel_rfl) (af (aq (aq (aq (qv 0) ah) (qv 1)) ah) az)) (N':=["_law_k","_law_one","_law_f"]) (.own rfl (.own rfl (.got (i:=1) rfl rfl (.inl rfl) .nil))) (bZ (g:=(Tg.tp [0,1])) (fun _ _ _ _ _=>⟨(c8 (cG 0) (cG 1)),(av (ae (QPE.f (aq (qv 1) ah)) (ae (QPE.f (aq (qv 1) ah)) (ae (av (ae aJ (ae (QPE.f (qv 2)) (ae (QPE.f (qv 0)) ai)))) ai))))⟩)))
 (ag (bp (g:=(Tg.tp [4,5,6])) PassesOwn.never rfl (zk (dO (qv 2) fv (fu (QPF.w (sN ah))))) (kQ (K:=K) (n:=3) rfl rfl (bR (a7 4 cM.nd) (bR (a7 5 cM.nd) (bR (a7 6 cM.nd) kP))))
 (ag (aX (bD hu (aq (qv 5) ah) (QPF.w aJ))
 (aj (aY (i:=3) (pv 3) (av (ae (QPE.f (aq (qv 5) ah)) (ae (aP uZ hr T.va (af (aq (qv 0) ah) (af (aq (qv 5) ah) az))) (ae (av (ae aJ (ae (QPE.f (qv 1)) (ae (QPE.f (qv 4)) ai)))) ai))))))
 aD)
 (ag (aX (bD hu (aq (qv 5) ah) (QPF.w aJ))
 (ag (aC 7 cM.nd (aP MC hr T.Gf (af (qv 0) (af (aq (qv 5) ah) az))))
 (aj (aY (i:=3) (pv 3) (av (ae (QPE.f (aq (qv 5) ah)) (ae (QPE.f (aq (aq (aq (qv 0) ah) (qv 7)) ah)) (ae (av (ae aJ (ae (QPE.f (qv 7)) ai))) ai)))))))
 aD)
 (ag (aX (bD hu (aq (qv 5) ah) (QPF.w aJ))
 (ag (aC 8 cM.nd (QPE.f (aq (QPF.w (bj rfl (dD (qv 3)) (N':=["_law_one","_law_piece"]) (.own rfl (.got (i:=5) rfl rfl (.inl rfl) .nil)) (oC (g:=(Tg.nm 0)) (fun _ _ _ _ _=>⟨(cG 0),(bD hu (aq (qv 0) ah) (aq (qv 1) ah)),(QPE.f (aq (qv 0) ah))⟩)))) ah)))
 (aj (aY (i:=3) (pv 3) (av (ae (QPE.f (aq (qv 5) ah)) (ae (QPE.f (qv 8)) (ae (av (ae aJ (ae (QPE.f (qv 1)) (ae (QPE.f (qv 4)) ai)))) ai)))))))
 aD)
 (aj (aX (bD hu (aq (qv 5) ah) (QPF.w aJ))
 (ag (lQ (g:=(Tg.tp [9,10])) (QPF.w (dO (aq (aq (qv 5) ah) (qv 6)) fv (fu ah))) (c8 (a7 9 cM.nd) (a7 10 cM.nd)))
 (ag (aC 11 cM.nd (QPE.f (dE (QPF.w (aN (bW rfl) cA (by rfl) T.gW (by kernel_rfl) (af (dE (QPF.w (aN (bW rfl) cA (by rfl) T.gW (by kernel_rfl) (af (aq (qv 0) ah) az))) (QPF.w (aP uZ hr T.va (af (aq (qv 0) ah) (af (qv 9) az))))) az))) (qv 9))))
 (aj (bA (i:=3) (pv 3) (bj rfl (K0 rfl T.Kg (by kernel_rfl) (af (qv 10) (af (qv 11) az))) (N':=["_law_name","_law_field","_law_f","_law_n"]) (.own rfl (.own rfl (.got (i:=1) rfl rfl (.inl rfl) (.got (i:=4) rfl rfl (.inl rfl) .nil)))) (bZ (g:=(Tg.tp [0,1])) (fun _ _ _ _ _=>⟨(c8 (cG 0) (cG 1)),(av (ae (QPE.f (qv 0)) (ae (QPE.f (qv 1)) (ae (av (ae aJ (ae (QPE.f (qv 2)) (ae (QPE.f (qv 3)) ai)))) ai))))⟩)))))))
 aD))))))
 (aj (eR (i:=3) (pv 3)))))),fun ts Q h=>?_⟩
  obtain⟨ks,fs,i,f,n,e,rfl,hP,hf,G,him,hq⟩:=h;have hfm:=RB hf;obtain⟨p1,p2,p3,p4⟩:=hP.pk f hfm;have ef:atI (fs.map tF) (i:Int)=some (tF f):=bX (by rw[L7,hf];rfl)
  have hpl:e.pa.length<=92:=by obtain⟨N,h,_⟩:=G.dp;omega
  refine⟨_,rfl,_,ef,_,rfl,?_⟩;refine⟨ay (by rw[bg,j3];omega),fun c ys=>∃ us:List (Str×Str×L2.T),ys=us.map tBd/\us.map (fun t=>(t.1,t.2.1))=f.1.2.1.take c/\∀ t∈us,t.2.2.im=true,⟨[],rfl,rfl,fun _ z=>nomatch z⟩,?_,?_⟩
  ·rintro c y ys hy ⟨us,rfl,h1,h2⟩
   obtain⟨z,hz,rfl⟩:=cj hy;rw[L7]at hz;obtain⟨p,hp,rfl⟩:=QX.mp hz;refine⟨_,rfl,_,rfl,rfl,_,rfl,rfl,rfl,rfl,us ++ [(p.1,p.2,.t [.s "param",iN i,iN c])],by rw[S9];rfl,?_,fun t ht=>?_⟩
   ·rw[S9,h1,S8,hp];rfl
   ·rcases SY.mp ht with z|z
    ·exact h2 t z
    ·rw[qr.mp z];rfl
  ·rintro ys ⟨us,rfl,h1,h2⟩
   rw[bg,j3,Tb]at h1;refine⟨fun c q=>∃(us:List (Str×Str×L2.T))(sc:Sc)(F:List L2.T)(o4 o5 o6 o7 o8 o9 o10 o11:Sl),q = [.r (tPr ks fs),.r (iN i),.r (ptT n e),.o (.l F),o4,o5,o6,o7,o8,o9,o10,o11]/\F=us.map tBd/\us.map (fun t=>(t.1,t.2.1))=sc/\(∀ t∈us,t.2.2.im=true)/\Pth ks (fs.map (·.1)) sc (e.pa.drop c) e.sc/\(sc.map (·.1)).Nodup/\sc.length<=4+4*c,⟨us,_,_,_,_,_,_,_,_,_,_,rfl,rfl,h1,h2,G.pt,p3,by omega⟩,?_,?_⟩
   ·rintro c y q hy ⟨us,sc,F,o4,o5,o6,o7,o8,o9,o10,o11,rfl,rfl,h1,h2,hp,hn,hl⟩
    have hy:(dQ (e.pa.map tS ++ [.t [iN n,e.b,.n]]) none (some (-1)))[c]? = some y:=hy;rw[wy,L7]at hy;obtain⟨⟨m,b,j⟩,hs,rfl⟩:=QX.mp hy;have hcl:=(QH.mp hs).1;have ed:e.pa.drop c =(m,b,j)::e.pa.drop (c+1):=by
     rw[U1 hcl,(QH.mp hs).2]
    rw[ed]at hp;have hus:us.length=sc.length:=by rw[<- h1,j3]
    have lF:(us.map tBd).length<S4:=cx (by rw[j3];omega)
    have one:∀{x k:Str}{t:L2.T},t.im=true ->(us ++ [(x,k,t)]).map (fun t=>(t.1,t.2.1))=sc ++ [(x,k)]/\∀ z∈us ++ [(x,k,t)],z.2.2.im=true:=fun{x k t} ht=>⟨by rw[S9,h1];rfl,fun z hz=>by
     rcases SY.mp hz with q|q
     ·exact h2 z q
     ·rw[qr.mp q];exact ht⟩
    cases hp with
    | @cons _ sc' _ _ _ _ b' am _ hk hp' =>
     have hn':=hk.nd hn;have hl':=hk.RH hP.gk hl;cases hk with
     | @cW w c b hw =>
      have n1:¬ decide ((L2.T.s w).v =(L2.T.s "make").v)=true:=by rcases hw with rfl|rfl <;> decide +kernel
      have n2:¬ decide ((L2.T.s w).v =(L2.T.s "call").v)=true:=by rcases hw with rfl|rfl <;> decide +kernel
      have n3:¬ decide ((L2.T.s w).v =(L2.T.s "name").v)=true:=by rcases hw with rfl|rfl <;> decide +kernel
      have n4:¬ decide ((L2.T.s w).v =(L2.T.s "case").v)=true:=by rcases hw with rfl|rfl <;> decide +kernel
      refine⟨_,rfl,_,rfl,rfl,aB (fun z=>absurd z n1) fun _=>⟨_,rfl,rfl,aB (fun z=>absurd z n2) fun _=>⟨_,rfl,rfl,aB (fun z=>absurd z n3) fun _=>⟨_,rfl,rfl,aB (fun z=>absurd z n4) fun _=>?_⟩⟩⟩⟩
      exact⟨us,_,_,_,_,_,_,_,_,_,_,rfl,rfl,h1,h2,hp',hn',hl'⟩
     | @make x mk kd ns b hkd hm hx =>
      refine⟨_,rfl,_,rfl,rfl,aB (fun _=>?_) fun z=>absurd (by decide +kernel) z⟩
      refine⟨lF,_,rfl,rfl,_,rfl,_,rfl,ks,kd,mk,rfl,hP.gk,hkd,hm,rfl,rfl,?_⟩;refine⟨_,rfl,rfl,aB (fun z=>absurd z (by decide +kernel)) fun _=>⟨_,rfl,rfl,aB (fun z=>absurd z (by decide +kernel)) fun _=>⟨_,rfl,rfl,aB (fun z=>absurd z (by decide +kernel)) fun _=>?_⟩⟩⟩
      exact⟨us ++ [(x,kd.1,.t [.s "piece",iN i,iN m])],_,_,_,_,_,_,_,_,_,_,rfl,by rw[S9];rfl,(one rfl).1,(one rfl).2,hp',hn',hl'⟩
     | @call x h ns b hh hx =>
      obtain⟨f',hf',rfl⟩:=S5.mp hh;obtain⟨i',hi',hie⟩:=Tz hf';have hi2:fs[i']? = some f':=by rw[Es hi',hie]
      refine⟨_,rfl,_,rfl,rfl,aB (fun z=>absurd z (by decide +kernel)) fun _=>⟨_,rfl,rfl,aB (fun _=>?_) fun z=>absurd (by decide +kernel) z⟩⟩
      refine⟨_,rfl,tKs ks,fs,i',f',rfl,j8 ks,hP.hn,fun f hf=>(hP.sn f hf).1.im,hP.l8,hi2,?_⟩
      refine⟨lF,_,rfl,rfl,_,rfl,_,bX (v:=tF f') (by rw[L7,hi2];rfl),_,rfl,rfl,rfl,?_⟩
      refine⟨_,rfl,rfl,aB (fun z=>absurd z (by decide +kernel)) fun _=>⟨_,rfl,rfl,aB (fun z=>absurd z (by decide +kernel)) fun _=>?_⟩⟩
      exact⟨us ++ [(x,f'.1.2.2,.t [.s "result",iN i'])],_,_,_,_,_,_,_,_,_,_,rfl,by rw[S9];rfl,(one rfl).1,(one rfl).2,hp',hn',hl'⟩
     | @name x y k b hy' hx =>
      refine⟨_,rfl,_,rfl,rfl,aB (fun z=>absurd z (by decide +kernel)) fun _=>⟨_,rfl,rfl,aB (fun z=>absurd z (by decide +kernel)) fun _=>⟨_,rfl,rfl,aB (fun _=>?_) fun z=>absurd (by decide +kernel) z⟩⟩⟩
      refine⟨lF,fun c' ys=>ys =((us.take c').filter fun t=>decide (t.1=y)).map (fun t=>L2.T.s t.2.1),rfl,?_,?_⟩
      ·rintro c' z ys hz rfl
       rw[L7]at hz;obtain⟨t,ht,rfl⟩:=QX.mp hz;refine⟨_,rfl,_,rfl,_,rfl,rfl,aB (fun g=>?_) fun g=>?_⟩
       ·refine⟨_,rfl,rfl,?_⟩;have g:t.1=y:=V.str.inj (of_decide_eq_true g);rw[S8,ht,Uj,S9];simp[g]
       ·have g:¬ t.1=y:=fun z=>g (decide_eq_true (congrArg V.str z))
        show _=_;rw[S8,ht,Uj,S9];simp[g]
      ·rintro ys rfl
       rw[j3,Tb];obtain⟨r,er⟩:=pick hn h1 hy';rw[er];refine⟨_,bX (j:=0) (v:=.s k) rfl,rfl,lF,_,rfl,rfl,rfl,rfl,rfl,?_⟩;refine⟨_,rfl,rfl,aB (fun z=>absurd z (by decide +kernel)) fun _=>?_⟩
       exact⟨us ++ [(x,k,.t [.s "piece",iN i,iN m])],_,_,_,_,_,_,_,_,_,_,rfl,by rw[S9];rfl,(one rfl).1,(one rfl).2,hp',hn',hl'⟩
     | @case x kd arms _ ar mk hx hkd hnm ha hm hl2 hN =>
      refine⟨_,rfl,_,rfl,rfl,aB (fun z=>absurd z (by decide +kernel)) fun _=>⟨_,rfl,rfl,aB (fun z=>absurd z (by decide +kernel)) fun _=>⟨_,rfl,rfl,aB (fun z=>absurd z (by decide +kernel)) fun _=>⟨_,rfl,rfl,aB (fun _=>?_) fun z=>absurd (by decide +kernel) z⟩⟩⟩⟩
      have em:ar.1=mk.1:=by
       have:=congrArg (·[j]?) hnm
       simp only[L7,ha,hm]at this;exact Option.some.inj this
      have hbi:L2.T.ims (arms.map tA)=true:=by
       have h:=zS him (S5.mpr ⟨_,RB hs,rfl⟩);have h:(true&&((true&&(true&&(L2.T.ims (arms.map tA)&&true)))&&(true&&true)))=true:=h;simpa using h
      have hai:=zS hbi (S5.mpr ⟨_,RB ha,rfl⟩);have hat:atI (arms.map tA) (j:Int)=some (tA ar):=bX (by rw[L7,ha];rfl)
      obtain⟨a1,a2,a3,a4⟩:=ar;obtain rfl:a1=mk.1:=em;have hk1:bS (b7 [] (ks.map kEn)) (.inr kd.1)=some (tMs kd.2):=by rw[ji hP.gk.nd (S5.mpr ⟨kd,hkd,rfl⟩),kW hP.gk.nd hkd]
      have hk2:bS (b7 [] (kd.2.map enM)) (.inr mk.1)=some (.t (mk.2.map .s)):=by
       rw[nO (gi hP.gk.mn hkd)];exact kX (f:=fun m:Mk1=>m.1) (gi hP.gk.mn hkd) (RB hm)
      refine⟨_,rfl,_,hat,hai,(by show(true&&(L2.T.ims (a2.map .s)&&true))=true;rw[aL];rfl),_,rfl,?_⟩
      refine⟨_,rfl,aU pq _,_,iH ks,_,rfl,ks,kd,mk,rfl,hP.gk,hkd,RB hm,_,hk1,aU rF _,_,sV kd.2,_,hk2,aL _,?_⟩;have hml:=(hP.gk.fl kd hkd mk (RB hm)).1;have hl3:a2.length=mk.2.length:=hl2;refine⟨cx (by rw[ky,j3,j3];omega),fun c' ys=>ys =((a2.zip mk.2).take c').map fun p=>tBd (p.1,p.2,.t [.s "piece",iN i,iN m]),rfl,?_,?_⟩
      ·rintro c' z ys hz rfl
       have ez:kz (a2.map L2.T.s) (mk.2.map L2.T.s) =(a2.zip mk.2).map tP:=by
        unfold kz;rw[List.zip_map,TQ];rfl
       rw[ez,L7]at hz;obtain⟨t,ht,rfl⟩:=QX.mp hz;refine⟨_,rfl,rfl,rfl,rfl,rfl,?_⟩;rw[S8,ht,S9];rfl
      ·rintro ys rfl
       have el:(kz (a2.map L2.T.s) (mk.2.map L2.T.s)).length =(a2.zip mk.2).length:=by rw[ky,Us,j3,j3]
       rw[el,Tb];refine⟨?_,?_⟩
       ·rw[j3,j3,Us];exact Tr (cx (by omega))
       ·refine⟨us++(a2.zip mk.2).map (fun p=>(p.1,p.2,.t [.s "piece",iN i,iN m])),_,_,_,_,_,_,_,_,_,_,rfl,by rw[S9,TQ];rfl,by rw[S9,h1,TQ];exact congrArg (sc ++ ·) (List.map_id' _),fun z hz=>?_,hp',hn',hl'⟩
        rcases SY.mp hz with q|q
        ·exact h2 z q
        ·obtain⟨p,_,rfl⟩:=S5.mp q;rfl
   ·rintro q ⟨us,sc,F,o4,o5,o6,o7,o8,o9,o10,o11,rfl,rfl,h1,h2,hp,hn,hl⟩
    have hp:Pth ks (fs.map (·.1)) sc (e.pa.drop (dQ (e.pa.map tS ++ [.t [iN n,e.b,.n]]) none (some (-1))).length) e.sc:=hp;rw[wy,j3,VH]at hp;cases hp;exact hq us h1 h2
def mkE(r:Str):Key×L2.T:=(.inr r,.b true)
theorem nK{rs:List Str}{s:Str}:(bS (rs.map mkE) (.inr s)).isSome=decide (s∈rs):=by
 unfold bS;rw[UX,List.find?_map];rw[UX,UK,List.find?_isSome]
 constructor
 ·rintro⟨x,hx,e⟩
  have e:(Sum.inr x:Key) = .inr s:=of_decide_eq_true e;exact decide_eq_true (Sum.inr.inj e▸hx)
 ·intro h;exact⟨s,of_decide_eq_true h,decide_eq_true rfl⟩
theorem Le{rs:List Str}{s:Str}(h:s ∉ rs):sS (rs.map mkE) (.inr s) (.b true) =(rs ++ [s]).map mkE:=by
 unfold sS;rw[if_neg]
 ·simp[mkE]
 ·rw[VJ,Vd]
  rintro⟨x,hx,e⟩
  have e:(Sum.inr x:Key) = .inr s:=of_decide_eq_true e;exact h (Sum.inr.inj e▸hx)
theorem EN:∀ rs:List Str,L2.T.imk (rs.map mkE)=true
 | []=>rfl
 | p::r=>by show(true&&L2.T.imk (r.map mkE))=true;rw[EN r];rfl
theorem nM{α β:Type}{f:α->List β}{n:Nat}:∀ xs:List α,(∀ x∈xs,(f x).length<=n) ->(xs.flatMap f).length<=n*xs.length
 | [],_=>by simp
 | x::r,h=>by
  have h1:=h x SG;have h2:=nM (f:=f) r fun y hy=>h y (SK _ hy)
  rw[List.flatMap_cons,RM,Te,Nat.mul_succ];omega
theorem cF.kh{ks:List Kd}(g:cF ks):(kh ks).length<=144:=by
 have h:=nM (f:=fun k:Kd=>k.2.flatMap (·.2)) (n:=24) ks fun k hk=>by
  have h1:=nM (f:=fun m:Mk1=>m.2) (n:=4) k.2 fun m hm=>(g.fl k hk m hm).1
  have h2:=(g.ne k hk).2;omega
 have h2:=g.k2;unfold L2.kh;omega
def Ba:PSp:=fun ts Q=>∃(ks:List Kd)(k:Str),ts = [tKs ks,.s k]/\cF ks/\∀ rs:List Str,(∀ s,s∈rs ↔ Reach ks k s)->Q (.d (rs.map mkE))
theorem l9(T:Txt K mg a):a8 P w K mg base CX0 2 a.bN a.g9 ["kinds","kind"] (spQ K Ba):=by
 have i9:=@kT P w K mg base a T;refine T.ib.F.okQ bz (fun ts Q h=>?_) (fun _ _ _ _ _ _ hr=>?_)
 ·obtain⟨ks,k,rfl,_⟩:=h;rfl
 ·have hu:=bG hr;refine⟨_,_,((ag (aC 2 bz.nd (DD (qv 1) (QPF.w rl)))
 (ag (aC 3 bz.nd (aG (ae (QPE.f (qv 1)) ai)))
 (ag (ox PassesOwn.never (kF (qv 3))
 (ag (Dt (j:=4) bz.nd rfl (Or.inl rfl) (pv 3))
 (aj (bp (g:=(Tg.nm 5)) PassesOwn.never rfl (gH (aP i9 hr T.ja (af (qv 0) (af (qv 4) az)))) (a7 5 bz.nd)
 (aj (bp (g:=(Tg.nm 6)) PassesOwn.never rfl (gH (QPE.f (aq (qv 5) ah))) (a7 6 bz.nd)
 (aj (aX (bE (Bl hu) og rfl (qv 6) (qv 2))
 (ag (KW (i:=2) hu (pv 2) (qv 6) (QPF.w rl))
 (aj (aY (i:=3) (pv 3) (QPE.f (qv 6)))))
 aD))))))))
 (aj (eR (i:=2) (pv 2))))))),fun ts Q h=>?_⟩
  obtain⟨ks,k,rfl,gk,hq⟩:=h;have hal:=gk.kh;refine⟨rfl,rfl,fun c q=>∃(rs W:List Str)(D:List (Key×L2.T))(X:List L2.T)(o4 o5 o6:Sl),q = [.r (tKs ks),.r (.s k),.o (.d D),.o (.l X),o4,o5,o6]/\D=rs.map mkE/\X=W.map .s/\RWt ks k rs W/\c=2*un (kh ks) rs+W.length,⟨_,[k],[k],_,_,_,_,_,rfl,rfl,rfl,.start,rfl⟩,?_⟩
  rintro c q ⟨rs,W,D,X,o4,o5,o6,rfl,rfl,rfl,R,rfl⟩
  rcases VP W with rfl |⟨W,here,rfl⟩
  ·exact hq rs fun s=>R.all
  ·rw[List.concat_eq_append]at *;have R0:=R.pop
   generalize hc:2*un (kh ks) rs+(W ++ [here]).length=c at R0 ⊢
   refine aB (fun _=>?_) (fun z=>absurd (by simp) z)
   refine⟨fun q'=>∃(rs W:List Str)(D:List (Key×L2.T))(X:List L2.T)(o4 o5 o6:Sl),q' = [.r (tKs ks),.r (.s k),.o (.d D),.o (.l X),o4,o5,o6]/\D=rs.map mkE/\X=W.map .s/\RWt ks k rs W/\2*un (kh ks) rs+W.length<c,?_,?_⟩
   ·rintro q' ⟨rs,W,D,X,o4,o5,o6,rfl,rfl,rfl,g1,g2⟩
    exact⟨_,g2,rs,W,_,_,_,_,_,rfl,rfl,rfl,g1,rfl⟩
   ·refine⟨W.map .s,.s here,by simp,aL _,by decide,ks,here,rfl,?_⟩
    refine⟨fun i q=>∃(rs W:List Str)(D:List (Key×L2.T))(X:List L2.T)(o4 o5 o6:Sl),q = [.r (tKs ks),.r (.s k),.o (.d D),.o (.l X),o4,o5,o6]/\D=rs.map mkE/\X=W.map .s/\RS ks k here (((ft ks here).take i).flatMap (·.2)) rs W c,⟨rs,W,_,_,_,_,_,rfl,rfl,rfl,R0⟩,?_,?_⟩
    ·rintro i y q hy ⟨rs,W,D,X,o4,o5,o6,rfl,rfl,rfl,R1⟩
     rw[L7]at hy;obtain⟨m,hm,rfl⟩:=QX.mp hy;refine⟨_,rfl,_,rfl,aL _,fun j q=>∃(rs W:List Str)(D:List (Key×L2.T))(X:List L2.T)(o4 o5 o6:Sl),q = [.r (tKs ks),.r (.s k),.o (.d D),.o (.l X),o4,o5,o6]/\D=rs.map mkE/\X=W.map .s/\RS ks k here (((ft ks here).take i).flatMap (·.2)++m.2.take j) rs W c,⟨rs,W,_,_,_,_,_,rfl,rfl,rfl,by rw[List.take_zero,Td];exact R1⟩,?_,?_⟩
     ·rintro j y q hy ⟨rs,W,D,X,o4,o5,o6,rfl,rfl,rfl,R2⟩
      rw[L7]at hy;obtain⟨f,hf,rfl⟩:=QX.mp hy;have hff:f∈pC ks here:=U0.mpr ⟨m,RB hm,RB hf⟩;have et:((ft ks here).take i).flatMap (·.2)++m.2.take (j+1) =(((ft ks here).take i).flatMap (·.2)++m.2.take j) ++ [f]:=by
       rw[S8,hf,Tp];rfl
      have hsz:=R2.sz;have hsw:=R2.sw;refine⟨_,rfl,aB (fun g=>?_) fun g=>?_⟩
      ·have g:(!(bS (rs.map mkE) (.inr f)).isSome)=true:=g;rw[nK]at g;have hn:f ∉ rs:=fun z=>by rw[decide_eq_true z]at g;cases g
       refine⟨ay (by rw[j3];omega),EN _,rfl,?_⟩
       rw[Le hn];refine⟨ay (by rw[j3];omega),rfl,?_⟩
       exact⟨rs ++ [f],W ++ [f],_,_,_,_,_,rfl,rfl,by simp,by rw[et];exact R2.new hn hff⟩
      ·have g:¬(!(bS (rs.map mkE) (.inr f)).isSome)=true:=g;rw[nK]at g;have hn:f∈rs:=by
        by_cases z:f∈rs
        ·exact z
        ·rw[decide_eq_false z]at g;exact absurd rfl g
       exact⟨rs,W,_,_,_,_,_,rfl,rfl,rfl,by rw[et];exact R2.old hn⟩
     ·rintro q ⟨rs,W,D,X,o4,o5,o6,rfl,rfl,rfl,R2⟩
      rw[j3,Tb]at R2;exact⟨rs,W,_,_,_,_,_,rfl,rfl,rfl,by rw[<- jd (f:=fun m:Mk1=>m.2) hm];exact R2⟩
    ·rintro q ⟨rs,W,D,X,o4,o5,o6,rfl,rfl,rfl,R1⟩
     rw[j3,Tb]at R1;exact⟨rs,W,_,_,_,_,_,rfl,rfl,rfl,R1.fin rfl,R1.m⟩
def DT:PSp:=fun ts Q=>∃(ks:List Kd)(k:Str),ts = [tKs ks,.s k]/\cF ks/\Q (.t ((e7 ks k ks).map .s))
theorem cF.wl(g:cF ks){k:Str}{xs:List Kd}(h:∀ x∈xs,x∈ks):(e7 ks k xs).length<=6*xs.length:=by
 refine nM xs fun x hx=>?_
 split
 ·rw[j3];exact(g.ne x (h x hx)).2
 ·exact TX _
theorem Bm(T:Txt K mg a):a8 P w K mg base CX0 3 a.gu a.wu ["kinds","kind"] (spQ K DT):=by
 have nq:=@l9 P w K mg base a T;refine T.wI.F.okQ gb (fun ts Q h=>?_) (fun _ _ _ _ _ _ hr=>?_)
 ·obtain⟨ks,k,rfl,_⟩:=h;rfl
 ·have hu:=bG hr;refine⟨_,_,((ag (aC 2 gb.nd (aP nq hr T.ib (af (qv 0) (af (qv 1) az))))
 (ag (aC 3 gb.nd (aG ai))
 (ag (bp (g:=(Tg.tp [4,5])) PassesOwn.never rfl (gH (QPE.f (qv 0))) (c8 (a7 4 gb.nd) (a7 5 gb.nd))
 (aj (aX (bE (D9 hu) og rfl (qv 4) (qv 2))
 (aj (bA (i:=3) (pv 3) (bj rfl (fJ (qv 5)) (N':=["maker"]) (.own rfl .nil) (bZ (g:=(Tg.nm 0)) (fun _ _ _ _ _=>⟨(cG 0),(QPE.f (aq (qv 0) ah))⟩)))))
 aD)))
 (aj (aI (aN (cq rfl) ck (by rfl) T.di (by kernel_rfl) (af (qv 3) az)))))))),fun ts Q h=>?_⟩
  obtain⟨ks,k,rfl,gk,hq⟩:=h;have k6:=gk.k2;refine⟨ks,k,rfl,gk,fun rs hrs=>?_⟩
  refine⟨j8 ks,fun i q=>∃(X:List L2.T)(o4 o5:Sl),q = [.r (tKs ks),.r (.s k),.o (.d (rs.map mkE)),.o (.l X),o4,o5]/\X =(e7 ks k (ks.take i)).map .s,⟨_,_,_,rfl,rfl⟩,?_,?_⟩
  ·rintro i y q hy ⟨X,o4,o5,rfl,rfl⟩
   rw[L7]at hy;obtain⟨x,hx,rfl⟩:=QX.mp hy;have hl:=gk.wl (k:=k) (xs:=ks.take i) fun y hy=>Ud hy
   have htl:(ks.take i).length<=6:=by rw[Ti];omega
   have hxl:=(gk.ne x (RB hx)).2;refine⟨_,rfl,aB (fun g=>?_) fun g=>?_⟩
   ·have g:(bS (rs.map mkE) (.inr x.1)).isSome=true:=g;rw[nK]at g;have hR:=(hrs _).mp (of_decide_eq_true g);refine⟨ay (by rw[j3];omega),fun j ys=>ys =((x.2.take j).map (·.1)).map .s,rfl,?_,?_⟩
    ·rintro j z ys hz rfl
     rw[L7]at hz;obtain⟨m,hm,rfl⟩:=QX.mp hz;refine⟨_,rfl,_,rfl,rfl,?_⟩;show _ ++ [L2.T.s m.1]=_;rw[S8,hm];simp
    ·rintro ys rfl
     rw[j3,Tb];refine⟨?_,?_⟩
     ·simp only[j3];exact Tr (ay (by omega))
     ·exact⟨_,_,_,rfl,by rw[vh hx hR,S9]⟩
   ·have g:¬(bS (rs.map mkE) (.inr x.1)).isSome=true:=g;rw[nK]at g;have hR:¬ Reach ks k x.1:=fun z=>g (decide_eq_true ((hrs _).mpr z))
    exact⟨_,_,_,rfl,by rw[yV hx hR]⟩
  ·rintro q ⟨X,o4,o5,rfl,rfl⟩
   rw[j3,Tb];exact⟨aL _,hq⟩
def Hu:PSp:=fun ts Q=>∃(ks:List Kd)(u:L2.T)(fam:List L2.T)(k:Str),ts = [.t [tKs ks,u],.t fam,.s k]/\cF ks/\L2.T.ims fam=true/\fam.length<=10/\Q (.l ((e7 ks k ks).map fun m=>.t (fam ++ [.s m])))
theorem iI(T:Txt K mg a):a8 P w K mg base CX0 4 a.cm a.jE ["program","family","kind"] (spQ K Hu):=by
 have F4:=@Bm P w K mg base a T;refine T.cv.F.okQ om (fun ts Q h=>?_) (fun _ _ _ _ _ _ hr=>?_)
 ·obtain⟨ks,u,fam,k,rfl,_⟩:=h;rfl
 ·have hu:=bG hr;refine⟨_,_,((aj (aI (bj rfl (fJ (QPF.w (aP F4 hr T.wI (af (aq (qv 0) ah) (af (qv 2) az))))) (N':=["maker","family"]) (.own rfl (.got (i:=1) rfl rfl (.inl rfl) .nil)) (bZ (g:=(Tg.nm 0)) (fun _ _ _ _ _=>⟨(cG 0),(bq (qv 1) (QPF.w (av (ae (QPE.f (qv 0)) ai))))⟩)))))),fun ts Q h=>?_⟩
  obtain⟨ks,u,fam,k,rfl,gk,hi,hl,hq⟩:=h;have k6:=gk.k2;have wl:=gk.wl (k:=k) (xs:=ks) fun _ h=>h
  refine⟨_,rfl,ks,k,rfl,gk,ay (by rw[j3];omega),fun i ys=>ys =((e7 ks k ks).take i).map fun m=>.t (fam ++ [.s m]),rfl,?_,?_⟩
  ·rintro i y ys hy rfl
   rw[L7]at hy;obtain⟨m,hm,rfl⟩:=QX.mp hy;refine⟨_,rfl,rfl,bo (by show fam.length+1<=10000;omega),hi,rfl,?_⟩
   rw[S8,hm];simp
  ·rintro ys rfl
   rw[j3,Tb];exact hq
noncomputable def wQ(ks:List Kd)(i n:Nat)(o:Option Str):List L2.T:=match o with
 | some k=>(e7 ks k ks).map fun m=>.t [.s "piece",iN i,iN n,.s m]
 | none=>[]
noncomputable def cH(ks:List Kd)(i:Nat):Nat->List (Option Str)->List L2.T
 | _,[]=>[]
 | n,o::r=>wQ ks i n o++cH ks i (n+1) r
theorem nT{i:Nat}{o:Option Str}:∀{n:Nat},cH ks i n (os ++ [o])=cH ks i n os++wQ ks i (n+os.length) o:=by
 induction os with
 | nil=>intro n;show _ ++ [] = []++_;rw[Td];rfl
 | cons p r ih=>intro n;show _++cH ks i (n+1) (r ++ [o]) =(_++_)++_;rw[ih,Tp,Te,show n+1+r.length=n+(r.length+1)by omega]
theorem Cp(g:cF ks){i:Nat}{o:Option Str}:(wQ ks i n o).length<=36:=by
 unfold wQ
 split
 ·rw[j3]
  have:=g.wl (k:=by assumption) (xs:=ks) fun _ h=>h
  have:=g.k2
  omega
 ·exact TX _
theorem jc(g:cF ks){i:Nat}:∀{n:Nat},(cH ks i n os).length<=36*os.length:=by
 induction os with
 | nil=>intro n;exact TX _
 | cons p r ih =>
  intro n;show(wQ ks i n p++cH ks i (n+1) r).length<=_;have h1:=Cp g (i:=i) (n:=n) (o:=p);have h2:=ih (n:=n+1);rw[RM,Te];omega
theorem cJ(h:n<=16000000):n<S4:=UU h (by decide)
structure Gj(ks:List Kd)(L:List Nod)(os:List (Option Str)):Prop where
 ln:os.length=L.length
 ok:∀(n:Nat)(e:Nod)(o:Option Str),L[n]? = some e->os[n]? = some o->Ask ks e.sc e.b o
def Lk:PSp:=fun ts Q=>∃(ks:List Kd)(fs:List Fn)(i:Nat)(f:Fn)(L:List Nod)(os:List (Option Str)),ts = [tPr ks fs,iN i]/\Prog ks fs/\fs[i]? = some f/\Pre ks (fs.map (·.1)) 0 (rtN f) L/\L.length<=50000/\Gj ks L os/\Q (.l (cH ks i 0 os))
theorem kS(T:Txt K mg a):a8 P w K mg base CX0 6 a.bB a.gx ["program","f"] (spQ K Lk):=by
 have cu:=@iI P w K mg base a T;have qU:=@oN P w K mg base a T;have F5:=@Bn P w K mg base a T;have eM:=@gh P w K mg base a T;refine T.gA.F.okQ bt (fun ts Q h=>?_) (fun _ _ _ _ _ _ hr=>?_)
 ·obtain⟨ks,fs,i,f,L,os,rfl,_⟩:=h;rfl
 ·have hu:=bG hr;refine⟨_,_,((ag (aC 2 bt.nd (aG ai))
 (ag (aC 3 bt.nd (aP qU hr T.jL (af (qv 0) (af (qv 1) az))))
 (ag (bp (g:=(Tg.tp [4,5])) PassesOwn.never rfl (vB T.bx (aP F5 hr T.wJ (af (aq (aq (aq (qv 0) ah) (qv 1)) ah) az))) (c8 (a7 4 bt.nd) (a7 5 bt.nd))
 (ag (aC 6 bt.nd (av (ae aJ (ae (QPE.f (qv 1)) (ae (QPE.f (qv 4)) ai)))))
 (aj (aX (bD hu (aq (qv 5) ah) (QPF.w aJ))
 (aj (bA (i:=2) (pv 2) (aP cu hr T.cv (af (qv 0) (af (qv 6) (af (QPF.w (aP eM hr T.eO (af (aq (qv 0) ah) (af (aq (qv 5) ah) az)))) az))))))
 (aj (aX (bD hu (aq (qv 5) ah) (QPF.w aJ))
 (aj (bA (i:=2) (pv 2) (aP cu hr T.cv (af (qv 0) (af (qv 6) (af (dE (aq (qv 3) (qv 4)) (aq (qv 5) ah)) az))))))
 (aj (aX (bD hu (aq (qv 5) ah) (QPF.w aJ))
 (aj (bA (i:=2) (pv 2) (aP cu hr T.cv (af (qv 0) (af (qv 6) (af (dE (aq (qv 3) (qv 4)) (aq (qv 5) ah)) az))))))
 aD))))))))
 (aj (eR (i:=2) (pv 2))))))),fun ts Q h=>?_⟩
  obtain⟨ks,fs,i,f,L,os,rfl,hP,hf,hR,hL,hA,hq⟩:=h;have hPL:cf ks (fs.map (·.1)) 0 [rtN f] L:=by have:=cf.cons hR (.nil);rwa [Td]at this
  have hfm:=RB hf;have G:=E1 hP hfm hPL;have ef:atI (fs.map tF) (i:Int)=some (tF f):=bX (by rw[L7,hf];rfl)
  refine⟨ks,fs,i,f,L,rfl,hP,hf,hR,hL,fun X hX=>?_⟩
  refine⟨_,rfl,_,ef,_,rfl,ks,fs.map (·.1),rtN f,L,rfl,rfl,rfl,hR,hL,?_⟩;refine⟨fun c q=>∃(F:List L2.T)(o4 o5 o6:Sl),q = [.r (tPr ks fs),.r (iN i),.o (.l F),.o (.l X),o4,o5,o6]/\F=cH ks i 0 (os.take c),⟨_,_,_,_,rfl,rfl⟩,?_,?_⟩
  ·rintro c y q hy ⟨F,o4,o5,o6,rfl,rfl⟩
   obtain⟨z,hz,rfl⟩:=cj hy;rw[L7]at hz;obtain⟨e,he,rfl⟩:=QX.mp hz;have hcl:=(QH.mp he).1;have hol:c<os.length:=by rw[hA.ln];exact hcl
   have ho:os[c]? = some os[c]:=Es hol;obtain⟨o,ho,hk⟩:∃ o,os[c]? = some o/\Ask ks e.sc e.b o:=⟨_,ho,hA.ok c e _ he ho⟩
   have g:=G e (RB he);have nx:∀{o:Option Str},os[c]? = some o->cH ks i 0 (os.take (c+1))=cH ks i 0 (os.take c)++wQ ks i c o:=fun{o} h=>by
    rw[S8,h];show cH ks i 0 (os.take c ++ [o])=_;rw[nT,Ti,Uq (by omega),UA]
   have hFl:(cH ks i 0 (os.take c)).length<=36*50000:=by
    have:=jc hP.gk (i:=i) (os:=os.take c) (n:=0)
    rw[Ti]at this
    have:=hA.ln
    omega
   obtain⟨t,ht1,ht2⟩:∃ t,X[c]? = some t/\t.dof=some (e.sc.map enP):=by
    have:=congrArg (·[c]?) hX
    simp only[L7,he]at this;exact QX.mp this
   have a1:atI X (c:Int)=some t:=bX ht1;obtain⟨b,ab,am,pa,sc⟩:=e;have hk:Ask ks sc b o:=hk;have hsl:∀ k,(cH ks i 0 (os.take c)).length+((e7 ks k ks).map fun m=>L2.T.t ([.s "piece",iN i,iN c] ++ [.s m])).length<=S4:=fun k=>by
    have:=hP.gk.wl (k:=k) (xs:=ks) fun _ h=>h
    have:=hP.gk.k2
    rw[j3];exact Tr (cJ (by omega))
   have non:o=none->∃(F:List L2.T)(o4' o5' o6':Sl),[.r (tPr ks fs),.r (iN i),.o (.l (cH ks i 0 (os.take c))),.o (.l X),.r (iN c),.r b,.o (.t [.s "piece",iN i,iN c])] = [.r (tPr ks fs),.r (iN i),.o (.l F),.o (.l X),o4',o5',o6']/\F=cH ks i 0 (os.take (c+1)):=fun e=>by
    subst e;exact⟨_,_,_,_,rfl,by rw[nx ho];exact(Td _).symm⟩
   refine⟨_,rfl,rfl,rfl,?_⟩;cases hk with
   | give=>exact⟨_,rfl,rfl,aB (fun z=>absurd z (by decide +kernel)) fun _=>⟨_,rfl,rfl,aB (fun z=>absurd z (by decide +kernel)) fun _=>⟨_,rfl,rfl,aB (fun z=>absurd z (by decide +kernel)) fun _=>non rfl⟩⟩⟩
   | @cW w c' b hw =>
    have n1:¬ decide ((L2.T.s w).v =(L2.T.s "make").v)=true:=by rcases hw with rfl|rfl <;> decide +kernel
    have n2:¬ decide ((L2.T.s w).v =(L2.T.s "name").v)=true:=by rcases hw with rfl|rfl <;> decide +kernel
    have n3:¬ decide ((L2.T.s w).v =(L2.T.s "case").v)=true:=by rcases hw with rfl|rfl <;> decide +kernel
    exact⟨_,rfl,rfl,aB (fun z=>absurd z n1) fun _=>⟨_,rfl,rfl,aB (fun z=>absurd z n2) fun _=>⟨_,rfl,rfl,aB (fun z=>absurd z n3) fun _=>non rfl⟩⟩⟩
   | call=>exact⟨_,rfl,rfl,aB (fun z=>absurd z (by decide +kernel)) fun _=>⟨_,rfl,rfl,aB (fun z=>absurd z (by decide +kernel)) fun _=>⟨_,rfl,rfl,aB (fun z=>absurd z (by decide +kernel)) fun _=>non rfl⟩⟩⟩
   | @make x m kd ns b hkd hm =>
    refine⟨_,rfl,rfl,aB (fun _=>?_) fun z=>absurd (by decide +kernel) z⟩
    refine⟨_,rfl,_,rfl,ks,kd,m,rfl,hP.gk,hkd,hm,ks,.t (fs.map tF),_,kd.1,rfl,hP.gk,rfl,(by show 3<=10;decide),hsl kd.1,?_⟩
    exact⟨_,_,_,_,rfl,by rw[nx ho];rfl⟩
   | @name x y k b hy' =>
    refine⟨_,rfl,rfl,aB (fun z=>absurd z (by decide +kernel)) fun _=>⟨_,rfl,rfl,aB (fun _=>?_) fun z=>absurd (by decide +kernel) z⟩⟩
    refine⟨t,a1,_,rfl,?_⟩;simp only[vG,ht2];refine⟨_,tO g.nd hy',ks,.t (fs.map tF),_,k,rfl,hP.gk,rfl,(by show 3<=10;decide),hsl k,?_⟩
    exact⟨_,_,_,_,rfl,by rw[nx ho];rfl⟩
   | @case x k arms hx' =>
    refine⟨_,rfl,rfl,aB (fun z=>absurd z (by decide +kernel)) fun _=>⟨_,rfl,rfl,aB (fun z=>absurd z (by decide +kernel)) fun _=>⟨_,rfl,rfl,aB (fun _=>?_) fun z=>absurd (by decide +kernel) z⟩⟩⟩
    refine⟨t,a1,_,rfl,?_⟩;simp only[vG,ht2];refine⟨_,tO g.nd hx',ks,.t (fs.map tF),_,k,rfl,hP.gk,rfl,(by show 3<=10;decide),hsl k,?_⟩
    exact⟨_,_,_,_,rfl,by rw[nx ho];rfl⟩
  ·rintro q ⟨F,o4,o5,o6,rfl,rfl⟩
   rw[bg,j3,<- hA.ln,Tb];exact hq
noncomputable def pF(ks:List Kd)(fam:List L2.T)(k:Str):List L2.T:=(e7 ks k ks).map fun m=>.t (fam ++ [.s m])
theorem iU(g:cF ks){fam:List L2.T}{k:Str}:(pF ks fam k).length<=36:=by
 unfold pF;rw[j3]
 have:=g.wl (k:=k) (xs:=ks) fun _ h=>h
 have:=g.k2
 omega
noncomputable def c6(ks:List Kd)(i:Nat):Nat->Sc->List L2.T
 | _,[]=>[]
 | k,p::r=>pF ks [.s "param",iN i,iN k] p.2++c6 ks i (k+1) r
theorem mQ{i:Nat}{p:Str×Str}:∀{k:Nat},c6 ks i k (sc ++ [p])=c6 ks i k sc++pF ks [.s "param",iN i,iN (k+sc.length)] p.2:=by
 induction sc with
 | nil=>intro k;show _ ++ [] = []++_;rw[Td];rfl
 | cons q r ih=>intro k;show _++c6 ks i (k+1) (r ++ [p]) =(_++_)++_;rw[ih,Tp,Te,show k+1+r.length=k+(r.length+1)by omega]
theorem e9(g:cF ks){i:Nat}:∀{k:Nat},(c6 ks i k sc).length<=36*sc.length:=by
 induction sc with
 | nil=>intro k;exact TX _
 | cons p r ih =>
  intro k;show(pF ks [.s "param",iN i,iN k] p.2++c6 ks i (k+1) r).length<=_;have h1:=iU g (fam:=[.s "param",iN i,iN k]) (k:=p.2);have h2:=ih (k:=k+1);rw[RM,Te];omega
noncomputable def wR(ks:List Kd)(i:Nat)(f:Fn)(os:List (Option Str)):List L2.T:=c6 ks i 0 f.1.2.1 ++ [.t [.s "first",iN i]]++pF ks [.s "result",iN i] f.1.2.2 ++ [.t [.s "last",iN i]]++cH ks i 0 os
noncomputable def cP(ks:List Kd):Nat->List (Fn×List (Option Str))->List L2.T
 | _,[]=>[]
 | i,x::r=>wR ks i x.1 x.2++cP ks (i+1) r
theorem nU{x:Fn×List (Option Str)}:∀{i:Nat},cP ks i (xs ++ [x])=cP ks i xs++wR ks (i+xs.length) x.1 x.2:=by
 induction xs with
 | nil=>intro i;show _ ++ [] = []++_;rw[Td];rfl
 | cons q r ih=>intro i;show _++cP ks (i+1) (r ++ [x]) =(_++_)++_;rw[ih,Tp,Te,show i+1+r.length=i+(r.length+1)by omega]
structure Unk(ks:List Kd)(fs:List Fn)(xs:List (Fn×List (Option Str))):Prop where
 fn:xs.map (·.1)=fs
 ok:∀ x∈xs,∃ L,Pre ks (fs.map (·.1)) 0 (rtN x.1) L/\L.length<=50000/\Gj ks L x.2
theorem Cq(g:cF ks){i:Nat}{f:Fn}(h4:f.1.2.1.length<=4)(ho:os.length<=50000):(wR ks i f os).length<=1800200:=by
 have h1:=e9 g (i:=i) (sc:=f.1.2.1) (k:=0);have h2:=iU g (fam:=[.s "result",iN i]) (k:=f.1.2.2);have h3:=jc g (i:=i) (os:=os) (n:=0);unfold wR;simp only[RM,TH];omega
theorem qZ(g:cF ks)(h:∀ x∈xs,x.1.1.2.1.length<=4/\x.2.length<=50000):∀{i:Nat},(cP ks i xs).length<=1800200*xs.length:=by
 induction xs with
 | nil=>intro i;exact TX _
 | cons x r ih =>
  intro i;show(wR ks i x.1 x.2++cP ks (i+1) r).length<=_;have h0:=h x SG;have h1:=Cq g (i:=i) h0.1 h0.2;have h2:=ih (fun y hy=>h y (SK _ hy)) (i:=i+1)
  rw[RM,Te];omega
def JS:PSp:=fun ts Q=>∃(ks:List Kd)(fs:List Fn)(xs:List (Fn×List (Option Str))),ts = [tPr ks fs]/\Prog ks fs/\Unk ks fs xs/\Q (.l (cP ks 0 xs))
theorem vS(T:Txt K mg a):a8 P w K mg base CX0 7 a.dy a.pL ["program"] (spQ K JS):=by
 have cu:=@iI P w K mg base a T;have mL:=@kS P w K mg base a T;refine T.fq.F.okQ cQ (fun ts Q h=>?_) (fun _ _ _ _ _ _ hr=>?_)
 ·obtain⟨ks,fs,xs,rfl,_⟩:=h;rfl
 ·have hu:=bG hr;refine⟨_,_,((ag (aC 1 cQ.nd (aG ai))
 (ag (bp (g:=(Tg.tp [2,3])) PassesOwn.never rfl (kH rfl T.bx (by kernel_rfl) (af (aq (qv 0) ah) az)) (c8 (a7 2 cQ.nd) (a7 3 cQ.nd))
 (ag (bp (g:=(Tg.tp [4,5])) PassesOwn.never rfl (kH rfl T.bx (by kernel_rfl) (af (aq (qv 3) ah) az)) (c8 (a7 4 cQ.nd) (a7 5 cQ.nd))
 (aj (bA (i:=1) (pv 1) (aP cu hr T.cv (af (qv 0) (af (QPF.w (av (ae aJ (ae (QPE.f (qv 2)) (ae (QPE.f (qv 4)) ai))))) (af (aq (qv 5) ah) az)))))))
 (ag (aY (i:=1) (pv 1) (av (ae aJ (ae (QPE.f (qv 2)) ai))))
 (ag (bA (i:=1) (pv 1) (aP cu hr T.cv (af (qv 0) (af (QPF.w (av (ae aJ (ae (QPE.f (qv 2)) ai)))) (af (aq (qv 3) ah) az)))))
 (ag (aY (i:=1) (pv 1) (av (ae aJ (ae (QPE.f (qv 2)) ai))))
 (aj (bA (i:=1) (pv 1) (aP mL hr T.gA (af (qv 0) (af (qv 2) az))))))))))
 (aj (eR (i:=1) (pv 1)))))),fun ts Q h=>?_⟩
  obtain⟨ks,fs,xs,rfl,hP,hU,hq⟩:=h;have l8:=hP.l8;have lx:xs.length=fs.length:=by rw[<- hU.fn,j3]
  have lim:∀ x∈xs,x.1.1.2.1.length<=4/\x.2.length<=50000:=fun x hx=>by
   obtain⟨L,_,h5,hA⟩:=hU.ok x hx
   have:x.1∈fs:=by rw[<- hU.fn];exact S5.mpr ⟨x,hx,rfl⟩
   exact⟨(hP.pk _ this).1,by rw[hA.ln];exact h5⟩
  refine⟨_,rfl,yf fun f hf=>(hP.sn f hf).1.im,fun c q=>∃(F:List L2.T)(o2 o3 o4 o5:Sl),q = [.r (tPr ks fs),.o (.l F),o2,o3,o4,o5]/\F=cP ks 0 (xs.take c),⟨_,_,_,_,_,rfl,rfl⟩,?_,?_⟩
  ·rintro c y q hy ⟨F,o2,o3,o4,o5,rfl,rfl⟩
   obtain⟨z,hz,rfl⟩:=cj hy;rw[L7]at hz;obtain⟨f,hf,rfl⟩:=QX.mp hz;have hcl:=(QH.mp hf).1;have hfm:=RB hf;obtain⟨p1,p2,p3,p4⟩:=hP.pk f hfm;have hxc:xs[c]? = some xs[c]:=Es (by omega)
   have ex:xs[c].1=f:=by
    have:=congrArg (·[c]?) hU.fn
    simp only[L7,hxc,hf]at this;exact Option.some.inj this
   obtain⟨L,hR,hL,hA⟩:=hU.ok xs[c] (US _);rw[ex]at hR;have hl0:=qZ hP.gk (xs:=xs.take c) (fun x hx=>lim x (Ud hx)) (i:=0)
   have hl1:(xs.take c).length<=7:=by rw[Ti];omega
   have hl2:(cP ks 0 (xs.take c)).length<=12601400:=by omega
   have hp:=e9 hP.gk (i:=c) (sc:=f.1.2.1) (k:=0);have hr':=iU hP.gk (fam:=[.s "result",iN c]) (k:=f.1.2.2);have hs':=jc hP.gk (i:=c) (os:=xs[c].2) (n:=0);have hal:=hA.ln;refine⟨_,rfl,_,rfl,aU fi _,fun j q=>∃(F:List L2.T)(o4 o5:Sl),q = [.r (tPr ks fs),.o (.l F),.r (iN c),.r (tF f),o4,o5]/\F=cP ks 0 (xs.take c)++c6 ks c 0 (f.1.2.1.take j),⟨_,_,_,rfl,(Td _).symm⟩,?_,?_⟩
   ·rintro j y q hy ⟨F,o4,o5,rfl,rfl⟩
    obtain⟨z,hz,rfl⟩:=cj hy;rw[L7]at hz;obtain⟨p,hp',rfl⟩:=QX.mp hz;have hjl:=(QH.mp hp').1;have h1:=e9 hP.gk (i:=c) (sc:=f.1.2.1.take j) (k:=0);have h2:=iU hP.gk (fam:=[.s "param",iN c,iN j]) (k:=p.2);rw[Ti]at h1;refine⟨_,rfl,rfl,rfl,_,rfl,ks,.t (fs.map tF),_,p.2,rfl,hP.gk,rfl,(by show 3<=10;decide),?_,?_⟩
    ·show(cP ks 0 (xs.take c)++c6 ks c 0 (f.1.2.1.take j)).length+(pF ks [.s "param",iN c,iN j] p.2).length<=S4;rw[RM];exact Tr (cJ (by omega))
    ·refine⟨_,_,_,rfl,?_⟩;rw[S8,hp'];show _++_=_++c6 ks c 0 (f.1.2.1.take j ++ [p]);rw[mQ,Ti,Uq (by omega),UA,Tp]
     rfl
   ·rintro q ⟨F,o4,o5,rfl,rfl⟩
    rw[bg,j3,Tb];refine⟨cJ (by rw[RM];omega),rfl,?_⟩
    refine⟨rfl,_,rfl,ks,.t (fs.map tF),_,f.1.2.2,rfl,hP.gk,rfl,(by show 2<=10;decide),?_,?_⟩
    ·show _+(pF ks [.s "result",iN c] f.1.2.2).length<=S4;simp only[RM,TH];exact Tr (cJ (by omega))
    ·refine⟨?_,rfl,?_⟩
     ·show(_++pF ks [.s "result",iN c] f.1.2.2).length<S4;simp only[RM,TH];exact cJ (by omega)
     ·refine⟨ks,fs,c,f,L,xs[c].2,rfl,hP,hf,hR,hL,hA,?_,?_⟩
      ·show(_++pF ks [.s "result",iN c] f.1.2.2++_).length+_<=S4;simp only[RM,TH];exact Tr (cJ (by omega))
      ·refine⟨_,_,_,_,_,rfl,?_⟩;rw[S8,hxc];show _=cP ks 0 (xs.take c ++ [xs[c]]);rw[nU,Ti,Uq (by omega),UA,ex]
       unfold wR;simp only[Tp];rfl
  ·rintro q ⟨F,o2,o3,o4,o5,rfl,rfl⟩
   rw[bg,j3,<- lx,Tb];exact hq
def lX:PSp:=fun ts Q=>∃(ks:List Kd)(k:Str),ts = [tKs ks,.s k]/\cF ks/\k∈ks.map (·.1)/\Q (.l ((e7 ks k ks).map .s))
theorem Ec(T:Txt K mg a)(eZ:a8 P w K mg base CX0 3 a.cU a.js ["_law_kinds_here","_law_kind"] (spQ K lX)):a8 P w K mg base CX0 95 a.jm a.Ab ["_law_program_here"] (spQ K JS):=by
 have uY:=@Eb P w K mg base a T 92;have Jz:=@Eg P w K mg base a T;have uZ:=@zH P w K mg base a T;refine T.u9.F.okQ bw (fun ts Q h=>?_) (fun _ _ _ _ _ _ hr=>?_)
 ·obtain⟨ks,fs,xs,rfl,_⟩:=h;rfl
 ·have hu:=bG hr;refine⟨_,_,((ag (aC 1 bw.nd (aG ai))
 (ag (bp (g:=(Tg.tp [2,3])) PassesOwn.never rfl (kH rfl T.bx (by kernel_rfl) (af (aq (qv 0) ah) az)) (c8 (a7 2 bw.nd) (a7 3 bw.nd))
 (ag (bp (g:=(Tg.tp [4,5])) PassesOwn.never rfl (kH rfl T.bx (by kernel_rfl) (af (aq (qv 3) ah) az)) (c8 (a7 4 bw.nd) (a7 5 bw.nd))
 (ag (aC 6 bw.nd (aP eZ hr T.gB (af (aq (qv 0) ah) (af (aq (qv 5) ah) az))))
 (aj (bA (i:=1) (pv 1) (bj rfl (dD (qv 6)) (N':=["_law_maker","_law_f","_law_k"]) (.own rfl (.got (i:=2) rfl rfl (.inl rfl) (.got (i:=4) rfl rfl (.inl rfl) .nil))) (bZ (g:=(Tg.nm 0)) (fun _ _ _ _ _=>⟨(cG 0),(av (ae aJ (ae (QPE.f (qv 1)) (ae (QPE.f (qv 2)) (ae (QPE.f (qv 0)) ai)))))⟩)))))))
 (ag (aY (i:=1) (pv 1) (av (ae aJ (ae (QPE.f (qv 2)) ai))))
 (ag (aC 6 bw.nd (aP eZ hr T.gB (af (aq (qv 0) ah) (af (aq (qv 3) ah) az))))
 (ag (bA (i:=1) (pv 1) (bj rfl (dD (qv 6)) (N':=["_law_maker","_law_f"]) (.own rfl (.got (i:=2) rfl rfl (.inl rfl) .nil)) (bZ (g:=(Tg.nm 0)) (fun _ _ _ _ _=>⟨(cG 0),(av (ae aJ (ae (QPE.f (qv 1)) (ae (QPE.f (qv 0)) ai))))⟩))))
 (ag (aY (i:=1) (pv 1) (av (ae aJ (ae (QPE.f (qv 2)) ai))))
 (aj (bp (g:=(Tg.nm 7)) PassesOwn.never rfl (zk (DA (j:=2) uY hr T.u7 (zi (aq (qv 3) ah) (zi (QPF.w (sO (aG ai))) (Hb (aG (ae bF ai)) az))))) (a7 7 bw.nd)
 (ag (lQ (g:=(Tg.tp [8,9])) (QPF.w (dO (aq (qv 7) (QPF.w (sN ah))) fv (fu ah))) (c8 (a7 8 bw.nd) (a7 9 bw.nd)))
 (ag (aC 6 bw.nd (aG ai))
 (ag (aX (bD hu (aq (qv 9) ah) (QPF.w aJ))
 (aj (aC 6 bw.nd (aP eZ hr T.gB (af (aq (qv 0) ah) (af (QPF.w (aP uZ hr T.va (af (aq (qv 0) ah) (af (aq (qv 9) ah) az)))) az)))))
 aD)
 (ag (aX (bE (lZ rfl) iw rfl (aq (qv 9) ah) (QPF.w (av (jg (by rfl)))))
 (ag (aC 10 bw.nd (QPE.f (aq (qv 9) (QPF.w (jT (aG (ae bF (ae bF ai))) (QPF.w (aN ju nA (by rfl) T.Al (by kernel_rfl) (af (QPF.w (lT (tG hu rfl) nC (bK _) (aq (qv 9) ah) (QPF.w aJ))) az))))))))
 (ag (aC 11 bw.nd (QPE.f (aq (QPF.w (bj rfl (dD (QPF.w (aP Jz hr T.AG (af (qv 0) (af (qv 2) (af (qv 7) az)))))) (N':=["_law_one","_law_x"]) (.own rfl (.got (i:=10) rfl rfl (.inl rfl) .nil)) (oC (g:=(Tg.nm 0)) (fun _ _ _ _ _=>⟨(cG 0),(bD hu (aq (qv 0) ah) (qv 1)),(QPE.f (aq (qv 0) ah))⟩)))) ah)))
 (aj (aC 6 bw.nd (aP eZ hr T.gB (af (aq (qv 0) ah) (af (qv 11) az)))))))
 aD)
 (aj (bA (i:=1) (pv 1) (bj rfl (dD (qv 6)) (N':=["_law_maker","_law_f","_law_n"]) (.own rfl (.got (i:=2) rfl rfl (.inl rfl) (.got (i:=8) rfl rfl (.inl rfl) .nil))) (bZ (g:=(Tg.nm 0)) (fun _ _ _ _ _=>⟨(cG 0),(av (ae aJ (ae (QPE.f (qv 1)) (ae (QPE.f (qv 2)) (ae (QPE.f (qv 0)) ai)))))⟩)))))))))))))))))
 (aj (eR (i:=1) (pv 1)))))),fun ts Q h=>?_⟩
  obtain⟨ks,fs,xs,rfl,hP,hU,hq⟩:=h;have l8:=hP.l8;have lx:xs.length=fs.length:=by rw[<- hU.fn,j3]
  have lim:∀ x∈xs,x.1.1.2.1.length<=4/\x.2.length<=50000:=fun x hx=>by
   obtain⟨L,_,h5,hA⟩:=hU.ok x hx
   have:x.1∈fs:=by rw[<- hU.fn];exact S5.mpr ⟨x,hx,rfl⟩
   exact⟨(hP.pk _ this).1,by rw[hA.ln];exact h5⟩
  have wl:∀ k,(e7 ks k ks).length<=36:=fun k=>by
   have:=hP.gk.wl (k:=k) (xs:=ks) fun _ h=>h
   have:=hP.gk.k2
   omega
  refine⟨_,rfl,yf fun f hf=>(hP.sn f hf).1.im,fun c q=>∃(F:List L2.T)(o2 o3 o4 o5 o6 o7 o8 o9 o10 o11:Sl),q = [.r (tPr ks fs),.o (.l F),o2,o3,o4,o5,o6,o7,o8,o9,o10,o11]/\F=cP ks 0 (xs.take c),⟨_,_,_,_,_,_,_,_,_,_,_,rfl,rfl⟩,?_,?_⟩
  ·rintro c y q hy ⟨F,o2,o3,o4,o5,o6,o7,o8,o9,o10,o11,rfl,rfl⟩
   obtain⟨z,hz,rfl⟩:=cj hy;rw[L7]at hz;obtain⟨f,hf,rfl⟩:=QX.mp hz;have hcl:=(QH.mp hf).1;have hfm:=RB hf;obtain⟨p1,p2,p3,p4⟩:=hP.pk f hfm;have hxc:xs[c]? = some xs[c]:=Es (by omega)
   have ex:xs[c].1=f:=by
    have:=congrArg (·[c]?) hU.fn
    simp only[L7,hxc,hf]at this;exact Option.some.inj this
   obtain⟨L,hR,hL,hA⟩:=hU.ok xs[c] (US _);rw[ex]at hR;have hl0:=qZ hP.gk (xs:=xs.take c) (fun x hx=>lim x (Ud hx)) (i:=0)
   have hl1:(xs.take c).length<=7:=by rw[Ti];omega
   have hl2:(cP ks 0 (xs.take c)).length<=12601400:=by omega
   have hp:=e9 hP.gk (i:=c) (sc:=f.1.2.1) (k:=0);have hr':=iU hP.gk (fam:=[.s "result",iN c]) (k:=f.1.2.2);have hal:=hA.ln;have hPL:cf ks (fs.map (·.1)) 0 [rtN f] L:=by have:=cf.cons hR (.nil);rwa [Td]at this
   have G:=E1 hP hfm hPL;have hS:=(hP.sn f hfm).1;refine⟨_,rfl,_,rfl,aU fi _,fun j q=>∃(F:List L2.T)(o4 o5 o6 o7 o8 o9 o10 o11:Sl),q = [.r (tPr ks fs),.o (.l F),.r (iN c),.r (tF f),o4,o5,o6,o7,o8,o9,o10,o11]/\F=cP ks 0 (xs.take c)++c6 ks c 0 (f.1.2.1.take j),⟨_,_,_,_,_,_,_,_,_,rfl,(Td _).symm⟩,?_,?_⟩
   ·rintro j y q hy ⟨F,o4,o5,o6,o7,o8,o9,o10,o11,rfl,rfl⟩
    obtain⟨z,hz,rfl⟩:=cj hy;rw[L7]at hz;obtain⟨p,hp',rfl⟩:=QX.mp hz;have hjl:=(QH.mp hp').1;have h1:=e9 hP.gk (i:=c) (sc:=f.1.2.1.take j) (k:=0);rw[Ti]at h1;have h2:=wl p.2;refine⟨_,rfl,_,rfl,_,rfl,ks,p.2,rfl,hP.gk,p2 p (RB hp'),?_⟩;refine⟨ay (by rw[j3];omega),fun i ys=>ys =((e7 ks p.2 ks).take i).map fun m=>.t [.s "param",iN c,iN j,.s m],rfl,?_,?_⟩
    ·rintro i y ys hy rfl
     rw[L7]at hy;obtain⟨m,hm,rfl⟩:=QX.mp hy;refine⟨_,rfl,rfl,rfl,rfl,?_⟩;rw[S8,hm,S9];rfl
    ·rintro ys rfl
     rw[j3,Tb];refine⟨?_,?_⟩
     ·rw[RM,j3];exact Tr (cJ (by omega))
     ·refine⟨_,_,_,_,_,_,_,_,_,rfl,?_⟩;rw[S8,hp'];show _++_=_++c6 ks c 0 (f.1.2.1.take j ++ [p]);rw[mQ,Ti,Uq (by omega),UA,Tp]
      rfl
   ·rintro q ⟨F,o4,o5,o6,o7,o8,o9,o10,o11,rfl,rfl⟩
    rw[bg,j3,Tb];have h2:=wl f.1.2.2;refine⟨cJ (by rw[RM];omega),rfl,?_⟩
    refine⟨_,rfl,_,rfl,ks,f.1.2.2,rfl,hP.gk,p4,?_⟩;refine⟨ay (by rw[j3];omega),fun i ys=>ys =((e7 ks f.1.2.2 ks).take i).map fun m=>.t [.s "result",iN c,.s m],rfl,?_,?_⟩
    ·rintro i y ys hy rfl
     rw[L7]at hy;obtain⟨m,hm,rfl⟩:=QX.mp hy;refine⟨_,rfl,rfl,rfl,?_⟩;rw[S8,hm,S9];rfl
    ·rintro ys rfl
     rw[j3,Tb];refine⟨?_,?_⟩
     ·simp only[RM,TH,j3];exact Tr (cJ (by omega))
     ·refine⟨?_,rfl,?_⟩
      ·simp only[RM,TH,j3];exact cJ (by omega)
      ·refine⟨_,rfl,hS.im,rfl,rfl,rfl,_,rfl,fun p=>⟨ks,fs.map (·.1),0,rtN f,L,p,rfl,⟨hR,by omega,hP.dp f hfm,by show 0+92<=92;decide,rfl,rfl⟩,?_⟩⟩
       have nx:∀{n:Nat}{o:Option Str},xs[c].2[n]? = some o->cH ks c 0 (xs[c].2.take (n+1))=cH ks c 0 (xs[c].2.take n)++wQ ks c n o:=fun{n o} h=>by
        have hn:=(QH.mp h).1;rw[S8,h];show cH ks c 0 (xs[c].2.take n ++ [o])=_;rw[nT,Ti,Uq (by omega),UA]
       generalize hB:cP ks 0 (xs.take c)++c6 ks c 0 f.1.2.1 ++ [L2.T.t [.s "first",iN c]]++(e7 ks f.1.2.2 ks).map (fun m=>L2.T.t [.s "result",iN c,.s m]) ++ [L2.T.t [.s "last",iN c]]=B
       have hBl:B.length<=12601600:=by
        rw[<- hB];simp only[RM,TH,j3];omega
       refine⟨fun n q=>∃(F:List L2.T)(o4 o5 o6 o7 o8 o9 o10 o11:Sl),q = [.r (tPr ks fs),.o (.l F),.r (iN c),.r (tF f),o4,o5,o6,o7,o8,o9,o10,o11]/\F=B++cH ks c 0 (xs[c].2.take n),⟨_,_,_,_,_,_,_,_,_,rfl,(Td _).symm⟩,?_,?_⟩
       ·rintro c' y q hy ⟨F,o4,o5,o6,o7,o8,o9,o10,o11,rfl,rfl⟩
        rw[Hs,UA]at hy;obtain⟨e,he,rfl⟩:=QX.mp hy;have SW:=(QH.mp he).1;have ho:xs[c].2[c']? = some xs[c].2[c']:=Es (by omega)
        obtain⟨o,ho,hk⟩:∃ o,xs[c].2[c']? = some o/\Ask ks e.sc e.b o:=⟨_,ho,hA.ok c' e _ he ho⟩
        have g:=G e (RB he);have hsl:=g.lim;have hbi:=hPL.ims e (RB he);have hFl:(B++cH ks c 0 (xs[c].2.take c')).length<=14401700:=by
         have:=jc hP.gk (i:=c) (os:=xs[c].2.take c') (n:=0)
         rw[Ti]at this;rw[RM];omega
        have hpi:L2.T.ims (e.pa.map tS)=true:=gR fun t ht=>by
         obtain⟨s,hs,rfl⟩:=S5.mp ht;show(true&&(s.2.1.im&&(true&&true)))=true;rw[g.pi s hs];rfl
        have i3:L2.T.ims [iN c',e.b,.n]=true:=by show(true&&(e.b.im&&(true&&true)))=true;rw[hbi];rfl
        have i2:(L2.T.t [iN c',e.b]).im=true:=by show(true&&(e.b.im&&true))=true;rw[hbi];rfl
        obtain⟨b,ab,am,pa,sc⟩:=e;refine⟨_,rfl,_,FQ _ _,i3,i2,_,rfl,?_⟩;have hk:Ask ks sc b o:=hk;cases hk with
        | give =>
         refine⟨_,rfl,rfl,aB (fun z=>absurd z (by decide +kernel)) fun _=>⟨_,rfl,rfl,aB (fun z=>absurd z (by decide +kernel)) fun _=>?_⟩⟩
         refine⟨ay (by decide),fun i ys=>ys = [],rfl,fun i y ys hy _=>?_,?_⟩
         ·simp at hy
         ·rintro ys rfl
          refine⟨?_,?_⟩
          ·rw[Ur];exact Tr (cJ (by omega))
          ·exact⟨_,_,_,_,_,_,_,_,_,rfl,by rw[nx ho,<- Tp];rfl⟩
        | @cW w k' b hw =>
         have n1:¬ decide ((L2.T.s w).v =(L2.T.s "make").v)=true:=by rcases hw with rfl|rfl <;> decide +kernel
         have n2:¬ inT (L2.T.s w) [.s "name",.s "case"]=true:=by rcases hw with rfl|rfl <;> decide +kernel
         refine⟨_,rfl,rfl,aB (fun z=>absurd z n1) fun _=>⟨_,rfl,rfl,aB (fun z=>absurd z n2) fun _=>?_⟩⟩
         refine⟨ay (by decide),fun i ys=>ys = [],rfl,fun i y ys hy _=>?_,?_⟩
         ·simp at hy
         ·rintro ys rfl
          refine⟨?_,?_⟩
          ·rw[Ur];exact Tr (cJ (by omega))
          ·exact⟨_,_,_,_,_,_,_,_,_,rfl,by rw[nx ho,<- Tp];rfl⟩
        | call =>
         refine⟨_,rfl,rfl,aB (fun z=>absurd z (by decide +kernel)) fun _=>⟨_,rfl,rfl,aB (fun z=>absurd z (by decide +kernel)) fun _=>?_⟩⟩
         refine⟨ay (by decide),fun i ys=>ys = [],rfl,fun i y ys hy _=>?_,?_⟩
         ·simp at hy
         ·rintro ys rfl
          refine⟨?_,?_⟩
          ·rw[Ur];exact Tr (cJ (by omega))
          ·exact⟨_,_,_,_,_,_,_,_,_,rfl,by rw[nx ho,<- Tp];rfl⟩
        | @make x m kd ns b hkd hm =>
         have wl':=wl kd.1;refine⟨_,rfl,rfl,aB (fun _=>?_) fun z=>absurd (by decide +kernel) z⟩
         refine⟨_,rfl,_,rfl,_,rfl,ks,kd,m,rfl,hP.gk,hkd,hm,ks,kd.1,rfl,hP.gk,S5.mpr ⟨kd,hkd,rfl⟩,?_⟩;refine⟨_,rfl,rfl,aB (fun z=>absurd z (by decide +kernel)) fun _=>?_⟩
         refine⟨ay (by rw[j3];omega),fun i ys=>ys =((e7 ks kd.1 ks).take i).map fun m=>.t [.s "piece",iN c,iN c',.s m],rfl,?_,?_⟩
         ·rintro i y ys hy rfl
          rw[L7]at hy;obtain⟨m,hm,rfl⟩:=QX.mp hy;refine⟨_,rfl,rfl,rfl,rfl,?_⟩;rw[S8,hm,S9];rfl
         ·rintro ys rfl
          rw[j3,Tb];refine⟨?_,?_⟩
          ·rw[j3];exact Tr (cJ (by omega))
          ·exact⟨_,_,_,_,_,_,_,_,_,rfl,by rw[nx ho,<- Tp];rfl⟩
        | @name x y k b hy' =>
         have wl':=wl k;have hat:atI [L2.T.i 1,.i 2] (if decide ((L2.T.s "name").v =(L2.T.s "name").v)=true then 1 else 0)=some (.i 2):=by rw[if_pos (by decide +kernel)];rfl
         refine⟨_,rfl,rfl,aB (fun z=>absurd z (by decide +kernel)) fun _=>⟨_,rfl,rfl,aB (fun _=>?_) fun z=>absurd (by decide +kernel) z⟩⟩
         refine⟨_,rfl,rfl,_,hat,_,rfl,rfl,ks,fs,c,f,c',⟨_,ab,am,pa,sc⟩,rfl,hP,hf,g,hpi,fun us u1 u2=>?_⟩
         have u1:us.map (fun t=>(t.1,t.2.1))=sc:=u1
         have hus:us.length=sc.length:=by rw[<- u1,j3]
         have RQ:sc.length<=372:=hsl;refine⟨cx (by rw[j3];omega),fun i ys=>ys =((us.take i).filter fun t=>decide (t.1=y)).map (fun t=>L2.T.s t.2.1),rfl,?_,?_⟩
         ·rintro i z ys hz rfl
          rw[L7]at hz;obtain⟨t,ht,rfl⟩:=QX.mp hz;refine⟨_,rfl,_,rfl,rfl,aB (fun g=>?_) fun g=>?_⟩
          ·refine⟨_,rfl,rfl,?_⟩;have g:t.1=y:=V.str.inj (of_decide_eq_true g);rw[S8,ht,Uj,S9];simp[g]
          ·have g:¬ t.1=y:=fun z=>g (decide_eq_true (congrArg V.str z))
           show _=_;rw[S8,ht,Uj,S9];simp[g]
         ·rintro ys rfl
          rw[j3,Tb];obtain⟨r,er⟩:=pick g.nd u1 hy';rw[er];refine⟨_,bX (j:=0) (v:=.s k) rfl,rfl,_,rfl,ks,k,rfl,hP.gk,g.sk _ hy',?_⟩;refine⟨ay (by rw[j3];omega),fun i ys=>ys =((e7 ks k ks).take i).map fun m=>.t [.s "piece",iN c,iN c',.s m],rfl,?_,?_⟩
          ·rintro i y ys hy rfl
           rw[L7]at hy;obtain⟨m,hm,rfl⟩:=QX.mp hy;refine⟨_,rfl,rfl,rfl,rfl,?_⟩;rw[S8,hm,S9];rfl
          ·rintro ys rfl
           rw[j3,Tb];refine⟨?_,?_⟩
           ·rw[j3];exact Tr (cJ (by omega))
           ·exact⟨_,_,_,_,_,_,_,_,_,rfl,by rw[nx ho,<- Tp];rfl⟩
        | @case x k arms hy' =>
         have wl':=wl k;have hat:atI [L2.T.i 1,.i 2] (if decide ((L2.T.s "case").v =(L2.T.s "name").v)=true then 1 else 0)=some (.i 1):=by rw[if_neg (by decide +kernel)];rfl
         refine⟨_,rfl,rfl,aB (fun z=>absurd z (by decide +kernel)) fun _=>⟨_,rfl,rfl,aB (fun _=>?_) fun z=>absurd (by decide +kernel) z⟩⟩
         refine⟨_,rfl,rfl,_,hat,_,rfl,rfl,ks,fs,c,f,c',⟨_,ab,am,pa,sc⟩,rfl,hP,hf,g,hpi,fun us u1 u2=>?_⟩
         have u1:us.map (fun t=>(t.1,t.2.1))=sc:=u1
         have hus:us.length=sc.length:=by rw[<- u1,j3]
         have RQ:sc.length<=372:=hsl;refine⟨cx (by rw[j3];omega),fun i ys=>ys =((us.take i).filter fun t=>decide (t.1=x)).map (fun t=>L2.T.s t.2.1),rfl,?_,?_⟩
         ·rintro i z ys hz rfl
          rw[L7]at hz;obtain⟨t,ht,rfl⟩:=QX.mp hz;refine⟨_,rfl,_,rfl,rfl,aB (fun g=>?_) fun g=>?_⟩
          ·refine⟨_,rfl,rfl,?_⟩;have g:t.1=x:=V.str.inj (of_decide_eq_true g);rw[S8,ht,Uj,S9];simp[g]
          ·have g:¬ t.1=x:=fun z=>g (decide_eq_true (congrArg V.str z))
           show _=_;rw[S8,ht,Uj,S9];simp[g]
         ·rintro ys rfl
          rw[j3,Tb];obtain⟨r,er⟩:=pick g.nd u1 hy';rw[er];refine⟨_,bX (j:=0) (v:=.s k) rfl,rfl,_,rfl,ks,k,rfl,hP.gk,g.sk _ hy',?_⟩;refine⟨ay (by rw[j3];omega),fun i ys=>ys =((e7 ks k ks).take i).map fun m=>.t [.s "piece",iN c,iN c',.s m],rfl,?_,?_⟩
          ·rintro i y ys hy rfl
           rw[L7]at hy;obtain⟨m,hm,rfl⟩:=QX.mp hy;refine⟨_,rfl,rfl,rfl,rfl,?_⟩;rw[S8,hm,S9];rfl
          ·rintro ys rfl
           rw[j3,Tb];refine⟨?_,?_⟩
           ·rw[j3];exact Tr (cJ (by omega))
           ·exact⟨_,_,_,_,_,_,_,_,_,rfl,by rw[nx ho,<- Tp];rfl⟩
       ·rintro q ⟨F,o4,o5,o6,o7,o8,o9,o10,o11,rfl,rfl⟩
        rw[oE,<- hal,Tb];refine⟨_,_,_,_,_,_,_,_,_,_,_,rfl,?_⟩;rw[<- hB,S8,hxc];show _=cP ks 0 (xs.take c ++ [xs[c]]);rw[nU,Ti,Uq (by omega),UA,ex]
        unfold wR;simp only[Tp];rfl
  ·rintro q ⟨F,o2,o3,o4,o5,o6,o7,o8,o9,o10,o11,rfl,rfl⟩
   rw[bg,j3,<- lx,Tb];exact hq
def Flt(x:L2.T):Prop:=∃ ps:List L2.T,x = .t ps/\ps.length<=10/\∀ p∈ps,(∃ s,p = .s s)\/∃ i,p = .i i
def Rv:PSp:=fun ts Q=>∃ X:List L2.T,ts = [.l X]/\L2.T.ims X=true/\(∀ x∈X,Flt x)/\Q (.b true)
theorem wb:∀ n:Nat,inT (.b true) (TJ n (L2.T.b false))=false
 | 0=>rfl
 | n+1=>by
  have h:=wb n;unfold inT at h ⊢;rw[Vl,UR,h];rfl
theorem rJ:∀ n:Nat,fls (TJ n (L2.T.b false))=true
 | 0=>rfl
 | n+1=>by
  have h:=rJ n;unfold fls at h ⊢;rw[Vl,VC,h];rfl
theorem oM(T:Txt K mg a):a8 P w K mg base CX0 1 a.cn a.jF ["_law_found"] (spQ K Rv):=by
 refine T.jK.F.okQ iA (fun ts Q h=>?_) (fun _ _ _ _ _ _ hr=>?_)
 ·obtain⟨X,rfl,_⟩:=h;rfl
 ·have hu:=bG hr;refine⟨_,_,((ag (bp (g:=(Tg.nm 1)) PassesOwn.never rfl (Dv (i:=0) (pv 0)) (a7 1 iA.nd)
 (aj (aX (QPW.pt (zg (Dp (kF (QPF.w (fc (mF rfl) so (by rfl) T.gU (by kernel_rfl) (af (qv 1) (af (QPF.w (Dx (n:="tuple") rfl T.di (by kernel_rfl))) az)))))) (xr (bE (lZ rfl) iw rfl (QPF.w rl) (QPF.w (bj rfl (fJ (qv 1)) (N':=["_law_part"]) (.own rfl .nil) (bZ (g:=(Tg.nm 0)) (fun _ _ _ _ _=>⟨(cG 0),(fc (mF rfl) so (by rfl) T.gU (by kernel_rfl) (af (qv 0) (af (QPF.w (Dx (n:="bool") rfl T.Mt (by kernel_rfl))) az)))⟩))))))))
 (aj (aI rl))
 aD)))
 (aj (aI (fc (mF rfl) so (by rfl) T.gU (by kernel_rfl) (af (qv 0) (af (QPF.w (Dx (n:="list") rfl T.pY (by kernel_rfl))) az))))))),fun ts Q h=>?_⟩
  obtain⟨X,rfl,hi,hX,hq⟩:=h;refine⟨fun c q=>∃ o1,q = [.r (.l X),o1],⟨_,rfl⟩,?_,?_⟩
  ·rintro c y q hy ⟨o1,rfl⟩
   obtain⟨ps,rfl,hl,hp⟩:=hX y (RB hy);refine⟨_,rfl,by decide,aB (fun z=>absurd z (by decide)) fun _=>?_⟩
   refine⟨ay (by omega),fun i ys=>ys=TJ i (.b false),rfl,?_,?_⟩
   ·rintro i y ys hy rfl
    refine⟨_,rfl,?_⟩;rcases hp y (RB hy)with⟨s,rfl⟩ |⟨n,rfl⟩
    ·refine⟨by decide,?_⟩
     rw[VU];rfl
    ·refine⟨by decide,?_⟩
     rw[VU];rfl
   ·rintro ys rfl
    refine⟨by rw[rJ];rfl,aB (fun z=>?_) fun _=>⟨_,rfl⟩⟩
    have z:inT (.b true) (TJ ps.length (L2.T.b false))=true:=z;rw[wb]at z;cases z
  ·rintro q ⟨o1,rfl⟩
   exact⟨by decide,hq⟩
structure NW(ks:List Kd)(k:Str)(near:List Str)(at':Nat)(done:List Str):Prop where
 ki:k∈near
 nd:near.Nodup
 re:∀ r∈near,Reach ks k r
 kn:∀ r∈near,r∈ks.map (·.1)
 cl:∀(i:Nat)(r:Str),i<at'->near[i]? = some r->∀ f∈pC ks r,f∈near
 dn:∀ f∈done,f∈near
theorem Et{ys:List Str}:∀{xs:List Str},xs.Nodup ->(∀ x∈xs,x∈ys)->xs.length<=ys.length:=by
 induction ys with
 | nil =>
  intro xs _ h;cases xs with
  | nil=>exact S3 _
  | cons x r=>exact absurd (h x SG) (fun z=>nomatch z)
 | cons y r ih =>
  intro xs hn h;have h1:(xs.erase y).length<=r.length:=ih (hn.erase y) fun x hx=>by
   have hm:=(List.Nodup.mem_erase_iff hn).mp hx;rcases S1.mp (h x hm.2)with z|z
   ·exact absurd z hm.1
   ·exact z
  have h2:=List.length_erase (a:=y) (l:=xs);rw[Te]
  split at h2 <;> omega
theorem NW.len{k:Str}{near:List Str}(h:NW ks k near n done)(g:cF ks):near.length<=6:=by
 have:=Et h.nd h.kn
 rw[j3]at this
 have:=g.k2
 omega
theorem NW.start{k:Str}(hk:k∈ks.map (·.1)):NW ks k [k] 0 []:=⟨qr.mpr rfl,by simp,fun r h=>by rw[qr.mp h];exact .here,fun r h=>by rw[qr.mp h];exact hk,fun i r h=>absurd h (Nat.not_lt_zero _),fun _ h=>nomatch h⟩
theorem NW.add{k here:Str}{near ys:List Str}{m:Mk1}(h:NW ks k near n done)(g:cF ks)(hh:near[n]? = some here)(hm:m∈ft ks here)(y1:ys.Nodup)(y2:∀ f,f∈ys ↔ f∈m.2):NW ks k (near++ys.filter fun f=>decide (f ∉ near)) n (done++m.2):=by
 have hhm:=RB hh;have hhk:=h.kn here hhm;obtain⟨kd,hkd,rfl⟩:=S5.mp hhk;rw[kW g.nd hkd]at hm;have nf:∀ f,f∈ys.filter (fun f=>decide (f ∉ near)) ↔ f∈m.2/\f ∉ near:=fun f=>by
  rw[U3,y2,decide_eq_true_iff]
 refine⟨Tj _ h.ki,?_,fun r hr=>?_,fun r hr=>?_,fun i r hi hr f hf=>?_,fun f hf=>?_⟩
 ·refine T1.mpr ⟨h.nd,y1.filter _,fun x hx y hy e=>?_⟩
  subst e;exact((nf x).mp hy).2 hx
 ·rcases SY.mp hr with z|z
  ·exact h.re r z
  ·refine .step (h.re _ hhm) ?_;unfold pC;rw[kW g.nd hkd];exact U0.mpr ⟨m,hm,((nf r).mp z).1⟩
 ·rcases SY.mp hr with z|z
  ·exact h.kn r z
  ·exact(g.fl kd hkd m hm).2 r ((nf r).mp z).1
 ·have hnl:i<near.length:=by
   have:=(QH.mp hh).1
   omega
  rw[TC hnl]at hr;exact Tj _ (h.cl i r hi hr f hf)
 ·rcases SY.mp hf with z|z
  ·exact Tj _ (h.dn f z)
  ·by_cases e:f∈near
   ·exact Tj _ e
   ·exact Tc _ ((nf f).mpr ⟨z,e⟩)
theorem NW.next{k here:Str}{near:List Str}(h:NW ks k near n done)(hh:near[n]? = some here)(hd:done=pC ks here):NW ks k near (n+1) []:=by
 refine⟨h.ki,h.nd,h.re,h.kn,fun i r hi hr f hf=>?_,fun _ h=>nomatch h⟩
 by_cases e:i=n
 ·subst e;rw[hh]at hr;cases hr;subst hd;exact h.dn f hf
 ·exact h.cl i r (by omega) hr f hf
theorem NW.all{k:Str}{near:List Str}(h:NW ks k near n [])(hn:near.length<=n)(s:Str):s∈near ↔ Reach ks k s:=by
 refine⟨h.re s,fun r=>?_⟩
 induction r with
 | here=>exact h.ki
 | step _ hf ih =>
  obtain⟨i,hi,e⟩:=Tz ih;exact h.cl i _ (by omega) (by rw[Es hi,e]) _ hf
theorem xP(T:Txt K mg a)(SS:uU K):a8 P w K mg base CX0 3 a.cU a.js ["_law_kinds_here","_law_kind"] (spQ K lX):=by
 refine T.gB.F.okQ bY (fun ts Q h=>?_) (fun _ _ _ _ _ _ hr=>?_)
 ·obtain⟨ks,k,rfl,_⟩:=h;rfl
 ·have hu:=bG hr;refine⟨_,_,((ag (aC 2 bY.nd (aG (ae (QPE.f (qv 1)) ai)))
 (ag (aC 3 bY.nd bF)
 (ag (ox PassesOwn.never (zh (qv 3) (QPF.w (b8 T.cX (af (qv 2) az))))
 (ag (bp (g:=(Tg.tp [4,5])) PassesOwn.never rfl (gH (QPE.f (dE (QPF.w (aN (bW rfl) cA (by rfl) T.gW (by kernel_rfl) (af (qv 0) az))) (aq (qv 2) (qv 3))))) (c8 (a7 4 bY.nd) (a7 5 bY.nd))
 (aj (aC 2 bY.nd (bq (qv 2) (QPF.w (bj rfl (dD (QPF.w (xu SS T.FP T.Pw (qv 5)))) (N':=["_law_field","_law_near"]) (.own rfl (.got (i:=2) rfl rfl (.inl rfl) .nil)) (oC (g:=(Tg.nm 0)) (fun _ _ _ _ _=>⟨(cG 0),(bE (rC rfl) iw rfl (qv 0) (qv 1)),(QPE.f (qv 0))⟩))))))))
 (aj (aC 3 bY.nd (bq (qv 3) ah)))))
 (ag (aC 6 bY.nd (aG ai))
 (ag (bp (g:=(Tg.tp [7,8])) PassesOwn.never rfl (gH (QPE.f (qv 0))) (c8 (a7 7 bY.nd) (a7 8 bY.nd))
 (aj (aX (bE (lZ rfl) iw rfl (qv 7) (qv 2))
 (aj (bA (i:=6) (pv 6) (bj rfl (fJ (qv 8)) (N':=["_law_maker","_law_fields"]) (.own rfl (.own rfl .nil)) (bZ (g:=(Tg.tp [0,1])) (fun _ _ _ _ _=>⟨(c8 (cG 0) (cG 1)),(QPE.f (qv 0))⟩)))))
 aD)))
 (aj (eR (i:=6) (pv 6))))))))),fun ts Q h=>?_⟩
  obtain⟨ks,k,rfl,gk,hk,hq⟩:=h;refine⟨rfl,fun c q=>∃(near:List Str)(n:Nat)(N:List L2.T)(o4 o5:Sl),q = [.r (tKs ks),.r (.s k),.o (.l N),.o (iN n),o4,o5,.no,.no,.no]/\N=near.map .s/\NW ks k near n []/\n<=near.length/\c=7 - n,⟨_,[k],0,_,_,_,rfl,rfl,.start hk,by simp,rfl⟩,?_⟩
  rintro c q ⟨near,n,N,o4,o5,rfl,rfl,W,hn,rfl⟩
  have l6:=W.len gk;refine aB (fun g=>?_) (fun g=>?_)
  ·have g:(n:Int)<((near.map L2.T.s).length:Int):=of_decide_eq_true g;rw[j3]at g;have hnl:n<near.length:=by omega
   have hh:near[n]? = some near[n]:=Es hnl
   generalize near[n]=here at hh
   have hhk:=W.kn here (RB hh);refine⟨fun q'=>∃(near:List Str)(N:List L2.T)(o4 o5:Sl),q' = [.r (tKs ks),.r (.s k),.o (.l N),.o (iN (n+1)),o4,o5,.no,.no,.no]/\N=near.map .s/\NW ks k near (n+1) []/\n+1<=near.length,?_,?_⟩
   ·rintro q' ⟨near,N,o4,o5,rfl,rfl,W',hn'⟩
    have:=W'.len gk
    exact⟨7 - (n+1),by omega,near,n+1,_,_,_,rfl,rfl,W',hn',rfl⟩
   ·refine⟨aU pq _,_,iH ks,L2.T.s here,(bX (v:=L2.T.s here) (by rw[L7,hh];rfl)),_,ji gk.nd hhk,mj _,?_⟩
    refine⟨fun i q=>∃(near:List Str)(N:List L2.T)(o4 o5:Sl),q = [.r (tKs ks),.r (.s k),.o (.l N),.o (iN n),o4,o5,.no,.no,.no]/\N=near.map .s/\NW ks k near n (((ft ks here).take i).flatMap (·.2))/\near[n]? = some here,⟨near,_,_,_,rfl,rfl,W,hh⟩,?_,?_⟩
    ·rintro i y q hy ⟨near,N,o4,o5,rfl,rfl,W,hh⟩
     rw[L7]at hy;obtain⟨m,hm,rfl⟩:=QX.mp hy;have l6:=W.len gk;have m4:m.2.length<=4:=by
      obtain⟨kd,hkd,rfl⟩:=S5.mp (W.kn here (RB hh));rw[kW gk.nd hkd]at hm;exact(gk.fl kd hkd m (RB hm)).1
     refine⟨_,rfl,m.2,rfl,by omega,fun ys y1 y2=>?_⟩
     have ly:ys.length<=4:=Tn (Et y1 fun y hy=>(y2 y).mp hy) m4
     refine⟨ay (by rw[j3];omega),fun j zs=>zs =((ys.take j).filter fun f=>decide (f ∉ near)).map .s,rfl,?_,?_⟩
     ·rintro j z zs hz rfl
      rw[L7]at hz;obtain⟨f,hf,rfl⟩:=QX.mp hz;refine⟨_,rfl,by rw[gq];rfl,?_⟩
      have hi:inT (.s f) (near.map L2.T.s)=decide (f∈near):=by rw[de,UK,nL,decide_eq_true_iff]
      refine aB (fun g=>?_) (fun g=>?_)
      ·have g:(!inT (.s f) (near.map L2.T.s))=true:=g;rw[hi]at g;have g:f ∉ near:=by simpa using g
       refine⟨rfl,?_⟩;rw[S8,hf,Uj,S9];simp[g]
      ·have g:¬(!inT (.s f) (near.map L2.T.s))=true:=g;rw[hi]at g;have g:f∈near:=by simpa using g
       show _=_;rw[S8,hf,Uj,S9];simp[g]
     ·rintro zs rfl
      rw[j3,Tb];have lf:(ys.filter fun f=>decide (f ∉ near)).length<=4:=Tn (VN _ _) ly
      refine⟨Tr (ay (by rw[j3,j3];omega)),aL _,aL _,?_⟩
      refine⟨near++ys.filter (fun f=>decide (f ∉ near)),_,_,_,rfl,by rw[S9],?_,?_⟩
      ·rw[<- jd (f:=fun m:Mk1=>m.2) hm]
       exact W.add gk hh (RB hm) y1 y2
      ·rw[TC (QH.mp hh).1];exact hh
    ·rintro q ⟨near,N,o4,o5,rfl,rfl,W,hh⟩
     rw[j3,Tb]at W;have hl:=(QH.mp hh).1;exact⟨near,_,_,_,rfl,rfl,W.next hh rfl,hl⟩
  ·have g:¬(n:Int)<((near.map L2.T.s).length:Int):=fun z=>g (decide_eq_true z)
   rw[j3]at g;have all:=W.all (by omega)
   have k6:=gk.k2;refine⟨j8 ks,fun i q=>∃(X:List L2.T)(o7 o8:Sl),q = [.r (tKs ks),.r (.s k),.o (.l (near.map .s)),.o (iN n),o4,o5,.o (.l X),o7,o8]/\X =(e7 ks k (ks.take i)).map .s,⟨_,_,_,rfl,rfl⟩,?_,?_⟩
   ·rintro i y q hy ⟨X,o7,o8,rfl,rfl⟩
    rw[L7]at hy;obtain⟨x,hx,rfl⟩:=QX.mp hy;have hl:=gk.wl (k:=k) (xs:=ks.take i) fun y hy=>Ud hy
    have htl:(ks.take i).length<=6:=by rw[Ti];omega
    have hxl:=(gk.ne x (RB hx)).2;have hi:inT (.s x.1) (near.map L2.T.s)=decide (x.1∈near):=by rw[de,UK,nL,decide_eq_true_iff]
    refine⟨_,rfl,by rw[gq];rfl,aB (fun g=>?_) fun g=>?_⟩
    ·have g:inT (.s x.1) (near.map L2.T.s)=true:=g;rw[hi]at g;have hR:=(all _).mp (of_decide_eq_true g);refine⟨ay (by rw[j3];omega),fun j ys=>ys =((x.2.take j).map (·.1)).map .s,rfl,?_,?_⟩
     ·rintro j z ys hz rfl
      rw[L7]at hz;obtain⟨m,hm,rfl⟩:=QX.mp hz;refine⟨_,rfl,rfl,?_⟩;show _ ++ [L2.T.s m.1]=_;rw[S8,hm];simp
     ·rintro ys rfl
      rw[j3,Tb];refine⟨?_,?_⟩
      ·simp only[j3];exact Tr (ay (by omega))
      ·exact⟨_,_,_,rfl,by rw[vh hx hR,S9]⟩
    ·have g:¬ inT (.s x.1) (near.map L2.T.s)=true:=g;rw[hi]at g;have hR:¬ Reach ks k x.1:=fun z=>g (decide_eq_true ((all _).mpr z))
     exact⟨_,_,_,rfl,by rw[yV hx hR]⟩
   ·rintro q ⟨X,o7,o8,rfl,rfl⟩
    rw[j3,Tb];exact hq
theorem Co{fs:List Fn}(p:Prog ks fs):∃ xs,Unk ks fs xs:=by
 have one:∀ f∈fs,∃ os L,Pre ks (fs.map (·.1)) 0 (rtN f) L/\L.length<=50000/\Gj ks L os:=fun f hf=>by
  obtain⟨hS,h5⟩:=p.sn f hf;obtain⟨L,hR,hLl⟩:=hS.pre h5 0 .n .n [];have hR:Pre ks (fs.map (·.1)) 0 (rtN f) L:=hR;have hPL:cf ks (fs.map (·.1)) 0 [rtN f] L:=by have:=cf.cons hR (.nil);rwa [Td]at this
  have ak:=hPL.asks _ rfl
  have:∀ M:List Nod,(∀ e∈M,∃ o,Ask ks e.sc e.b o)->∃ os,Gj ks M os:=by
   intro M
   induction M with
   | nil=>intro _;exact⟨[],rfl,fun n e o h=>by simp at h⟩
   | cons e r ih =>
    intro h;obtain⟨o,ho⟩:=h e SG;obtain⟨os,h1⟩:=ih fun e he=>h e (SK _ he)
    refine⟨o::os,by simp[h1.ln],fun n e' o' he ho'=>?_⟩
    cases n with
    | zero=>cases he;cases ho';exact ho
    | succ n=>exact h1.ok n e' o' (by simpa using he) (by simpa using ho')
  obtain⟨os,hA⟩:=this L ak;exact⟨os,L,hR,by omega,hA⟩
 have:∀ gs:List Fn,(∀ g∈gs,g∈fs)->∃ xs:List (Fn×List (Option Str)),xs.map (·.1)=gs/\∀ x∈xs,∃ L,Pre ks (fs.map (·.1)) 0 (rtN x.1) L/\L.length<=50000/\Gj ks L x.2:=by
  intro gs
  induction gs with
  | nil=>intro _;exact⟨[],rfl,fun _ h=>nomatch h⟩
  | cons g r ih =>
   intro h;obtain⟨os,L,h1⟩:=one g (h g SG);obtain⟨xs,h2,h3⟩:=ih fun g hg=>h g (SK _ hg)
   refine⟨(g,os)::xs,by simp[h2],fun x hx=>?_⟩
   rcases S1.mp hx with rfl|hx
   ·exact⟨L,h1⟩
   ·exact h3 x hx
 obtain⟨xs,h1,h2⟩:=this fs fun _ h=>h
 exact⟨xs,h1,h2⟩
theorem Flt.of2{a:Str}{i:Nat}:Flt (.t [.s a,iN i]):=⟨_,rfl,by show 2<=10;decide,fun p hp=>by
 rcases S1.mp hp with rfl|hp
 ·exact .inl ⟨_,rfl⟩
 ·rw[qr.mp hp];exact .inr ⟨_,rfl⟩⟩
theorem yY{ks:List Kd}{xs:List (Fn×List (Option Str))}:∀{i:Nat},∀ x∈cP ks i xs,Flt x:=by
 have fam:∀(fm:List L2.T)(k:Str),fm.length<=9 ->(∀ p∈fm,(∃ s,p = .s s)\/∃ i,p = .i i)->∀ x∈pF ks fm k,Flt x:=fun fm k h9 hp x hx=>by
  obtain⟨m,_,rfl⟩:=S5.mp hx;refine⟨_,rfl,by rw[RM];simp;omega,fun p h=>?_⟩
  rcases SY.mp h with h|h
  ·exact hp p h
  ·rw[qr.mp h];exact .inl ⟨_,rfl⟩
 have p3:∀{a:Str}{i j:Nat},∀ p ∈ [L2.T.s a,iN i,iN j],(∃ s,p = .s s)\/∃ i,p = .i i:=fun{a i j} p hp=>by
  rcases S1.mp hp with rfl|hp
  ·exact .inl ⟨_,rfl⟩
  ·rcases S1.mp hp with rfl|hp
   ·exact .inr ⟨_,rfl⟩
   ·rw[qr.mp hp];exact .inr ⟨_,rfl⟩
 have p2:∀{a:Str}{i:Nat},∀ p ∈ [L2.T.s a,iN i],(∃ s,p = .s s)\/∃ i,p = .i i:=fun{a i} p hp=>by
  rcases S1.mp hp with rfl|hp
  ·exact .inl ⟨_,rfl⟩
  ·rw[qr.mp hp];exact .inr ⟨_,rfl⟩
 have par:∀(sc:Sc)(i k:Nat),∀ x∈c6 ks i k sc,Flt x:=by
  intro sc
  induction sc with
  | nil=>intro i k x hx;cases hx
  | cons p r ih =>
   intro i k x hx;rcases SY.mp hx with h|h
   ·exact fam _ _ (by show 3<=9;decide) p3 x h
   ·exact ih i (k+1) x h
 have pcs:∀(os:List (Option Str))(i n:Nat),∀ x∈cH ks i n os,Flt x:=by
  intro os
  induction os with
  | nil=>intro i k x hx;cases hx
  | cons p r ih =>
   intro i n x hx;rcases SY.mp hx with h|h
   ·cases p with
    | none=>cases h
    | some k=>exact fam [.s "piece",iN i,iN n] k (by show 3<=9;decide) p3 x h
   ·exact ih i (n+1) x h
 induction xs with
 | nil=>intro i x hx;cases hx
 | cons y r ih =>
  intro i x hx;rcases SY.mp hx with h|h
  ·rcases SY.mp h with h|h
   ·rcases SY.mp h with h|h
    ·rcases SY.mp h with h|h
     ·rcases SY.mp h with h|h
      ·exact par _ _ _ x h
      ·rw[qr.mp h];exact Flt.of2
     ·exact fam _ _ (by show 2<=9;decide) p2 x h
    ·rw[qr.mp h];exact Flt.of2
   ·exact pcs _ _ _ x h
  ·exact ih x h
theorem Flt.dep{x:L2.T}(h:Flt x):Dep 1 x:=by
 obtain⟨ps,rfl,_,hp⟩:=h;exact Dep.t fun p h=>by
  rcases hp p h with⟨s,rfl⟩ |⟨i,rfl⟩
  ·exact Dep.s
  ·exact Dep.i
theorem D3{fs:List Fn}(p:Prog ks fs):(L2.T.t [tKs ks,.t (fs.map tF)]).pln=true:=by
 have st:∀ ws:List Str,L2.T.c7 (ws.map .s)=true:=fun ws=>gg fun t ht=>by
  obtain⟨w,_,rfl⟩:=S5.mp ht;rfl
 have h1:L2.T.c7 (ks.map tK)=true:=gg fun t ht=>by
  obtain⟨k,_,rfl⟩:=S5.mp ht;show(true&&(L2.T.c7 (k.2.map tM)&&true))=true;rw[gg fun t ht=>by
   obtain⟨m,_,rfl⟩:=S5.mp ht;show(true&&(L2.T.c7 (m.2.map .s)&&true))=true;rw[st];rfl]
  rfl
 have h2:L2.T.c7 (fs.map tF)=true:=gg fun t ht=>by
  obtain⟨f,hf,rfl⟩:=S5.mp ht;show(true&&(L2.T.c7 (f.1.2.1.map tP)&&(true&&(f.2.1.pln&&true))))=true;rw[ur (p.dp f hf),gg fun t ht=>by
   obtain⟨m,_,rfl⟩:=S5.mp ht;rfl]
  rfl
 show(L2.T.c7 (ks.map tK)&&(L2.T.c7 (fs.map tF)&&true))=true;rw[h1,h2];rfl
theorem Prog.none{fs:List Fn}(p:Prog ks fs):Prog ks []:=⟨p.gk,by simp,by simp,fun _ h=>(nomatch h),fun _ h=>(nomatch h),fun _ h=>(nomatch h)⟩
theorem HW(T:Txt K mg a)(eZ:a8 P w K mg base CX0 3 a.cU a.js ["_law_kinds_here","_law_kind"] (spQ K lX)):a8 P w K mg base CX0 110 a.pH a.Fj ["_law_script"] (lJ K):=by
 have F6:=@HX P w K mg base a T;have aT:=kc (@gO P w K mg base a T);have rS:=@xO P w K mg base a T;have Aq:=@Ec P w K mg base a T eZ;have gX:=@vS P w K mg base a T;have qT:=@oM P w K mg base a T;refine T.P0.F.RI (n:=4) (s1:=(bV mR).headD (.Pass ⟨0,0,0,0⟩)) (rest:=(bV mR).tail) lL rfl rfl (fun _ _ _ _ _ _ hr=>?_)
 have hu:=bG hr;refine⟨_,_,_,(iF (i:=1) lL.nd rfl (Or.inl rfl) (jh F6 (hr.mono (by decide)) rfl T.qy.m T.qy.F.kp T.qy.b .nil oJ (a9 (pv 0) (a9 br c9)))),((ag (aC 2 lL.nd (aP rS hr T.mM (af (qv 1) (af ah (af (QPF.w (jT (aG (ae bF (ae bF ai))) (QPF.w (aN ju nA (by rfl) T.Al (by kernel_rfl) (af (QPF.w (lT (tG hu rfl) nC (bK _) (QPF.w (aP aT hr T.a6 (af (qv 1) (af ah az)))) ah)) az))))) az)))))
 (ag (aC 3 lL.nd (DC (i:=0) F6 rS hr T.qy T.mM (pv 0) (af ah (af ah az))))
 (ag (aC 4 lL.nd (aP Aq hr T.u9 (af (qv 2) az)))
 (ag (aC 5 lL.nd (aP gX hr T.fq (af (qv 2) az)))
 (ag (aX (QPW.pt (zg (Dp (kF (QPF.w (aP qT hr T.jK (af (qv 5) az))))) (xr (bE (zE (zU hr) rfl) nB (bK _) (qv 5) (qv 4)))))
 (aj (aI rl))
 aD)
 (ag (Du (i:=5) (pv 5))
 (ag (aX (bE (zE (zU hr) rfl) nB (bK _) (QPF.w (aP gX hr T.fq (af (QPF.w (av (ae (QPE.f (aq (qv 2) ah)) (ae (av ai) ai)))) az))) (QPF.w (aG ai)))
 (aj (aI rl))
 aD)
 (aj (aI (K4 (QPF.w (lT (D8 (zU hr) rfl) nB (bK _) (QPF.w (aP gX hr T.fq (af (qv 3) az))) (QPF.w (aP Aq hr T.u9 (af (qv 3) az))))) (K3 (lT (D8 (zU hr) rfl) nB (bK _) (QPF.w (aP gX hr T.fq (af (qv 2) az))) (qv 4)))))))))))))),fun p0 ns D hS hlen k=>?_,fun ns hlen=>?_⟩
 ·refine⟨_,rfl,p0,ns,_,rfl,hS,hlen,by decide,by decide,fun d l H1 fd fl D1 s1=>?_⟩
  exact k d l H1 fd fl D1 s1
 ·refine⟨by decide,by decide,fun r r0 r1=>⟨rfl,?_⟩⟩
  obtain⟨x,hx,h0,h1⟩:∃ x:Int,atI [L2.T.i 9,.i 20] (if decide ((L2.T.i r).v =(L2.T.i 0).v)=true then 1 else 0)=some (.i x)/\0<=x/\x<=30:=by
   split
   ·exact⟨20,rfl,by decide,by decide⟩
   ·exact⟨9,rfl,by decide,by decide⟩
  refine⟨.i x,hx,3,x,rfl,by decide,by decide,h0,h1,fun ks fs p=>?_⟩
  have alk:∀{xs:List L2.T},(∀ x∈xs,Flt x)->∀(j:Nat)(x y:L2.T),xs[j]? = some x->xs[j]? = some y->Alk 1 x y:=fun{xs} hd j x y hx hy=>by
   rw[hx]at hy;cases hy;exact(hd x (RB hx)).dep.alk
  obtain⟨xs,hU⟩:=Co p;refine⟨hlen,by decide,by decide,rfl,2,6,rfl,by decide,by decide,by decide,by decide,fun ks' fs' p'=>⟨D3 p',?_⟩⟩
  obtain⟨xs',hU'⟩:=Co p';have hF:=@yY ks xs 0;have hI:L2.T.ims (cP ks 0 xs)=true:=gR fun t ht=>yp (hF t ht).dep
  refine⟨ks,fs,xs,rfl,p,hU,ks,fs,xs,rfl,p,hU,_,rfl,hI,hF,?_⟩;refine⟨_,_,1,rfl,rfl,by decide,alk hF,fun c hc=>?_⟩
  obtain rfl:c=true:=hc.mpr rfl;refine aB (fun z=>absurd z (by decide)) fun _=>?_
  refine⟨_,rfl,j8 ks,ks,[],[],rfl,p.none,⟨rfl,fun _ h=>(nomatch h)⟩,_,_,1,rfl,rfl,by decide,fun j x y h=>by simp[cP]at h,fun c hc=>?_⟩
  obtain rfl:c=true:=hc.mpr rfl;refine aB (fun z=>absurd z (by decide)) fun _=>?_
  refine⟨ks',fs',xs',rfl,p',hU',ks',fs',xs',rfl,p',hU',_,_,1,rfl,rfl,by decide,alk (@yY ks' xs' 0),fun c hc=>?_⟩
  obtain rfl:c=true:=hc.mpr rfl;refine aB (fun _=>?_) fun z=>absurd rfl z
  refine⟨ks,fs,xs,rfl,p,hU,_,_,1,rfl,rfl,by decide,alk hF,fun c hc=>?_⟩
  obtain rfl:c=true:=hc.mpr rfl;rfl
theorem LD(T:Txt K mg a):a8 P w K mg base CX0 110 a.pH a.Fj ["_law_script"] (lJ K):=HW T (xP T GC)
end
theorem all_mk{l:W.OpenLaw}{w:World}{K:W.Frag}{h:Heap}{fa:Addr}(X:K.In h)(G:h.Ns mainGlobals mg)(hfa:mg "law" = some (.ref fa))
  {aM:Addr} (sW:W.nsIn K mainGlobals "Spot" = some (some (.ref aM))) (tu:W.plainGet K aM Str.empty=true) (tm:W.hasDictIn K aM=true) (tj:W.plainOver K aM=true)
  (sZ:W.findIn K (.ref aM) "__setattr__" = some (some (.builtin "object.__setattr__"))) (sY:W.makesIn K aM=true) (sX:W.keepIn K (.ref aM)=true)
  (fK:W.findIn K (.ref aM) "piece" = some none)
  (fL:W.findIn K (.ref aM) "above" = some none)
  (iG:W.findIn K (.ref aM) "arm" = some none)
  (dF:W.findIn K (.ref aM) "__init__" = some (some (.ref bU))) (gK:LK K bU "__init__" "Spot.__init__" gE Ii Ie Iy I0 HE Js uz Je GH) (gM:CI K uz "Spot.__init__") (eU:KI K bU) (eT:W.isFn K (.ref bU)=true)
  (i6:NI K "makers_of" cT) (iP:LK K cT "makers_of" "makers_of" iD Ih Ic Iw IZ HD Jr uy Jd GG) (iZ:CI K uy "makers_of") (iR:KI K cT)
  (p8:NI K "within" gu) (oU:LK K gu "within" "within" oo MM MK MO MQ MI MU B5 MS MG) (pU:CI K B5 "within") (oZ:KI K gu)
  (eI:NI K "reached_kinds" bN) (d5:LK K bN "reached_kinds" "reached_kinds" dU Bt Bq BF BW Bg Cb mD B2 AU) (eu:CI K mD "reached_kinds") (d8:KI K bN)
  (eJ:NI K "kind_of_maker" bO) (d6:LK K bO "kind_of_maker" "kind_of_maker" dW Bu Br BG BX Bh Cc mE B3 AV) (eB:CI K mE "kind_of_maker") (d9:KI K bO)
  (i5:NI K "number_of" cS) (iO:LK K cS "number_of" "number_of" iC Ig Ib Iv IY HC Jq ux Jc GF) (iY:CI K ux "number_of") (iQ:KI K cS)
  (uM:NI K "spots" jk) (tT:LK K jk "spots" "spots" sA Oh N8 OH Pa NP PF FE Pl M9) (uD:CI K FE "spots") (t7:KI K jk)
  (eD:NI K "spots_beneath" bM) (dZ:LK K bM "spots_beneath" "spots_beneath" dS Bs Bp BE BV Bf Ca mB B1 AR) (eh:CI K mB "spots_beneath") (d7:KI K bM)
  (p9:NI K "pieces" gw) (oV:LK K gw "pieces" "pieces" oq MN ML MP MR MJ MV B6 MT MH) (pV:CI K B6 "pieces") (pe:KI K gw)
  (fY:NI K "kinds_ahead" cp) (fO:LK K cp "kinds_ahead" "kinds_ahead" fH Em Ej EI Fh DZ FU pR FC CH) (fV:CI K pR "kinds_ahead") (fR:KI K cp)
  (kl:NI K "bound_by" dz) (jY:LK K dz "bound_by" "bound_by" jP J0 JY J5 Kc JU Kj wC Kf JI) (kg:CI K wC "bound_by") (j4:KI K dz)
  (kj:NI K "unknowns" dy) (jX:LK K dy "unknowns" "unknowns" jO JZ JX J4 Kb JT Ki wB Ke JH) (ke:CI K wB "unknowns") (jZ:KI K dy)
  (fW:NI K "unknowns_of" cm) (fM:LK K cm "unknowns_of" "unknowns_of" fF Ek Eh EG Ff DX FR pP Fz CC) (fT:CI K pP "unknowns_of") (fP:KI K cm)
  (dB:NI K "piece_unknowns" bB) (dv:LK K bB "piece_unknowns" "piece_unknowns" dt zK zJ zO z7 zz Am lb Ag y9) (dA:CI K lb "piece_unknowns") (dw:KI K bB)
  (yN:NI K "_law_deal" mx) (x3:LK K mx "_law_deal" "_law_deal" xl Qs Qk Qz QN Qd Q9 Jj QY P6) (yB:CI K Jj "_law_deal") (ya:KI K mx)
  (yM:NI K "_law_draw" mw) (xZ:LK K mw "_law_draw" "_law_draw" xk Qr Qj Qy QM Qc Q8 Ji QW P5) (yA:CI K Ji "_law_draw") (x9:KI K mw)
  (uL:NI K "_law_words" jj) (tR:LK K jj "_law_words" "_law_words" sy Og N7 OG O9 NO PD FD Pk M8) (uC:CI K FD "_law_words") (t6:KI K jj)
  (uQ:NI K "_law_kinds" jn) (tX:LK K jn "_law_kinds" "_law_kinds" sE Ol Ob OL Pd NT PK FI Po Nc) (uG:CI K FI "_law_kinds") (ua:KI K jn)
  (yL:NI K "_law_fill" mq) (xY:LK K mq "_law_fill" "_law_fill" xj Qq Qi Qx QL Qb Q7 Jh QV P4) (yz:CI K Jh "_law_fill") (k_fill:KI K mq)
  (uS:NI K "_law_ended" jq) (tZ:LK K jq "_law_ended" "_law_ended" sG Oo Od ON Pf NV PN FK Pq Ng) (uI:CI K FK "_law_ended") (uc:KI K jq)
  (yO:NI K "_law_case" my) (x4:LK K my "_law_case" "_law_case" xm Qt Ql QD QP Qe Ra Jk QZ P7) (yC:CI K Jk "_law_case") (yb:KI K my)
  (yP:NI K "_law_body" ka) (x5:LK K ka "_law_body" "_law_body" xn Qu Qm QF QQ Qf Rb Jl Q0 P8) (yD:CI K Jl "_law_body") (yc:KI K ka)
  (mI:NI K "_law_program" eV) (ma:LK K eV "_law_program" "_law_program" lN LI LG LZ Mj Lm Mw yu Mn KA) (mG:CI K yu "_law_program") (mf:KI K eV)
  (uR:NI K "_law_inner" jo) (tY:LK K jo "_law_inner" "_law_inner" sF Om Oc OM Pe NU PL FJ Pp Nf) (uH:CI K FJ "_law_inner") (ub:KI K jo)
  (uO:NI K "_law_paths" jl) (tU:LK K jl "_law_paths" "_law_paths" sC Oi N9 OI Pb NQ PH FF Pm Na) (uE:CI K FF "_law_paths") (t8:KI K jl)
  (yK:NI K "_law_home" mm) (xX:LK K mm "_law_home" "_law_home" xi Qo Qh Qw QK Qa Q6 Jg QU P2) (yy:CI K Jg "_law_home") (x8:KI K mm)
  (mJ:NI K "_law_within" cU) (md:LK K cU "_law_within" "_law_within" lO LJ LH L0 Ml Ln Mx yw Mp KC) (mH:CI K yw "_law_within") (mh:KI K cU)
  (yJ:NI K "_law_seat" ml) (xW:LK K ml "_law_seat" "_law_seat" xh Qn Qg Qv QG P9 Q5 Jf QR P1) (yx:CI K Jf "_law_seat") (x6:KI K ml)
  (uT:NI K "_law_bound" f_bound) (t5:LK K f_bound "_law_bound" "_law_bound" sH Oq Oe OO Pg NX PQ FL Pr sl_bound) (uJ:CI K FL "_law_bound") (ud:KI K f_bound)
  (uP:NI K "_law_marks" jm) (tV:LK K jm "_law_marks" "_law_marks" sD Oj Oa OJ Pc NS PJ FG Pn Nb) (uF:CI K FG "_law_marks") (t9:KI K jm)
  (fX:NI K "_law_kinds_right" cn) (fN:LK K cn "_law_kinds_right" "_law_kinds_right" fG El Ei EH Fg DY FT pQ FA CG) (fU:CI K pQ "_law_kinds_right") (fQ:KI K cn)
  (Ao:NI K "law" pH) (EE:LK K pH "law" "law" mR Ry Rx L3 Mm Lo My FH Mq Ri) (FO:CI K FH "law") (EF:KI K pH)
  (Ck:W.nsIn K mainGlobals "len" = some none)
  (wL:W.nsIn K mainGlobals "list" = some none)
  (rX:W.nsIn K mainGlobals "tuple" = some none)
  (Cm:W.nsIn K mainGlobals "int" = some none)
  (wN:W.nsIn K mainGlobals "bool" = some none)
  (wM:W.nsIn K mainGlobals "dict" = some none)
  (jM:W.nsIn K mainGlobals "reversed" = some none)
  (Cj:W.nsIn K mainGlobals "max" = some none)
  (rY:W.nsIn K mainGlobals "range" = some none)
  (gC:W.nsIn K mainGlobals "isinstance" = some none)
  (Cg:W.nsIn K mainGlobals "zip" = some none)
  (ij:W.nsIn K mainGlobals "enumerate" = some none)
  (nQ:W.nsIn K mainGlobals "sorted" = some none)
  (Ci:W.nsIn K mainGlobals "set" = some none)
  : ∃ fd:FuncData,(∀(s:Shared)(v:Value),BindsTo s fd ⟨[v],[]⟩ [("_law_script",v)])/\∀ base:Heap,K.In base->base.Ns mainGlobals mg->a8 l.prog w K mg base CX0 110 fa fd ["_law_script"] (lJ K):=by
 have e:=hfa.symm.trans (W.mg_of X G Ao);cases e;have m6:=aZ iP iZ iR;have wG:=aZ oU pU oZ;have hW:=aZ d5 eu d8;have hZ:=aZ d6 eB d9;have m5:=aZ iO iY iQ;have Au:=aZ tT uD t7;have hV:=aZ dZ eh d7;have wH:=aZ oV pV pe;have jJ:=aZ fO fV fR;have qp:=aZ jY kg j4;have qm:=aZ jX ke jZ;have jH:=aZ fM fT fP;have gy:=aZ dv dA dw;have Gb:=aZ x3 yB ya;have Ga:=aZ xZ yA x9;have As:=aZ tR uC t6;have Ax:=aZ tX uG ua;have F9:=aZ xY yz k_fill;have Az:=aZ tZ uI uc;have Gd:=aZ x4 yC yb;have Ge:=aZ x5 yD yc;have rT:=aZ ma mG mf;have Ay:=aZ tY uH ub;have Av:=aZ tU uE t8;have F8:=aZ xX yy x8;have rV:=aZ md mH mh;have F7:=aZ xW yx x6;have AA:=aZ t5 uJ ud;have Aw:=aZ tV uF t9;have jI:=aZ fN fU fQ;have Kk:=aZ EE FO EF;have fC:=aZ gK gM eU;have T:Txt K mg ⟨aM,bU,_,cT,_,gu,_,bN,_,bO,_,cS,_,jk,_,bM,_,gw,_,cp,_,dz,_,dy,_,cm,_,bB,_,mx,_,mw,_,jj,_,jn,_,mq,_,jq,_,my,_,ka,_,eV,_,jo,_,jl,_,mm,_,cU,_,ml,_,f_bound,_,jm,_,cn,_,pH,_⟩:=⟨⟨tu,tm,tj,sZ⟩,W.mg_of X G sW,⟨sY,dF,eT,sX⟩,fK,fL,iG,fC,⟨dF,eT,eU⟩,fC.b4,⟨m6,W.mg_of X G i6,m6.b2⟩,⟨wG,W.mg_of X G p8,wG.b2⟩,⟨hW,W.mg_of X G eI,hW.b2⟩,⟨hZ,W.mg_of X G eJ,hZ.b2⟩,⟨m5,W.mg_of X G i5,m5.b2⟩,⟨Au,W.mg_of X G uM,Au.b1⟩,⟨hV,W.mg_of X G eD,hV.b2⟩,⟨wH,W.mg_of X G p9,wH.b1⟩,⟨jJ,W.mg_of X G fY,jJ.b2⟩,⟨qp,W.mg_of X G kl,qp.b4⟩,⟨qm,W.mg_of X G kj,qm.b1⟩,⟨jH,W.mg_of X G fW,jH.b3⟩,⟨gy,W.mg_of X G dB,gy.b2⟩,⟨Gb,W.mg_of X G yN,Gb.b2⟩,⟨Ga,W.mg_of X G yM,Ga.b2⟩,⟨As,W.mg_of X G uL,As.b2⟩,⟨Ax,W.mg_of X G uQ,Ax.b2⟩,⟨F9,W.mg_of X G yL,F9.b3⟩,⟨Az,W.mg_of X G uS,Az.b5⟩,⟨Gd,W.mg_of X G yO,Gd.b5⟩,⟨Ge,W.mg_of X G yP,Ge.b5⟩,⟨rT,W.mg_of X G mI,rT.b3⟩,⟨Ay,W.mg_of X G uR,Ay.b1⟩,⟨Av,W.mg_of X G uO,Av.b3⟩,⟨F8,W.mg_of X G yK,F8.b2⟩,⟨rV,W.mg_of X G mJ,rV.b2⟩,⟨F7,W.mg_of X G yJ,F7.b2⟩,⟨AA,W.mg_of X G uT,AA.b3⟩,⟨Aw,W.mg_of X G uP,Aw.b1⟩,⟨jI,W.mg_of X G fX,jI.b1⟩,⟨Kk,W.mg_of X G Ao,Kk.b1⟩,W.mg_none_of X G Ck,W.mg_none_of X G wL,W.mg_none_of X G rX,W.mg_none_of X G Cm,W.mg_none_of X G wN,W.mg_none_of X G wM,W.mg_none_of X G jM,W.mg_none_of X G Cj,W.mg_none_of X G rY,W.mg_none_of X G gC,W.mg_none_of X G Cg,W.mg_none_of X G ij,W.mg_none_of X G nQ,W.mg_none_of X G Ci⟩;exact⟨W.fnOf "law" "law" (dh mR) (bV mR) (aw mR) .none L3 Mm Lo My FH Mq,fun s v=>.of_eq rfl,fun base _ _=>LD T⟩
theorem walk{l:W.OpenLaw}{q:Program}{loose:List Str}{XP:(Str->Option Value)->Heap->Prop}{YP:World->Heap->Prop}{d:DefRec}{K:Params->W.Frag}(hn:l.most=some 63)(hdf:d.params.defaults = [])
  (hY:∀(w:World)(h:Heap),YP w h ->(K w.params).In h)
  (F:∀(w:World)(mg:Str->Option Value)(fa:Addr)(h:Heap),(K w.params).In h->h.Ns mainGlobals mg->mg d.name=some (.ref fa) ->
   ∃ fd:FuncData,(∀(s:Shared)(u:Value),BindsTo s fd ⟨[u],[]⟩ [("_law_script",u)])/\∀ base:Heap,(K w.params).In base->base.Ns mainGlobals mg->a8 l.prog w (K w.params) mg base CX0 110 fa fd ["_law_script"] (lJ (K w.params))) :
  W.WalkO q loose XP YP l.row.toRowW d [] (fun f vs=>PySem.call f vs) :=
 L2.Gu (n:=63) (k:=110) (x:="_law_script") (CX:=fun _=>CX0) (sp:=fun w=>lJ (K w.params)) hn (by decide) hdf ⟨rfl,by decide,by decide⟩ hY F (fun _ _ a ns hl hO hS=>⟨a,ns,rfl,O4 hO hS,hl,fun _=>rfl⟩) fun _ _ _ _ _ z=>z
end K28
namespace PySem.W.Fast
def tw10110951610796549584:=()
def tw10129289743805378826:=()
def tw10334575187752156618:=()
def tw10348917042713028492:=()
def tw1036767268501820249:=()
def tw10378345619289131588:=()
def tw10409376421008127295:=()
def tw10439327519472993293:=()
def tw10472589470881473659:=()
def tw10587408621257343305:=()
def tw10605394371514524166:=()
def tw11302530351763588799:=()
def tw114298413387762334:=()
def tw11624680969573703199:=()
def tw11629490396459487734:=()
def tw12013340682428011264:=()
def tw12028954995865181487:=()
def tw12091682495320886970:=()
def tw12102198433649138668:=()
def tw12104813944146635722:=()
def tw12131679635676054339:=()
def tw12172248556878407030:=()
def tw1228065991422452228:=()
def tw12393140315389714286:=()
def tw12616792937745445541:=()
def tw12898840446211947623:=()
def tw12900288272966478186:=()
def tw12932570840173451832:=()
def tw12973682629707778229:=()
def tw13094233924935539730:=()
def tw13183759357583825301:=()
def tw13238502060375203440:=()
def tw13247717478915396761:=()
def tw13361235396116866690:=()
def tw13710782978327017789:=()
def tw14156966548897749665:=()
def tw1423588064444333060:=()
def tw14629734184207508469:=()
def tw14676712257445510112:=()
def tw14760631347459381978:=()
def tw14802697218987423055:=()
def tw15230211953792179999:=()
def tw15242402610149990846:=()
def tw15275082033147379096:=()
def tw15614060741656202554:=()
def tw1562855882404222596:=()
def tw15806177305546274122:=()
def tw15906013760300498370:=()
def tw16067774879794879765:=()
def tw16112012375471003566:=()
def tw16237371231801614053:=()
def tw16300457025964995897:=()
def tw16328179513827039130:=()
def tw16420709842620276181:=()
def tw16725394058180458262:=()
def tw16845338086092337086:=()
def tw16933798513125200238:=()
def tw17182342299128562446:=()
def tw1725256445597212623:=()
def tw17254858722319230535:=()
def tw1728518262468801539:=()
def tw17588115407311604454:=()
def tw17623283991228740185:=()
def tw17876528198438309647:=()
def tw17904948956450323380:=()
def tw18112584273100207659:=()
def tw18232711026848821467:=()
def tw1934286156938903863:=()
def tw2277871170995520624:=()
def tw2324951421561154764:=()
def tw2556400586643428332:=()
def tw2797092409810660097:=()
def tw2827173171420004032:=()
def tw305670726334595347:=()
def tw306697192139332465:=()
def tw3157892622481947332:=()
def tw3569319528602949714:=()
def tw359356607895141582:=()
def tw3710528501468617173:=()
def tw3830905300544991238:=()
def tw3902871654552108562:=()
def tw4162410511578196456:=()
def tw4223842296124494700:=()
def tw4224966911324013564:=()
def tw4343687252371748882:=()
def tw4358474190297048550:=()
def tw4491318143035741363:=()
def tw4602618374371263285:=()
def tw4782649874064788567:=()
def tw5080944390339035493:=()
def tw5200599237878574528:=()
def tw527597785425192051:=()
def tw5384510159768499063:=()
def tw5877625094126375919:=()
def tw5907767361669917407:=()
def tw6051834619524181887:=()
def tw6142885993347474955:=()
def tw6184666090677965129:=()
def tw6298509349749446034:=()
def tw6331435684955268459:=()
def tw6331810872738307182:=()
def tw6344199427315609371:=()
def tw6407849600526678569:=()
def tw6412870578724552350:=()
def tw6447715585907550763:=()
def tw6550047420369966934:=()
def tw6647352558272307727:=()
def tw6722748570734341894:=()
def tw6770934941386115616:=()
def tw7346011591398577524:=()
def tw7473768807447697585:=()
def tw7633692658980642014:=()
def tw7762684101825121732:=()
def tw7772216677065036465:=()
def tw7865536803868339920:=()
def tw7884146591469498635:=()
def tw8062881850761312753:=()
def tw8153570433939392428:=()
def tw819791405936214623:=()
def tw8528610571763650855:=()
def tw8532524756330717757:=()
def tw8575632034546212061:=()
def tw8640577243310916140:=()
def tw8772094793153200536:=()
def tw8848627885017504161:=()
def tw8867694094009606117:=()
def tw9043408384170651288:=()
def tw9242417376445897921:=()
def tw9295638928197772022:=()
def tw9467570611615382156:=()
def tw9548604249110225186:=()
def tw9713588712632396851:=()
def tw9912773779799540756:=()
def tw9999753716070729614:=()
end PySem.W.Fast
open PySem PySem.W PyProof.Rows
set_option maxRecDepth 100000 in
set_option maxHeartbeats 0 in
theorem PySem.Challenge.cw_pursewright_k28_unknowns_holds : PySem.Challenge.rw_pursewright_k28_unknowns.Holds := by
 w_on;o_law;k_head;(case hw=>w_witness2)
 k_fill
 refine K28.walk (l:=PySem.Challenge.rw_pursewright_k28_unknowns) rfl rfl (fun w h Y=>PySem.W.kIn_of Y) ?F
 case F =>
  intro w mg fa h KX G hmg;refine' K28.all_mk KX G hmg ?sW ?tu ?tm ?tj ?sZ ?sY ?sX ?fK ?fL ?iG ?dF ?gK ?gM ?eU ?eT ?i6 ?iP ?iZ ?iR ?p8 ?oU ?pU ?oZ ?eI ?d5 ?eu ?d8 ?eJ ?d6 ?eB ?d9 ?i5 ?iO ?iY ?iQ ?uM ?tT ?uD ?t7 ?eD ?dZ ?eh ?d7 ?p9 ?oV ?pV ?pe ?fY ?fO ?fV ?fR ?kl ?jY ?kg ?j4 ?kj ?jX ?ke ?jZ ?fW ?fM ?fT ?fP ?dB ?dv ?dA ?dw ?yN ?x3 ?yB ?ya ?yM ?xZ ?yA ?x9 ?uL ?tR ?uC ?t6 ?uQ ?tX ?uG ?ua ?yL ?xY ?yz ?k_fill ?uS ?tZ ?uI ?uc ?yO ?x4 ?yC ?yb ?yP ?x5 ?yD ?yc ?mI ?ma ?mG ?mf ?uR ?tY ?uH ?ub ?uO ?tU ?uE ?t8 ?yK ?xX ?yy ?x8 ?mJ ?md ?mH ?mh ?yJ ?xW ?yx ?x6 ?uT ?t5 ?uJ ?ud ?uP ?tV ?uF ?t9 ?fX ?fN ?fU ?fQ ?Ao ?EE ?FO ?EF ?Ck ?wL ?rX ?Cm ?wN ?wM ?jM ?Cj ?rY ?gC ?Cg ?ij ?nQ ?Ci
  all_goals try delta L2.NI L2.LK L2.CI L2.KI
  all_goals try first|k_is|kernel_rfl
