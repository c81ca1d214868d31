import PyProof.Rows.All
import Wide.All
import OpenK.AllK
import Wide.FinOn
import Lean
import PyProof.EqAt
import PyProof.EqKinds
import PyProof.TupleCall
import PyProof.InstStoreFacts
import PySem.Challenge.RW_pursewright_k22_short_at_the_edge
set_option Elab.async false
set_option linter.all false
set_option maxRecDepth 100000
open PySem renaming wpAny_bind→j2,wpAny_pure→Lb,starEach→L9,sizeLine→QD,wpAny_call_entry→Rl,wpAny_holding→Rn,wpAny_newObj_type→Ro,wpAny_Call_Name_kw→Rr,wpAny_mono→RD,wpAny_specialOf→RM,isSubtype_type→RQ,wpAny_updateSeq→RR,wpAny_of_eq→RX,wpAny_typeOf→RY,wpAny_attempt→R3,plainId_quiet→R4,wpAny_isInstance→R7,wpAny_rule→R9,codeAny_builtin→Sn,sizeLine_eq→Sv,PassesOwn→S8
open PySem.Heap renaming get?_push_of_some→j3,get?_push_size→QV,lt_size→QW,size_push→Rb,get?_update_other→Rc,get?_update_self→Rv,SameBut→R8,ExtBut→TL
open List renaming mem_cons_of_mem→j5,mem_cons_self→qr,mem_singleton→Es,mem_append_right→PJ,size_toArray→P2,getElem?_eq_some_iff→Qx,nodup_nil→QG,mem_cons→QH,mem_append_left→QP,length_map→QR,getElem?_eq_getElem→QU,lookup_cons→QZ,getElem?_map→Q0,nodup_cons→Q5,append_nil→Q6,mem_append→Q7,length_append→Q9,range→Rf,replicate→Ri,length_cons→Rj,find?_cons→Rk,nodup_append→Rm,getElem?_set_ne→Rq,map_cons→Rt,getElem_mem→Ru,getElem?_append_right→Rw,getElem?_set_self→Rx,append_eq_nil_iff→Ry,length_set→Rz,drop_length→RA,getD_eq_getElem?_getD→RC,getElem?_append_left→RF,all_eq_true→RG,mem_map→RJ,mem_of_getElem?→RK,map_append→RL,perm_append_comm_assoc→RN,length_take→RP,lookup→RS,append_assoc→RT,length_range→RW,any_cons→R1,append_cancel_left→R6,mem_range→Sd,any_eq_true→Sf,cons_ne_nil→Sg,drop_eq_getElem_cons→Sh,forIn_cons→Sk,length_zip→Sm,mem_filterMap→So,getElem?_replicate→Sr,length_eq_zero_iff→Ss,reverse_cons→Sw,getElem?_eq_none→Sx,getElem?_toArray→Sy,length_drop→Sz,sublist_nil→SD,mem_filter→SF,length_nil→SH,filterMap_cons→SI,nodup_iff_pairwise_ne→SN,forIn_nil→SO,mem_or_eq_of_mem_set→SQ,sublist_append_right→SR,set_eq_of_length_le→SU,map_nil→SX,take_of_length_le→S1,of_mem_zip→S2,range_succ→S4,dropLast_eq_take→S6,dropLast_concat→S7,length_reverse→S9,length_pos_iff→Ta,map_drop→Tb,map_take→Tc,any_eq_false→Tj,any_map→Ts,zip→Tt,zipIdx_cons→Tz,not_mem_nil→TB,ext_getElem→TC,perm_middle→TH,take_length→TJ,length→TK
open Bool renaming false_ne_true→QF,and_eq_true→QY,false_eq_true→RH,false_or→SE,eq_iff_iff→SG,and_false→SK,true_or→Tp,eq_false_iff→Tq
open Nat renaming le_refl→QX,lt_of_lt_of_le→Q8,le_trans→Ra,ne_of_lt→Rg,le_of_lt→RB,zero_le→RE,ne_of_gt→RI,lt_irrefl→RZ,lt_succ_self→R5,lt_succ_of_lt→Sb,min_le_right→Se,sub_self→SJ,lt_of_le_of_lt→SM,succ_le_succ→SW,sub_le→Td,mod_mod_of_dvd→Te,le_succ_of_le→Tv
open Option renaming map_eq_some_iff→Rh,getD_none→Tx
open Int renaming le_refl→RO,le_trans→RU,toNat_of_nonneg→Sj,mul_le_mul_of_nonneg_right→SA,toNat_natCast→SS,le_max_right→SV,zero_add→S0,natCast_mul→S3,ediv_one→To,add_zero→Tw
open PySem.Around renaming under_plainId→RV,under→Tn
open PySem.Obj renaming mapSeq→R0,data_mapFields→Tf
open Array renaming length_toList→Si,getElem?_eq_none→SY,getElem?_toList→S5,forIn_toList→Ti,size_append→Tr
namespace L2
open PySem PySem.Spec PyProof.Rows
abbrev Key:=Sum Int Str
def rK:Key->Value->Bool
 | .inl k,v=>Value.isInt k v
 | .inr x,v=>Value.isStrOf x v
def PX(w:World):Key->Int
 | .inl k=>hashInt k
 | .inr x=>hashStr w x
theorem bB:∀{k:Key}{v:Value},rK k v=true ->(∃ i t,k=Sum.inl i/\v=Value.int i t)\/(∃ x t,k=Sum.inr x/\v=Value.str x t)
 | .inl i,v,h=>by
  obtain⟨t,e⟩:=Value.isInt_shape (k:=i) (v:=v) h;exact .inl ⟨i,t,rfl,e⟩
 | .inr x,v,h=>by
  obtain⟨t,e⟩:=Value.isStrOf_shape (x:=x) (v:=v) h;exact .inr ⟨x,t,rfl,e⟩
theorem AR(i:Int)(t:Tok):rK (.inl i) (.int i t)=true:=by simp[rK,Value.isInt]
theorem AQ(x:Str)(t:Tok):rK (.inr x) (.str x t)=true:=by simp[rK,Value.isStrOf]
theorem K5(a b:Int):decide ((Sum.inl a:Key)=Sum.inl b) =(a==b):=by
 by_cases e:a=b
 ·subst e;simp
 ·have h:¬(Sum.inl a:Key)=Sum.inl b:=fun q=>e (Sum.inl.inj q)
  rw[decide_eq_false h];exact(beq_eq_false_iff_ne.mpr e).symm
theorem K0(a b:Str):decide ((Sum.inr a:Key)=Sum.inr b)=decide (a=b):=by
 by_cases e:a=b
 ·subst e;simp
 ·have h:¬(Sum.inr a:Key)=Sum.inr b:=fun q=>e (Sum.inr.inj q)
  rw[decide_eq_false h,decide_eq_false e]
theorem K4(a:Int)(b:Str):decide ((Sum.inl a:Key)=Sum.inr b)=false:=decide_eq_false (fun q=>nomatch q)
theorem K3(a:Str)(b:Int):decide ((Sum.inr a:Key)=Sum.inl b)=false:=decide_eq_false (fun q=>nomatch q)
def br(prog:Program)(w:World):PySem.KeyKind prog w Key where
 is:=rK
 hash:=PX w
 inj:=fun v a b ha hb=>by
  rcases bB ha with⟨i,t,rfl,rfl⟩ |⟨x,t,rfl,rfl⟩
  ·rcases bB hb with⟨j,u,rfl,e⟩ |⟨y,u,rfl,e⟩
   ·injection e with e1 _;rw[e1]
   ·exact nomatch e
  ·rcases bB hb with⟨j,u,rfl,e⟩ |⟨y,u,rfl,e⟩
   ·exact nomatch e
   ·injection e with e1 _;rw[e1]
 byValue:=fun k v h=>by
  rcases bB h with⟨i,t,rfl,rfl⟩ |⟨x,t,rfl,rfl⟩ <;> rfl
 pyHash:=fun hv h=>by
  rcases bB hv with⟨i,t,rfl,rfl⟩ |⟨x,t,rfl,rfl⟩
  ·exact wpAny_pyHash_int h
  ·exact wpAny_pyHash_str h
 eqBool:=fun hu hv h=>by
  rcases bB hu with⟨i,t,rfl,rfl⟩ |⟨x,t,rfl,rfl⟩
  ·rcases bB hv with⟨j,u,rfl,rfl⟩ |⟨y,u,rfl,rfl⟩
   ·rw[K5]at h;exact wpAny_eqBool_int h
   ·rw[K4]at h;exact SeqAt.EqAt.int_str i t y u _ _ _ _ h
  ·rcases bB hv with⟨j,u,rfl,rfl⟩ |⟨y,u,rfl,rfl⟩
   ·rw[K3]at h;exact SeqAt.EqAt.str_int x t j u _ _ _ _ h
   ·rw[K0]at h;exact wpAny_eqBool_str h
 «strs»:=fun k x t v h=>by
  rcases bB h with⟨i,u,rfl,e⟩ |⟨y,u,rfl,e⟩
  ·exact nomatch e
  ·injection e with e1 _
   subst e1;cases v <;> rfl
theorem vA(prog:Program)(w:World)(i:Int)(t:Tok):(br prog w).is (.inl i) (.int i t)=true:=AR i t
theorem vz(prog:Program)(w:World)(x:Str)(t:Tok):(br prog w).is (.inr x) (.str x t)=true:=AQ x t
inductive V where
 | non|bl (b:Bool)|int (i:Int)|str (x:Str)|byt (b:Array UInt8)|flt (b:UInt64)|ref (a:Addr)|ty (n:String)
 deriving DecidableEq
def RelV:V->Value->Prop
 | .non,u=>u=Value.none
 | .bl b,u=>u=Value.bool b
 | .int i,u=>∃ t,u=Value.int i t
 | .str x,u=>∃ t,u=Value.str x t
 | .byt b,u=>∃ t,u=Value.bytes b t
 | .flt b,u=>∃ t,u=Value.float b t
 | .ref a,u=>u=Value.ref a
 | .ty n,u=>u=Value.type n
abbrev Vals:List V->List Value->Prop:=Paired RelV
theorem Vals.length{xs:List V}{us:List Value}(r:Vals xs us):xs.length=us.length:=Paired.length r
theorem Vals.get:∀{xs:List V}{us:List Value}{i:Nat}{x:V},Vals xs us->xs[i]? = some x->∃ u,us[i]? = some u/\RelV x u
 | _,_,_,_,.nil,e=>by simp at e
 | _,_,0,_,.cons r _,e=>by simp at e;subst e;exact⟨_,rfl,r⟩
 | _,_,i+1,x,.cons _ t,e=>by
  obtain⟨u,h1,h2⟩:=Vals.get (i:=i) (x:=x) t (by simpa using e)
  exact⟨u,by simpa using h1,h2⟩
theorem Vals.set{x:V}{u:Value}(r:RelV x u):∀{xs:List V}{us:List Value}(i:Nat),Vals xs us->Vals (xs.set i x) (us.set i u)
 | _,_,_,.nil=>.nil
 | _,_,0,.cons _ t=>.cons r t
 | _,_,i+1,.cons q t=>.cons q (Vals.set r i t)
theorem Vals.append:∀{xs ys:List V}{us ws:List Value},Vals xs us->Vals ys ws->Vals (xs++ys) (us++ws)
 | _,_,_,_,.nil,s=>s
 | _,_,_,_,.cons r t,s=>.cons r (Vals.append t s)
theorem Vals.take:∀{xs:List V}{us:List Value}(n:Nat),Vals xs us->Vals (xs.take n) (us.take n)
 | _,_,0,_=>.nil
 | _,_,_+1,.nil=>.nil
 | _,_,n+1,.cons r t=>.cons r (Vals.take n t)
theorem Vals.drop:∀{xs:List V}{us:List Value}(n:Nat),Vals xs us->Vals (xs.drop n) (us.drop n)
 | _,_,0,r=>r
 | _,_,_+1,.nil=>.nil
 | _,_,n+1,.cons _ t=>Vals.drop n t
def jt:Option V->Option Value->Prop
 | some v,some u=>RelV v u
 | none,none=>True
 | _,_=>False
def KV{κ:Type}:List (κ×V)->List (κ×Value)->Prop:=Paired fun(p:κ×V)(q:κ×Value)=>p.1=q.1/\RelV p.2 q.2
def kV:Key->V
 | .inl i=>.int i
 | .inr x=>.str x
inductive HO where
 | lst(xs:List V)
 | tup(xs:List V)
 | dK(kvs:List (Key×V))|dT (kvs:List (List Key×V))
 | set(S:Int->Bool)(n:Nat)
 | ins(C dx:Addr)(fs:List (Str×V))
 | own(x:Addr)
 | xd(fs:List (Str×V))
 | room(x:Int)
 | met(f x:Addr)
 | rng(lo hi:Int)
 | frz(o:Obj)(u:HO)
 | tbl(ps:Array Value)
 | ext(φ:Heap->Prop)
abbrev Hp:=Addr->Option HO
def upd(H:Hp)(a:Addr)(o:HO):Hp:=fun b=>if b=a then some o else H b
variable{H:Hp}{a:Addr}
theorem ar{o:HO}:upd H a o a=some o:=by unfold upd;rw[if_pos rfl]
theorem ah{b:Addr}{o:HO}(h:b≠a):upd H a o b=H b:=by unfold upd;rw[if_neg h]
theorem yG{o u:HO}:upd (upd H a o) a u=upd H a u:=by
 funext b;unfold upd;split <;> rfl
theorem jL{b:Addr}{o u:HO}(h:H a=some o)(h':H b=some u)(d:o≠u):a≠b:=by
 intro e;subst e;rw[h]at h';exact d (Option.some.inj h')
theorem aH{b:Addr}{o:HO}(h:H a=some o)(h':H b=none):a≠b:=by
 intro e;subst e;rw[h]at h';cases h'
def nB(h:Heap)(a:Addr)(items:Array Value):Prop:=IsTup h a items/\∃ o,h.get? a=some o/\o.dict=none
theorem nB.new(h:Heap)(items:Array Value):nB (h.push { cls:=.type "tuple",data:=.seq items }) h.objs.size items:=⟨IsTup.new _ _,_,QV _ rfl,rfl⟩
section
variable(P:Program)(w:World)
def bO(H:Hp)(h:Heap)(a:Addr):HO->Prop
 | .lst xs=>xs.length<=QD/\∃(its:List Value)(n:Nat),Vals xs its/\h.get? a=some { cls:=.type "list",data:=.seq its.toArray n }
 | .tup xs=>xs.length<=QD/\∃ its:List Value,Vals xs its/\nB h a its.toArray
 | .dK kvs=>kvs.length<=QD/\(a==sysModules)=false/\∃ vs,KV kvs vs/\h.DictOf (br P w) a vs
 | .dT kvs=>kvs.length<=QD/\(a==sysModules)=false/\∃ xs:List (List Key×Addr×Value),
   Paired (fun(p:List Key×V)(q:List Key×Addr×Value)=>p.1=q.1/\H q.2.1=some (.tup (p.1.map kV))/\RelV p.2 q.2.2) kvs xs /\
   ∃ o es ep,h.get? a=some o/\o.ExactDict/\o.data = .dict es ep/\es.toList=xs.map (entryOfKey (tupleKind (br P w)))/\(xs.map (·.1)).Nodup
 | .set S n=>h.SetOf (intKind P w) a S n
 | .ins C dx fs=>H dx=some (.own a)/\fs.length<=1000/\dx≠a/\h.get? a=some (W.instObj C dx) /\
   ∃ mA,h.Ns1 dx mA/\(∀ f,jt (fs.lookup f) (mA f))/\PySem.Within mA (fs.map (·.1))
 | .own _=>∃ o,h.get? a=some o
 | .xd fs=>∃ mA,h.Ns1 a mA/\∀ f,jt (fs.lookup f) (mA f)
 | .room x=>∃(its:List Value)(n:Nat),Vals [.int x] its/\h.get? a=some { cls:=.type "list",data:=.seq its.toArray n }
 | .rng lo hi=>∃ t u v,h.get? a=some { cls:=.type "range",data:=.fields #[.int lo t,.int hi u,.int 1 v] }
 | .frz o u=>h.get? a=some o/\bO H h a u
 | .tbl ps=>h.get? a=some { cls:=.none,data:=.fields ps }
 | .met f x=>h.get? a=some (W.methodObj (.ref f) (.ref x))
 | .ext φ=>φ h/\(∃ o,h.get? a=some o)/\∀ h1 h2:Heap,φ h1 ->(∀ o,h1.get? a=some o->h2.get? a=some o)->φ h2
def HOk(H:Hp)(h:Heap):Prop:=∀ a o,H a=some o->bO P w H h a o
end
section
variable{P:Program}{w:World}{H':Hp}{h h':Heap}{o:HO}
theorem bO.lt(x:bO P w H h a o):a<h.objs.size:=by
 cases o with
 | lst xs=>obtain⟨_,_,_,_,e⟩:=x;exact QW e
 | tup xs=>obtain⟨_,_,_,p⟩:=x;exact p.1.lt
 | dK kvs=>obtain⟨_,_,_,_,o,_,_,e,_⟩:=x;exact QW e
 | dT kvs=>obtain⟨_,_,_,_,o,_,_,e,_⟩:=x;exact QW e
 | set S n=>obtain⟨o,_,_,_,e,_⟩:=x;exact QW e
 | ins C dx fs=>obtain⟨_,_,_,e,_⟩:=x;exact QW e
 | own y=>obtain⟨_,e⟩:=x;exact QW e
 | xd fs=>obtain⟨_,⟨_,_,_,e,_⟩,_⟩:=x;exact QW e
 | room x'=>obtain⟨_,_,_,e⟩:=x;exact QW e
 | rng lo hi=>obtain⟨_,_,_,e⟩:=x;exact QW e
 | frz ob u=>obtain⟨e,_⟩:=x;exact QW e
 | tbl ps=>exact QW (show h.get? a=some _ from x)
 | met f y=>exact QW (show h.get? a=some _ from x)
 | ext φ=>obtain⟨_,⟨_,e⟩,_⟩:=x;exact QW e
theorem Paired.KY{α β:Type}{F G:α->β->Prop}:∀{l₁:List α}{l₂:List β},Paired F l₁ l₂ ->(∀ a b,F a b->G a b)->Paired G l₁ l₂
 | _,_,.nil,_=>.nil
 | _,_,.cons r t,f=>.cons (f _ _ r) (Paired.KY t f)
theorem bO.cL(x:bO P w H h a o)(k:∀ b u,(b=a\/H b=some (.own a))->h.get? b=some u->h'.get? b=some u)
  (ho:∀ b,H b=some (.own a)->H' b=some (.own a)) (ht:∀ b xs,H b=some (.tup xs)->H' b=some (.tup xs)):bO P w H' h' a o:=by
 induction o with
 | lst xs=>obtain⟨z,its,n,r,e⟩:=x;exact⟨z,its,n,r,k _ _ (.inl rfl) e⟩
 | tup xs=>obtain⟨z,its,r,⟨ob,e,c⟩,o2,e2,d2⟩:=x;exact⟨z,its,r,⟨ob,k _ _ (.inl rfl) e,c⟩,o2,k _ _ (.inl rfl) e2,d2⟩
 | dK kvs=>obtain⟨z,y,vs,r,ob,es,ep,e,c⟩:=x;exact⟨z,y,vs,r,ob,es,ep,k _ _ (.inl rfl) e,c⟩
 | dT kvs =>
  obtain⟨z,y,xs,r,ob,es,ep,e,c⟩:=x;exact⟨z,y,xs,Paired.KY r fun p q z=>⟨z.1,ht _ _ z.2.1,z.2.2⟩,ob,es,ep,k _ _ (.inl rfl) e,c⟩
 | set S n=>obtain⟨ob,es,ep,t,e,c⟩:=x;exact⟨ob,es,ep,t,k _ _ (.inl rfl) e,c⟩
 | ins C dx fs =>
  obtain⟨d,z,ne,e,mA,⟨od,es,ep,e2,c⟩,r⟩:=x;exact⟨ho _ d,z,ne,k _ _ (.inl rfl) e,mA,⟨od,es,ep,k _ _ (.inr d) e2,c⟩,r⟩
 | own y=>obtain⟨ob,e⟩:=x;exact⟨ob,k _ _ (.inl rfl) e⟩
 | xd fs=>obtain⟨mA,⟨od,es,ep,e,c⟩,r⟩:=x;exact⟨mA,⟨od,es,ep,k _ _ (.inl rfl) e,c⟩,r⟩
 | room x'=>obtain⟨t,u,v,e⟩:=x;exact⟨t,u,v,k _ _ (.inl rfl) e⟩
 | rng lo hi=>obtain⟨t,u,v,e⟩:=x;exact⟨t,u,v,k _ _ (.inl rfl) e⟩
 | frz ob u ih=>obtain⟨e,q⟩:=x;exact⟨k _ _ (.inl rfl) e,ih q⟩
 | tbl ps =>
  have e:h.get? a=some { cls:=.none,data:=.fields ps }:=x;show h'.get? a=some { cls:=.none,data:=.fields ps };exact k a _ (.inl rfl) e
 | met f y =>
  have e:h.get? a=some (W.methodObj (.ref f) (.ref y)):=x;show h'.get? a=some (W.methodObj (.ref f) (.ref y));exact k a _ (.inl rfl) e
 | ext φ=>obtain⟨p,⟨o,e⟩,st⟩:=x;exact⟨st _ _ p fun o q=>k _ _ (.inl rfl) q,⟨o,k _ _ (.inl rfl) e⟩,st⟩
theorem HOk.lt(x:HOk P w H h)(e:H a=some o):a<h.objs.size:=(x a o e).lt
theorem HOk.fresh(x:HOk P w H h)(e:h.objs.size<=a):H a=none:=by
 cases q:H a with
 | none=>rfl
 | some u=>exact absurd (Q8 (x.lt q) e) (RZ _)
theorem HOk.kept(x:HOk P w H h)(k:∀ b u,h.get? b=some u->h'.get? b=some u):HOk P w H h':=fun a o e =>
 (x a o e).cL (fun b u _ q=>k b u q) (fun _ q=>q) fun _ _ q=>q
theorem HOk.laid(x:HOk P w H h)(k:∀ b u,h.get? b=some u->h'.get? b=some u)(hp:h.objs.size<=a)(new:bO P w (upd H a o) h' a o):HOk P w (upd H a o) h':=fun b u e=>by
 have hn:=x.fresh hp;by_cases hb:b=a
 ·subst hb;rw[ar]at e;cases e;exact new
 ·rw[ah hb]at e;exact(x b u e).cL (fun c v _ q=>k c v q) (fun c q=>by rw[ah (aH q hn)];exact q) fun c xs q=>by rw[ah (aH q hn)];exact q
end
def Rd(H:Hp)(a:Addr)(u:HO):Prop:=H a=some u\/∃ o,H a=some (.frz o u)
variable{P:Program}
theorem Rd.ok{w:World}{h:Heap}{u:HO}(r:Rd H a u)(x:HOk P w H h):bO P w H h a u:=by
 rcases r with r |⟨o,r⟩
 ·exact x a u r
 ·obtain⟨_,q⟩:=x a _ r;exact q
def Mut:Option HO->Prop
 | some (.lst _)=>True
 | some (.dK _)=>True
 | some (.dT _)=>True
 | some (.set _ _)=>True
 | some (.ins _ _ _)=>True
 | some (.ext _)=>True
 | some (.room _)=>True
 | _=>False
section
variable{w:World}{h h':Heap}{x e:Addr}{o':HO}
theorem HOk.write(ok:HOk P w H h)(mu:Mut (H x))(he:e=x\/H e=some (.own x))(k:∀ b u,b≠e->h.get? b=some u->h'.get? b=some u)(heo:∃ u,h'.get? e=some u)
  (new:bO P w (upd H x o') h' x o'):HOk P w (upd H x o') h':=fun b u q=>by
 have Nh:∀ c y,H c=some (.own y)->c≠x:=fun c y r z=>by subst z;rw[r]at mu;exact mu
 have PD:∀ c xs,H c=some (.tup xs)->c≠x:=fun c xs r z=>by subst z;rw[r]at mu;exact mu
 by_cases hb:b=x
 ·subst hb;rw[ar]at q;cases q;exact new
 ·rw[ah hb]at q;by_cases hbe:b=e
  ·have q':H b=some (.own x):=by
    rcases he with z|z
    ·exact absurd (hbe.trans z) hb
    ·rw[hbe];exact z
   rw[q]at q';cases q';obtain⟨v,hv⟩:=heo;exact⟨v,by rw[hbe];exact hv⟩
  ·refine(ok b u q).cL (fun c v hc r=>k c v ?_ r) (fun c r=>by rw[ah (Nh c b r)];exact r) fun c xs r=>by rw[ah (PD c xs r)];exact r
   rcases hc with rfl|hc
   ·exact hbe
   ·rintro rfl
    rcases he with z|z
    ·exact Nh c b hc z
    ·rw[hc]at z;cases z;exact hb rfl
end
structure Un(fs ex:List Addr)(H H':Hp)(h h':Heap):Prop where
 keep:∀ b o,h.get? b=some o->H b=none->b ∉ fs->b ∉ ex->h'.get? b=some o
 slot:∀ b o,h.get? b=some o->H b=none->b∈fs->b ∉ ex->∃ sl,h'.get? b=some { o with slots:=sl }
 free:∀ b o,h.get? b=some o->H b=none->b ∉ ex->H' b=none
 there:∀ b o,h.get? b=some o->b ∉ ex->∃ o',h'.get? b=some o'
 oJ:∀ b xs,H b=some (.tup xs)->H' b=some (.tup xs)
 mY:∀ b o u,H b=some (.frz o u)->H' b=some (.frz o u)
 oK:∀ b ps,H b=some (.tbl ps)->∃ more,H' b=some (.tbl (ps++more))
section
variable{fs fs' ex ex':List Addr}{H1 H2:Hp}{h h1 h2 h':Heap}{x e:Addr}{o:HO}
theorem Un.any(u:Un fs ex H H1 h h1){b:Addr}{ob:Obj}(q:h.get? b=some ob)(n:H b=none)(hx:b ∉ ex):∃ sl,h1.get? b=some { ob with slots:=sl }:=by
 by_cases hb:b∈fs
 ·exact u.slot b ob q n hb hx
 ·exact⟨ob.slots,u.keep b ob q n hb hx⟩
theorem Un.kept(k:∀ b u,h.get? b=some u->h'.get? b=some u):Un fs ex H H h h' :=
 ⟨fun b ob q _ _ _=>k b ob q,fun b ob q _ _ _=>⟨ob.slots,k b ob q⟩,fun _ _ _ n _=>n,fun b ob q _=>⟨ob,k b ob q⟩,fun _ _ q=>q,fun _ _ _ q=>q,fun _ ps q=>⟨#[],by rw[q];simp⟩⟩
theorem Un.refl:Un fs ex H H h h:=Un.kept fun _ _ q=>q
theorem Un.laid(k:∀ b u,h.get? b=some u->h'.get? b=some u)(hp:h.objs.size<=a)(hn:H a=none):Un fs ex H (upd H a o) h h' where
 keep:=fun b u q _ _ _=>k b u q
 slot:=fun b u q _ _ _=>⟨u.slots,k b u q⟩
 free:=fun b u q n _=>by rw[ah (Rg (Q8 (QW q) hp))];exact n
 there:=fun b u q _=>⟨u,k b u q⟩
 oJ:=fun b xs q=>by rw[ah (aH q hn)];exact q
 mY:=fun b u xs q=>by rw[ah (aH q hn)];exact q
 oK:=fun b ps q=>⟨#[],by rw[ah (aH q hn),q];simp⟩
theorem Un.write(mu:Mut (H x))(he:e=x\/H e=some (.own x))(k:∀ b u,b≠e->h.get? b=some u->h'.get? b=some u)(heo:∃ u,h'.get? e=some u):Un fs ex H (upd H x o) h h':=by
 have hx:∀ b,H b=none->b≠x:=fun b n z=>by subst z;rw[n]at mu;exact mu
 have hb:∀ b,H b=none->b≠e:=fun b n z=>by
  subst z;rcases he with r|r
  ·exact hx b n r
  ·rw[n]at r;cases r
 have hm:∀ b u,H b=some u->¬ Mut (some u)->b≠x:=fun b u q nm z=>by subst z;rw[q]at mu;exact nm mu
 refine⟨fun b u q n _ _=>k b u (hb b n) q,fun b u q n _ _=>⟨u.slots,k b u (hb b n) q⟩,fun b u q n _=>by rw[ah (hx b n)];exact n,fun b u q _=>?_,
  fun b xs q=>by rw[ah (hm b _ q fun z=>z)];exact q,fun b u xs q=>by rw[ah (hm b _ q fun z=>z)];exact q,fun b ps q=>⟨#[],by rw[ah (hm b _ q fun z=>z),q];simp⟩⟩
 by_cases hbe:b=e
 ·subst hbe;exact heo
 ·exact⟨u,k b u hbe q⟩
end
def trk(h:Heap)(H:Hp):List Addr:=(Rf h.objs.size).filter fun a=>(H a).isSome
def t6(h:Heap)(H:Hp):Heap:=W.hideAll h (trk h H)
theorem A0(h:Heap)(H:Hp):(t6 h H).objs.size=h.objs.size:=W.hideAll_size _ _
theorem DX{h:Heap}{b:Addr}{o:Obj}(e:h.get? b=some o)(n:H b=none):(t6 h H).get? b=some o :=
 W.hideAll_get _ e fun hm=>by
  have q:(H b).isSome=true:=(SF.mp hm).2;rw[n]at q;simp at q
theorem Hc{h:Heap}{b:Addr}{o:Obj}(e:(t6 h H).get? b=some o):h.get? b=some o/\H b=none:=by
 have e':h.get? b=some o:=W.of_hideAll (trk h H) e;refine⟨e',?_⟩;cases q:H b with
 | none=>rfl
 | some x =>
  have hm:b∈trk h H:=SF.mpr ⟨Sd.mpr (QW e'),by simp[q]⟩
  have z:(t6 h H).get? b=none:=W.hideAll_none (trk h H) hm;rw[z]at e;cases e
structure Mod(K:W.Frag)(mg:Str->Option Value)(base:Heap):Prop where
 kin:K.In base
 glob:base.Ns mainGlobals mg
 blt:∃ mb,base.Ns builtinsNs mb/\∀ x:Str,x ≠ "__name__" -> mb x=bootBuiltins x
 nolimit:base.NoLimit
structure Cx where
 prog:Program
 w:World
 K:W.Frag
 mg:Str->Option Value
 base:Heap
 A:Around
 N:List Str
 s₀:Shared
 H₀:Hp
 env:Env
 outer:List Env
 stack:List Env
 ex:List Addr
 fn:Str->Bool
 calm:Bool
 pn:List (Addr×Obj)
 xe:Value->Shared->Prop
def frs(l:List Env):List Addr:=l.filterMap (·.frame)
abbrev Cx.fs(X:Cx):List Addr:=frs X.outer
def Vis(sc:Scope)(x:Str):Prop:=sc.names.lookup x=some .local\/sc.names.lookup x=some .cell\/sc.names.lookup x=some .free
def Loc(sc:Scope)(x:Str):Prop:=sc.names.lookup x=some .local\/sc.names.lookup x=some .cell
def Look(env:Env)(h:Heap)(m:Str->Option Value)(x:Str)(u:Value):Prop :=
 (env.kindOf x=some .local/\m x=some u)\/((env.kindOf x=some .cell\/env.kindOf x=some .free)/\∃ c,env.cells.lookup x=some c/\h.IsCell c (some u))
structure Cx.Ok(X:Cx):Prop where
 mod:Mod X.K X.mg X.base
 kind:X.env.scope.kind = .function
 glob:X.env.globals=mainGlobals
 blt:X.env.builtins=builtinsNs
 above:X.s₀.heap.objs.size<=X.env.locals
 inj:∀ x y c,X.env.cells.lookup x=some c->X.env.cells.lookup y=some c->x=y
 has:∀ x,(X.env.kindOf x=some .cell\/X.env.kindOf x=some .free)->∃ c,X.env.cells.lookup x=some c
 cab:∀ x c,X.fn x=true->X.env.cells.lookup x=some c->X.s₀.heap.objs.size<=c
 hd:X.calm=true->X.A.handled=none
 frames:X.A.frames=some X.stack
 stk:X.stack=X.outer\/(X.stack=X.env::X.outer/\X.env.frame=some X.env.locals)
 exf:∀ b∈X.ex,b≠X.env.locals/\∀ x c,X.env.cells.lookup x=some c->c≠b
 bs:∀ b o,X.base.get? b=some o->X.s₀.heap.get? b=some o/\X.H₀ b=none
 bsz:X.base.objs.size<=X.s₀.heap.objs.size
 Dt:∀ b o,X.base.get? b=some o->b ∉ X.ex
 HR:∀ b∈X.ex,b ∉ X.fs
 nY:X.s₀.heap.FunFrames X.base X.outer
 frf:∀ b∈X.fs,X.H₀ b=none
structure Inv(X:Cx)(j0:List (Addr×Obj))(σ:List (Option V))(H:Hp)(s:Shared):Prop where
 ok:X.Ok
 os:s.os=X.s₀.os
 bare:AllBare s.gens
 base:Un X.fs X.ex X.H₀ H X.s₀.heap s.heap
 loc:∃ m,s.heap.Ns X.env.locals m/\∀(i:Nat)(x:Str)(v:V),X.N[i]? = some x->σ[i]? = some (some v)->Vis X.env.scope x->∃ u,RelV v u/\Look X.env s.heap m x u
 cell:∀ x c,X.env.cells.lookup x=some c->∃ v,s.heap.IsCell c v
 free:H X.env.locals=none
 gx:∀ x c,X.env.cells.lookup x=some c->H c=none
 pin:∀ p∈X.pn++j0,s.heap.get? p.1=some p.2/\H p.1=none/\p.1≠X.env.locals/\p.1 ∉ X.fs/\∀ v,p.2.data ≠ .cell v
 hok:HOk X.prog X.w H s.heap
 len:σ.length=X.N.length
variable{ch:List Addr}{t':Nat}{it:Addr}{N:List Str}{j:Nat}{x:Str}{u:Value}{s':Shared}
section
variable{X:Cx}{j0:List (Addr×Obj)}{σ:List (Option V)}{H':Hp}{s:Shared}{h':Heap}
theorem Cx.Ok.PH(ok:X.Ok){b:Addr}{o:Obj}(e:X.base.get? b=some o):b ∉ X.fs:=fun hb=>by
 have:=(ok.nY.mem hb).1
 rw[e]at this;cases this
theorem Inv.bs(I:Inv X j0 σ H s):∀ b o,X.base.get? b=some o->s.heap.get? b=some o/\H b=none:=fun b o e =>
 ⟨I.base.keep b o (I.ok.bs b o e).1 (I.ok.bs b o e).2 (I.ok.PH e) (I.ok.Dt b o e),I.base.free b o (I.ok.bs b o e).1 (I.ok.bs b o e).2 (I.ok.Dt b o e)⟩
theorem Inv.bk(I:Inv X j0 σ H s):∀ b o,X.base.get? b=some o->s.heap.get? b=some o:=fun b o e=>(I.bs b o e).1
theorem Inv.mod(I:Inv X j0 σ H s):Mod X.K X.mg X.base:=I.ok.mod
theorem Inv.kIn(I:Inv X j0 σ H s):X.K.In s.heap:=I.ok.mod.kin.keeps I.bk
theorem Inv.lt(I:Inv X j0 σ H s):X.env.locals<s.heap.objs.size:=let⟨_,hn,_⟩:=I.loc;hn.lt
theorem Inv.sz(I:Inv X j0 σ H s):X.s₀.heap.objs.size<=s.heap.objs.size:=Ra I.ok.above (RB I.lt)
theorem Inv.Ni(I:Inv X j0 σ H s)(h:s.heap.objs.size<=a):a ∉ X.fs:=fun hb=>by
 obtain⟨_,o,ho,_⟩:=I.ok.nY.mem hb;exact absurd (Q8 (QW ho) (Ra I.sz h)) (RZ _)
theorem Inv.cne(I:Inv X j0 σ H s):∀ x c,X.env.cells.lookup x=some c->c≠X.env.locals:=fun x c e z=>by
 obtain⟨v,o,ho,hd⟩:=I.cell x c e;obtain⟨m,⟨o',es,ep,ho',hd',_⟩,_⟩:=I.loc;rw[z,ho']at ho;cases ho;rw[hd']at hd;cases hd
theorem Inv.nY(I:Inv X j0 σ H s):s.heap.FunFrames X.base X.outer:=by
 have all:∀(l:List Env),(∀ b∈frs l,b∈X.fs)->X.s₀.heap.FunFrames X.base l->s.heap.FunFrames X.base l:=by
  intro l
  induction l with
  | nil=>intro _ _;trivial
  | cons env r ih =>
   intro hs hl;obtain⟨hk,⟨L,o,hf,hn,ho,hd⟩,hr⟩:=hl;have hL:L∈X.fs:=hs L (by unfold frs;rw[SI,hf];exact qr)
   obtain⟨sl,e⟩:=I.base.slot L o ho (I.ok.frf L hL) hL fun z=>I.ok.HR L z hL
   exact⟨hk,⟨L,_,hf,hn,e,hd⟩,ih (fun b hb=>hs b (by unfold frs;rw[SI,hf];exact j5 _ hb)) hr⟩
 exact all X.outer (fun _ hb=>hb) I.ok.nY
theorem Inv.stack(I:Inv X j0 σ H s):s.heap.FunFrames X.base X.stack:=by
 rcases I.ok.stk with e |⟨e,hf⟩
 ·rw[e];exact I.nY
 ·rw[e];obtain⟨m,hn,_⟩:=I.loc;refine .cons (by rw[I.ok.kind];decide) hf hn ?_ I.nY
  exact Heap.get?_none_of_le (Ra I.ok.bsz I.ok.above)
theorem Inv.sg(I:Inv X j0 σ H s):∀ b∈frs X.stack,b∈X.env.locals::X.fs:=fun b hb=>by
 rcases I.ok.stk with e |⟨e,hf⟩
 ·rw[e]at hb;exact j5 _ hb
 ·rw[e]at hb;unfold frs at hb;rw[SI,hf]at hb;exact hb
theorem Inv.yM(I:Inv X j0 σ H s):∀ b∈frs X.stack,H b=none:=fun b hb=>by
 rcases QH.mp (I.sg b hb)with e|hb
 ·rw[e];exact I.free
 ·obtain⟨_,o,ho,_⟩:=I.ok.nY.mem hb;exact I.base.free b o ho (I.ok.frf b hb) fun z=>I.ok.HR b z hb
theorem Inv.step{g':Array GenState}{t':Nat}{d':Drawn}(I:Inv X j0 σ H s)
  (hch:∀ b∈ch,(b∈X.ex\/X.s₀.heap.objs.size<=b)/\b≠X.env.locals/\(∀ x c,X.env.cells.lookup x=some c->c≠b)/\∀ p∈X.pn++j0,p.1≠b)
  (keep:∀ b o,b≠X.env.locals->b ∉ X.fs->b ∉ ch->s.heap.get? b=some o->H b=none->h'.get? b=some o)
  (slot:∀ b o,b≠X.env.locals->b∈X.fs->b ∉ ch->s.heap.get? b=some o->H b=none->∃ sl,h'.get? b=some { o with slots:=sl }) (free:∀ b o,b ∉ ch->s.heap.get? b=some o->H b=none->H' b=none)
  (there:∀ b o,b ∉ ch->s.heap.get? b=some o->∃ o',h'.get? b=some o')
  (oJ:∀ b xs,H b=some (.tup xs)->H' b=some (.tup xs)) (mY:∀ b o u,H b=some (.frz o u)->H' b=some (.frz o u)) (oK:∀ b ps,H b=some (.tbl ps)->∃ more,H' b=some (.tbl (ps++more)))
  (ns:∀ m,s.heap.Ns X.env.locals m->h'.Ns X.env.locals m) (hok:HOk X.prog X.w H' h') (hg:AllBare g') :
  Inv X j0 σ H' { s with heap:=h',gens:=g',drawn:=d',toks:=t' }:=by
 have neL:∀ b o,X.s₀.heap.get? b=some o->b≠X.env.locals:=fun b o e=>Rg (Q8 (QW e) I.ok.above)
 have neC:∀ b o,X.s₀.heap.get? b=some o->b ∉ X.ex->b ∉ ch:=fun b o e hx hb=>by
  rcases(hch b hb).1 with z|z
  ·exact hx z
  ·exact absurd (Q8 (QW e) z) (RZ _)
 have cellK:∀ x c,X.env.cells.lookup x=some c->∀ v,s.heap.IsCell c v->h'.IsCell c v:=fun x c e v ⟨o,ho,hd⟩=>by
  have nch:c ∉ ch:=fun z=>(hch c z).2.2.1 x c e rfl
  by_cases hc:c∈X.fs
  ·obtain⟨sl,q⟩:=slot c o (I.cne x c e) hc nch ho (I.gx x c e);exact⟨_,q,hd⟩
  ·exact⟨o,keep c o (I.cne x c e) hc nch ho (I.gx x c e),hd⟩
 refine⟨I.ok,I.os,hg,⟨fun b o e n hb hx=>?_,fun b o e n hb hx=>?_,fun b o e n hx=>?_,fun b o e hx=>?_,fun b xs e=>oJ b xs (I.base.oJ b xs e),fun b o xs e=>mY b o xs (I.base.mY b o xs e),fun b ps e=>?_⟩,?_,fun x c e=>?_,?_,fun x c e=>?_,fun p hp=>?_,hok,I.len⟩
 ·exact keep b o (neL b o e) hb (neC b o e hx) (I.base.keep b o e n hb hx) (I.base.free b o e n hx)
 ·obtain⟨sl,e1⟩:=I.base.slot b o e n hb hx;obtain⟨sl',e2⟩:=slot b _ (neL b o e) hb (neC b o e hx) e1 (I.base.free b o e n hx);exact⟨sl',e2⟩
 ·obtain⟨o',e1⟩:=I.base.there b o e hx;exact free b o' (neC b o e hx) e1 (I.base.free b o e n hx)
 ·obtain⟨o',e1⟩:=I.base.there b o e hx;exact there b o' (neC b o e hx) e1
 ·obtain⟨m1,e1⟩:=I.base.oK b ps e;obtain⟨m2,e2⟩:=oK b _ e1;exact⟨m1++m2,by rw[e2,Array.append_assoc]⟩
 ·obtain⟨m,hn,hl⟩:=I.loc;refine⟨m,ns m hn,fun i x v e1 e2 e3=>?_⟩
  obtain⟨u,r,l⟩:=hl i x v e1 e2 e3;refine⟨u,r,?_⟩;rcases l with l |⟨k,c,e,z⟩
  ·exact .inl l
  ·exact .inr ⟨k,c,e,cellK x c e _ z⟩
 ·obtain⟨v,z⟩:=I.cell x c e;exact⟨v,cellK x c e v z⟩
 ·obtain⟨m,⟨o,_,_,ho,_⟩,_⟩:=I.loc;exact free _ o (fun z=>(hch _ z).2.1 rfl) ho I.free
 ·obtain⟨v,o,ho,hd⟩:=I.cell x c e;exact free c o (fun z=>(hch c z).2.2.1 x c e rfl) ho (I.gx x c e)
 ·obtain⟨e,n,ne,nf,d⟩:=I.pin p hp;have nch:p.1 ∉ ch:=fun z=>(hch p.1 z).2.2.2 p hp rfl
  exact⟨keep p.1 p.2 ne nf nch e n,free p.1 p.2 nch e n,ne,nf,d⟩
theorem Inv.un(I:Inv X j0 σ H s)(u:Un X.fs [] H H' s.heap h')(hok:HOk X.prog X.w H' h'):Inv X j0 σ H' { s with heap:=h',toks:=t' }:=by
 obtain⟨m,⟨o,es,ep,ho,r⟩,_⟩:=id I.loc;obtain⟨sl,hL⟩:=u.any ho I.free (by simp)
 exact I.step (g':=s.gens) (d':=s.drawn) (ch:=[]) (fun _ z=>nomatch z) (fun b o _ hb _ e n=>u.keep b o e n hb (by simp)) (fun b o _ hb _ e n=>u.slot b o e n hb (by simp)) (fun b o _ e n=>u.free b o e n (by simp)) (fun b o _ e=>u.there b o e (by simp)) u.oJ u.mY u.oK (fun m' hm=>by
  obtain⟨o',es',ep',ho',r'⟩:=hm;rw[ho]at ho';cases ho';exact⟨_,es',ep',hL,r'⟩) hok I.bare
theorem Inv.call{g':Array GenState}{d':Drawn}(I:Inv X j0 σ H s)(u:Un (frs X.stack) ch H H' s.heap h')(hok:HOk X.prog X.w H' h')(hg:AllBare g')
  (hch:∀ b∈ch,(b∈X.ex\/X.s₀.heap.objs.size<=b)/\b≠X.env.locals/\(∀ x c,X.env.cells.lookup x=some c->c≠b)/\∀ p∈X.pn++j0,p.1≠b) :
  Inv X j0 σ H' { s with heap:=h',gens:=g',drawn:=d',toks:=t' }:=by
 obtain⟨m,⟨o,es,ep,ho,r⟩,_⟩:=id I.loc;obtain⟨sl,hL⟩:=u.any ho I.free fun z=>(hch _ z).2.1 rfl
 exact I.step (ch:=ch) hch (fun b o hL hb hc e n=>u.keep b o e n (fun z=>(QH.mp (I.sg b z)).elim hL hb) hc) (fun b o _ _ hc e n=>u.any e n hc) (fun b o hc e n=>u.free b o e n hc) (fun b o hc e=>u.there b o e hc) u.oJ u.mY u.oK (fun m' hm=>by
  obtain⟨o',es',ep',ho',r'⟩:=hm;rw[ho]at ho';cases ho';exact⟨_,es',ep',hL,r'⟩) hok hg
theorem Inv.turned(I:Inv X j0 σ H s)(k:∀ b o,b≠it->s.heap.get? b=some o->h'.get? b=some o)(hn:H it=none)(hL:it≠X.env.locals)
  (h1:it∈X.ex\/X.s₀.heap.objs.size<=it) (h2:∀ x c,X.env.cells.lookup x=some c->c≠it) (h3:∀ p∈X.pn++j0,p.1≠it):Inv X j0 σ H { s with heap:=h',toks:=t' }:=by
 have nit:∀ b u,H b=some u->b≠it:=fun b u e z=>by rw[z,hn]at e;cases e
 refine I.step (g':=s.gens) (d':=s.drawn) (ch:=[it]) (fun b hb=>?_) (fun b o _ _ hc e _=>k b o (fun z=>hc (by simp[z])) e) (fun b o _ _ hc e _=>⟨o.slots,k b o (fun z=>hc (by simp[z])) e⟩) (fun _ _ _ _ n=>n)
  (fun b o hc e=>⟨o,k b o (fun z=>hc (by simp[z])) e⟩) (fun _ _ e=>e) (fun _ _ _ e=>e) (fun b ps e=>⟨#[],by rw[e];simp⟩) (fun m hm=>?_) (fun b u e=>?_) I.bare
 ·have e:b=it:=by simpa using hb
  subst e;exact⟨h1,hL,h2,h3⟩
 ·obtain⟨o,es,ep,ho,r⟩:=hm;exact⟨o,es,ep,k _ o (Ne.symm hL) ho,r⟩
 ·refine(I.hok b u e).cL (fun c v hc q=>k c v ?_ q) (fun _ q=>q) fun _ _ q=>q
  rcases hc with z|z
  ·rw[z];exact nit b u e
  ·exact nit c _ z
theorem Inv.tok(I:Inv X j0 σ H s)(t:Nat):Inv X j0 σ H { s with toks:=t }:=I.un (h':=s.heap) (t':=t) Un.refl I.hok
theorem Inv.kept{t':Nat}(I:Inv X j0 σ H s)(k:∀ b u,s.heap.get? b=some u->h'.get? b=some u):Inv X j0 σ H { s with heap:=h',toks:=t' }:=I.un (Un.kept k) (I.hok.kept k)
theorem Inv.laid{a:Addr}{o:HO}{t':Nat}(I:Inv X j0 σ H s)(k:∀ b u,s.heap.get? b=some u->h'.get? b=some u)(hp:s.heap.objs.size<=a)(new:bO X.prog X.w (upd H a o) h' a o) :
  Inv X j0 σ (upd H a o) { s with heap:=h',toks:=t' }:=I.un (Un.laid k hp (I.hok.fresh hp)) (I.hok.laid k hp new)
theorem Inv.write{x e:Addr}{o:HO}{t':Nat}(I:Inv X j0 σ H s)(mu:Mut (H x))(he:e=x\/H e=some (.own x))(k:∀ b u,b≠e->s.heap.get? b=some u->h'.get? b=some u)(heo:∃ u,h'.get? e=some u)
  (new:bO X.prog X.w (upd H x o) h' x o):Inv X j0 σ (upd H x o) { s with heap:=h',toks:=t' }:=I.un (Un.write mu he k heo) (I.hok.write mu he k heo new)
theorem Inv.lZ{pins':List (Addr×Obj)}(I:Inv X j0 σ H s)(h:∀ p∈pins',s.heap.get? p.1=some p.2/\H p.1=none/\p.1≠X.env.locals/\p.1 ∉ X.fs/\∀ v,p.2.data ≠ .cell v):Inv X pins' σ H s :=
 ⟨I.ok,I.os,I.bare,I.base,I.loc,I.cell,I.free,I.gx,fun p hp=>(Q7.mp hp).elim (fun z=>I.pin p (QP _ z)) (h p),I.hok,I.len⟩
theorem vv(hN:N.Nodup){i:Nat}(a:N[i]? = some x)(b:N[j]? = some x):i=j:=by
 obtain⟨h1,e1⟩:=Qx.mp a;obtain⟨h2,e2⟩:=Qx.mp b;exact(List.getElem_inj hN).mp (e1.trans e2.symm)
theorem zZ{M:Model}{A:Around}{E:Value->Shared->Prop}{i:Nat}{v:V}{Q:Unit->Shared->Prop}(I:Inv X j0 σ H s)(hN:X.N.Nodup)(hi:X.N[i]? = some x)(hx:Loc X.env.scope x)(r:RelV v u)
  (h:∀ s',Inv X j0 (σ.set i (some v)) H s' ->(∃ a,R8 a s.heap s'.heap/\(a=X.env.locals\/X.env.cells.lookup x=some a))->Q () s') (hf:X.fn x=true\/X.env.scope.names.lookup x=some .local:=by first|exact .inl rfl|exact .inr rfl|assumption):wpAny M A (storeName X.env x u) Q E s:=by
 obtain⟨m,hn,hl⟩:=id I.loc;have Qd:(X.env.scope.kind == .class ||(X.env.scope.kind == .module&&X.env.locals != X.env.globals))=false:=by rw[I.ok.kind];rfl
 have hiσ:i < σ.length:=by rw[I.len];exact(Qx.mp hi).1
 have cne:=I.cne;have tracked:∀{a:Addr}{h':Heap},(∃ o,s.heap.get? a=some o/\H a=none)->R8 a s.heap h'->HOk X.prog X.w H h':=fun{a h'} ha hs b ob e=>by
  obtain⟨_,_,jl⟩:=ha;refine(I.hok b ob e).cL (fun c w' hc q=>(hs.2 c ?_).trans q) (fun _ q=>q) fun _ _ q=>q
  rintro rfl
  rcases hc with rfl|hc
  ·rw[jl]at e;cases e
  ·rw[jl]at hc;cases hc
 rcases hx with hk|hk
 ·refine wpAny_storeName_local hk hn (fun h' hn' hs=>?_) Qd
  obtain⟨oL,_,_,hoL,_⟩:=id hn;refine h _ ⟨I.ok,I.os,I.bare,⟨fun b o e n hb hx=>?_,fun b o e n hb hx=>?_,I.base.free,fun b o e hx=>?_,I.base.oJ,I.base.mY,I.base.oK⟩,⟨_,hn',fun j y v' e1 e2 e3=>?_⟩,fun y c e=>?_,I.free,I.gx,fun p hp=>?_,tracked ⟨oL,hoL,I.free⟩ hs,by simpa using I.len⟩ ⟨_,hs,.inl rfl⟩
  ·exact(hs.2 b (Rg (Q8 (QW e) I.ok.above))).trans (I.base.keep b o e n hb hx)
  ·obtain⟨sl,e1⟩:=I.base.slot b o e n hb hx;exact⟨sl,(hs.2 b (Rg (Q8 (QW e) I.ok.above))).trans e1⟩
  ·obtain⟨o',e1⟩:=I.base.there b o e hx;exact⟨o',(hs.2 b (Rg (Q8 (QW e) I.ok.above))).trans e1⟩
  ·by_cases hj:j=i
   ·subst hj;rw[hi]at e1;cases e1;rw[Rx hiσ]at e2;cases e2;exact⟨u,r,.inl ⟨hk,by simp⟩⟩
   ·rw[Rq (Ne.symm hj)]at e2;obtain⟨u',r',q⟩:=hl j y v' e1 e2 e3;refine⟨u',r',?_⟩;rcases q with⟨k,e⟩ |⟨k,c,e,z⟩
    ·refine .inl ⟨k,?_⟩
     have:y≠x:=fun e=>hj (vv hN e1 (e▸hi))
     simp[this,e]
    ·exact .inr ⟨k,c,e,z.sameBut hs (cne y c e)⟩
  ·obtain⟨w',z⟩:=I.cell y c e;exact⟨w',z.sameBut hs (cne y c e)⟩
  ·obtain⟨e,n,ne,nf,d⟩:=I.pin p hp;exact⟨(hs.2 p.1 ne).trans e,n,ne,nf,d⟩
 ·have hfn:X.fn x=true:=by
   rcases hf with z|z
   ·exact z
   ·rw[z]at hk;cases hk
  obtain⟨c,hc⟩:=I.ok.has x (.inl hk);obtain⟨w',z⟩:=I.cell x c hc;refine wpAny_storeName_cell I.ok.kind hk hc z (fun h' hc' hs=>?_)
  obtain⟨oc,hoc,P6⟩:=id z;refine h { s with heap:=h' } ⟨I.ok,I.os,I.bare,⟨fun b o e n hb hx=>?_,fun b o e n hb hx=>?_,I.base.free,fun b o e hx=>?_,I.base.oJ,I.base.mY,I.base.oK⟩,⟨m,hn.sameBut hs (Ne.symm (cne x c hc)),fun j y v' e1 e2 e3=>?_⟩,fun y c' e=>?_,I.free,I.gx,fun p hp=>?_,tracked ⟨oc,hoc,I.gx x c hc⟩ hs,by simpa using I.len⟩ ⟨c,hs,.inr hc⟩
  ·exact(hs.2 b (Rg (Q8 (QW e) (I.ok.cab x c hfn hc)))).trans (I.base.keep b o e n hb hx)
  ·obtain⟨sl,e1⟩:=I.base.slot b o e n hb hx;exact⟨sl,(hs.2 b (Rg (Q8 (QW e) (I.ok.cab x c hfn hc)))).trans e1⟩
  ·obtain⟨o',e1⟩:=I.base.there b o e hx;exact⟨o',(hs.2 b (Rg (Q8 (QW e) (I.ok.cab x c hfn hc)))).trans e1⟩
  ·by_cases hj:j=i
   ·subst hj;rw[hi]at e1;cases e1;rw[Rx hiσ]at e2;cases e2;exact⟨u,r,.inr ⟨.inl hk,c,hc,hc'⟩⟩
   ·rw[Rq (Ne.symm hj)]at e2;obtain⟨u',r',q⟩:=hl j y v' e1 e2 e3;refine⟨u',r',?_⟩;rcases q with q |⟨k,c',e,z'⟩
    ·exact .inl q
    ·refine .inr ⟨k,c',e,z'.sameBut hs ?_⟩
     rintro rfl
     exact hj (vv hN e1 (I.ok.inj _ _ _ e hc▸hi))
  ·by_cases hcc:c'=c
   ·subst hcc;exact⟨_,hc'⟩
   ·obtain⟨w2,z2⟩:=I.cell y c' e;exact⟨w2,z2.sameBut hs hcc⟩
  ·obtain⟨e,n,ne,nf,d⟩:=I.pin p hp;refine⟨(hs.2 p.1 ?_).trans e,n,ne,nf,d⟩;intro q;rw[q,hoc]at e;have q':oc=p.2:=Option.some.inj e;exact d w' (by rw[<- q'];exact P6)
theorem lF{M:Model}{A:Around}{E:Value->Shared->Prop}{i:Nat}{v:V}{Q:Unit->Shared->Prop}(I:Inv X j0 σ H s)(hN:X.N.Nodup)(hi:X.N[i]? = some x)(hx:Loc X.env.scope x)(r:RelV v u)
  (h:∀ s',Inv X j0 (σ.set i (some v)) H s'->Q () s') (hf:X.fn x=true\/X.env.scope.names.lookup x=some .local:=by first|exact .inl rfl|exact .inr rfl|assumption):wpAny M A (storeName X.env x u) Q E s :=
 zZ I hN hi hx r (fun s' I' _=>h s' I') hf
theorem Inv.NV(I:Inv X j0 σ H s)(ho:s'.os=s.os)(u:Un (frs X.stack) ch H H' s.heap s'.heap)(hok:HOk X.prog X.w H' s'.heap)(hg:AllBare s'.gens)
  (hch:∀ b∈ch,(b∈X.ex\/X.s₀.heap.objs.size<=b)/\b≠X.env.locals/\(∀ x c,X.env.cells.lookup x=some c->c≠b)/\∀ p∈X.pn++j0,p.1≠b):Inv X j0 σ H' s':=by
 obtain⟨h',g',d',t',o'⟩:=s';have e:o'=s.os:=ho;subst e;exact I.call (g':=g') (t':=t') (d':=d') u hok hg hch
end
abbrev XK:=Value->Option Addr->Hp->Prop
abbrev St:=List (Option V)
abbrev VK:=V->Hp->Prop
abbrev TE:=St->Hp->VK->Prop
abbrev TT:=St->Hp ->(Bool->Hp->Prop)->Prop
abbrev TA:=St->Hp ->(List V->Hp->Prop)->Prop
structure Ends where
 nx:St->Hp->Prop
 rt:VK
 bk:St->Hp->Prop:=fun _ _=>False
 ct:St->Hp->Prop:=fun _ _=>False
abbrev TS:=Ends->St->Hp->Prop
def EP(X:Cx)(j0:List (Addr×Obj))(σ:St)(Q:VK)(u:Value)(s':Shared):Prop:=∃ v H',Inv X j0 σ H' s'/\RelV v u/\Q v H'
def TP(X:Cx)(j0:List (Addr×Obj))(σ:St)(Q:Bool->Hp->Prop)(b:Bool)(s':Shared):Prop:=∃ H',Inv X j0 σ H' s'/\Q b H'
def AP(X:Cx)(j0:List (Addr×Obj))(σ:St)(Q:List V->Hp->Prop)(us:List Value)(s':Shared):Prop:=∃ vs H',Inv X j0 σ H' s'/\Vals vs us/\Q vs H'
def SP(X:Cx)(j0:List (Addr×Obj))(D:Ends)(f:Flow)(s':Shared):Prop :=
 match f with
 | .next=>∃ σ' H',Inv X j0 σ' H' s'/\D.nx σ' H'
 | .brk=>∃ σ' H',Inv X j0 σ' H' s'/\D.bk σ' H'
 | .cont=>∃ σ' H',Inv X j0 σ' H' s'/\D.ct σ' H'
 | .ret u=>∃ v σ' H',Inv X j0 σ' H' s'/\RelV v u/\D.rt v H'
def PE(X:Cx)(e:Expr)(t:TE):Prop :=
 ∀(j0:List (Addr×Obj))(s:Shared)(σ:St)(H:Hp)(Q:VK),Inv X j0 σ H s->t σ H Q->wpAny (model X.prog X.w) X.A (eval e X.env) (EP X j0 σ Q) X.xe s
def PT(X:Cx)(e:Expr)(t:TT):Prop :=
 ∀(j0:List (Addr×Obj))(s:Shared)(σ:St)(H:Hp)(Q:Bool->Hp->Prop),Inv X j0 σ H s->t σ H Q->wpAny (model X.prog X.w) X.A (isTrue e X.env (eval e X.env)) (TP X j0 σ Q) X.xe s
def PW(X:Cx)(e:Expr)(t:TT):Prop :=
 ∀(whole:Sem Value)(j0:List (Addr×Obj))(s:Shared)(σ:St)(H:Hp)(Q:Bool->Hp->Prop),Inv X j0 σ H s->t σ H Q->wpAny (model X.prog X.w) X.A (isTrue e X.env whole) (TP X j0 σ Q) X.xe s
variable{X:Cx}{e:Expr}
theorem PW.pt{t:TT}(h:PW X e t):PT X e t:=h _
def PA(X:Cx)(es:List Expr)(t:TA):Prop :=
 ∀(pos:Pos)(j0:List (Addr×Obj))(s:Shared)(σ:St)(H:Hp)(Q:List V->Hp->Prop),Inv X j0 σ H s->t σ H Q->wpAny (model X.prog X.w) X.A (spliced (backTo pos (L9 es X.env))) (AP X j0 σ Q) X.xe s
def PS(X:Cx)(st:Stmt)(t:TS):Prop :=
 ∀(j0:List (Addr×Obj))(s:Shared)(σ:St)(H:Hp)(D:Ends),Inv X j0 σ H s->t D σ H->wpAny (model X.prog X.w) X.A (exec st X.env) (SP X j0 D) X.xe s
def PSs(X:Cx)(st:List Stmt)(t:TS):Prop :=
 ∀(j0:List (Addr×Obj))(s:Shared)(σ:St)(H:Hp)(D:Ends),Inv X j0 σ H s->t D σ H->wpAny (model X.prog X.w) X.A (execs st X.env) (SP X j0 D) X.xe s
variable{M:Model}{A:Around}{E:Value->Shared->Prop}
theorem thn{α:Type}{t:Sem α}{Q Q':α->Shared->Prop}{s:Shared}(h:wpAny M A t Q E s)(hQ:∀ a s,Q a s->Q' a s):wpAny M A t Q' E s:=RD h hQ fun _ _ x=>x
variable{pos:Pos}{j0:List (Addr×Obj)}{Q:Value->Shared->Prop}
section
def di(i:Nat):TE:=fun σ H Q=>∃ v,σ[i]? = some (some v)/\Q v H
def tC(v:V):TE:=fun _ H Q=>Q v H
theorem sS{i:Nat}(hN:X.N[i]? = some x)(hv:Vis X.env.scope x)(hd:(x ==("__debug__":Str))=false:=by decide)(hcd:(x ==("__classdict__":Str))=false:=by decide):PE X (.Name x pos) (di i):=by
 intro j0 s σ H Q I h;obtain⟨v,e,h⟩:=h;obtain⟨m,hn,hl⟩:=I.loc;obtain⟨u,r,l⟩:=hl i x v hN e hv;have fin:EP X j0 σ Q u s:=⟨v,H,I,r,h⟩;rcases l with⟨hk,hm⟩ |⟨hk,c,hc,gu⟩
 ·exact wpAny_Name (wpAny_loadName_local I.ok.kind hk hn hm fin) hd
 ·rcases hk with hk|hk
  ·exact wpAny_Name (wpAny_loadName_cell I.ok.kind hk hc gu fin) hd
  ·exact wpAny_Name (wpAny_loadName_free I.ok.kind hk hc gu fin hcd) hd
theorem a7{i j pos}:PE X (.Constant (.int i) j pos) (tC (.int i)):=fun _ _ _ H _ I h=>wpAny_Constant_int ⟨.int i,H,I.tok _,⟨_,rfl⟩,h⟩
theorem M3{b j pos}:PE X (.Constant (.bool b) j pos) (tC (.bl b)):=fun _ _ _ H _ I h=>Constant_bool ⟨.bl b,H,I,rfl,h⟩
theorem KG{j pos}:PE X (.Constant .none j pos) (tC .non):=fun _ _ _ H _ I h=>Constant_none ⟨.non,H,I,rfl,h⟩
theorem c5{x j pos}:PE X (.Constant (.str x) j pos) (tC (.str x)):=fun _ _ _ H _ I h=>Calls.Constant_str ⟨.str x,H,I.tok _,⟨_,rfl⟩,h⟩
def Gl(X:Cx)(x:Str):Prop:=X.env.kindOf x=some .globalImplicit
theorem oC{E:Value->Shared->Prop}{s:Shared}{σ:St}{pos:Pos}(I:Inv X j0 σ H s)(hg:Gl X x)(hm:X.mg x=some u)(h:Q u s)
  (hd:(x ==("__debug__":Str))=false:=by decide):wpAny (model X.prog X.w) X.A (eval (.Name x pos) X.env) Q E s :=
 Calls.Name_function_global I.ok.kind hg (Calls.loadGlobal_global (by rw[I.ok.glob];exact I.mod.glob.keeps I.bk) hm h) hd
theorem gp{E:Value->Shared->Prop}{s:Shared}{σ:St}{pos:Pos}(I:Inv X j0 σ H s)(hg:Gl X x)(hm:X.mg x=none)(hv:bootBuiltins x=some u)(h:Q u s)
  (hn:x ≠ "__name__":=by decide) (hd:(x ==("__debug__":Str))=false:=by decide):wpAny (model X.prog X.w) X.A (eval (.Name x pos) X.env) Q E s:=by
 obtain⟨mb,h1,h2⟩:=I.mod.blt;exact Calls.Name_function_global I.ok.kind hg (Calls.loadGlobal_builtin (by rw[I.ok.glob];exact I.mod.glob.keeps I.bk) hm (by rw[I.ok.blt];exact h1.keeps I.bk) ((h2 x hn).trans hv) h) hd
theorem GU{v:V}(hg:Gl X x)(hm:X.mg x=some u)(r:RelV v u)(hd:(x ==("__debug__":Str))=false:=by decide):PE X (.Name x pos) (tC v) :=
 fun _ _ _ H _ I h=>oC I hg hm ⟨v,H,I,r,h⟩ hd
variable{a b:Expr}{ta tb:TE}
def tB(t:TE):TT:=fun σ H Q=>t σ H fun x H1=>∃ c,x = .bl c/\Q c H1
theorem Km{t:TE}(h:PE X e t)(he:∀ whole,isTrue e X.env whole =(do let v <- whole;standAt e.pos;holding [v] (truthy v)):=by intro _;rfl):PT X e (tB t):=by
 intro j0 s σ H Q I hw;refine isTrue_plain (thn (h j0 s σ H _ I hw) fun v s1 ⟨x,H1,I1,r1,q1⟩=>?_) (he _)
 obtain⟨d,rfl,q⟩:=q1;cases r1;exact wpAny_truthy_bool ⟨H1,I1,q⟩
variable{tA tB':TT}{rest:List Expr}
def FJ(t u:TT):TT:=fun σ H Q=>t σ H fun c H1=>if c=true then u σ H1 Q else Q false H1
def tOr(t u:TT):TT:=fun σ H Q=>t σ H fun c H1=>if c=true then Q true H1 else u σ H1 Q
theorem sP(ha:PT X a tA):PW X (.BoolOp .And [a] pos) tA:=by
 intro wh j0 s σ H Q I h;refine isTrue_and (thn (ha j0 s σ H Q I h) fun c s1 e=>?_)
 cases c with
 | true=>exact isTrue_and_nil e
 | false=>exact e
theorem Kl(ha:PT X a tA):PW X (.BoolOp .Or [a] pos) tA:=by
 intro wh j0 s σ H Q I h;refine isTrue_or (thn (ha j0 s σ H Q I h) fun c s1 e=>?_)
 cases c with
 | false=>exact isTrue_or_nil e
 | true=>exact e
theorem xf(ha:PT X a tA)(hb:PW X (.BoolOp .And (b::rest) pos) tB'):PW X (.BoolOp .And (a::b::rest) pos) (FJ tA tB'):=by
 intro wh j0 s σ H Q I h;refine isTrue_and (thn (ha j0 s σ H _ I h) fun c s1 hPP=>?_)
 obtain⟨H1,I1,q1⟩:=hPP;cases c with
 | true=>exact hb wh j0 s1 σ H1 Q I1 q1
 | false=>exact⟨H1,I1,q1⟩
theorem MQ(ha:PT X a tA)(hb:PW X (.BoolOp .Or (b::rest) pos) tB'):PW X (.BoolOp .Or (a::b::rest) pos) (tOr tA tB'):=by
 intro wh j0 s σ H Q I h;refine isTrue_or (thn (ha j0 s σ H _ I h) fun c s1 hPP=>?_)
 obtain⟨H1,I1,q1⟩:=hPP;cases c with
 | true=>exact⟨H1,I1,q1⟩
 | false=>exact hb wh j0 s1 σ H1 Q I1 q1
def tIf(t:TT)(ta tb:TE):TE:=fun σ H Q=>t σ H fun c H1=>if c=true then ta σ H1 Q else tb σ H1 Q
theorem C7{c:Expr}(hc:PT X c tA)(ha:PE X a ta)(hb:PE X b tb):PE X (.IfExp c a b pos) (tIf tA ta tb):=by
 intro j0 s σ H Q I h;refine wpAny_IfExp (thn (hc j0 s σ H _ I h) fun d s1 hPP=>?_)
 obtain⟨H1,I1,q1⟩:=hPP;cases d with
 | true=>exact ha j0 s1 σ H1 Q I1 q1
 | false=>exact hb j0 s1 σ H1 Q I1 q1
end
def SqL(K:W.Frag)(H:Hp)(a:Addr)(xs:List V):Prop :=
 Rd H a (.lst xs) \/
  ∃(o:Obj)(its:Array Value)(n:Nat),K.lookup a=some o/\o.cls = .type "list" /\ o.dict=none/\o.data = .seq its n/\its.size<=QD/\Vals xs its.toList
def SqT(K:W.Frag)(H:Hp)(a:Addr)(xs:List V):Prop :=
 Rd H a (.tup xs) \/
  ∃(o:Obj)(its:Array Value)(n:Nat),K.lookup a=some o/\o.cls = .type "tuple" /\ o.data = .seq its n/\its.size<=QD/\Vals xs its.toList
def Qt:Value->Option V
 | .none=>some .non
 | .bool b=>some (.bl b)
 | .int i _=>some (.int i)
 | .str x _=>some (.str x)
 | .bytes b _=>some (.byt b)
 | .float b _=>some (.flt b)
 | .ref a=>some (.ref a)
 | .type n=>some (.ty n)
 | _=>none
theorem RelV.abs{x:V}(r:RelV x u):Qt u=some x:=by
 cases x with
 | non=>cases r;rfl
 | bl _=>cases r;rfl
 | int _=>obtain⟨t,rfl⟩:=r;rfl
 | str _=>obtain⟨t,rfl⟩:=r;rfl
 | byt _=>obtain⟨t,rfl⟩:=r;rfl
 | flt _=>obtain⟨t,rfl⟩:=r;rfl
 | ref _=>cases r;rfl
 | ty _=>cases r;rfl
theorem RelV.inj{x y:V}{u:Value}(r:RelV x u)(q:RelV y u):x=y:=Option.some.inj (r.abs.symm.trans q.abs)
theorem Vals.inj:∀{xs ys:List V}{us:List Value},Vals xs us->Vals ys us->xs=ys:=by
 intro xs ys us h
 induction h generalizing ys with
 | nil=>intro h';cases h';rfl
 | cons r t ih=>intro h';cases h' with|cons r' t'=>rw[r.inj r',ih t']
section
variable{σ:St}{s:Shared}{xs ys:List V}
theorem SqL.of{K:W.Frag}(h:H a=some (.lst xs)):SqL K H a xs:=.inl (.inl h)
theorem SqT.of{K:W.Frag}(h:H a=some (.tup xs)):SqT K H a xs:=.inl (.inl h)
theorem Inv.list(I:Inv X j0 σ H s)(h:SqL X.K H a xs):∃ its:List Value,Vals xs its/\PlainL s.heap a its.toArray/\xs.length<=QD:=by
 rcases h with h |⟨o,its,n,hk,hc,hd,hs,hz,r⟩
 ·obtain⟨z,its,n,r,e⟩:=h.ok I.hok;exact⟨its,r,⟨_,n,e,rfl,rfl,rfl⟩,z⟩
 ·refine⟨its.toList,r,⟨o,n,I.kIn a o hk,hc,hd,by simpa using hs⟩,?_⟩
  have e:=r.length;simp only[Si]at e;omega
theorem Inv.tuple(I:Inv X j0 σ H s)(h:SqT X.K H a xs):∃ its:List Value,Vals xs its/\IsTup s.heap a its.toArray/\xs.length<=QD:=by
 rcases h with h |⟨o,its,n,hk,hc,hs,hz,r⟩
 ·obtain⟨z,its,r,p⟩:=h.ok I.hok;exact⟨its,r,p.1,z⟩
 ·refine⟨its.toList,r,⟨o,I.kIn a o hk,hc,n,by simpa using hs⟩,?_⟩
  have e:=r.length;simp only[Si]at e;omega
theorem Inv.Dz(I:Inv X j0 σ H s)(h:SqL X.K H a xs)(h':SqL X.K H a ys):xs=ys:=by
 obtain⟨its,r,⟨o,n,e,_,_,d⟩,_⟩:=I.list h;obtain⟨its',r',⟨o',n',e',_,_,d'⟩,_⟩:=I.list h';rw[e]at e';cases e';rw[d]at d';injection d' with d1 _
 have:its=its':=by simpa using congrArg Array.toList d1
 subst this;exact r.inj r'
theorem Inv.zY(I:Inv X j0 σ H s)(h:SqT X.K H a xs)(h':SqT X.K H a ys):xs=ys:=by
 obtain⟨its,r,⟨o,e,_,n,d⟩,_⟩:=I.tuple h;obtain⟨its',r',⟨o',e',_,n',d'⟩,_⟩:=I.tuple h';rw[e]at e';cases e';rw[d]at d';injection d' with d1 _
 have:its=its':=by simpa using congrArg Array.toList d1
 subst this;exact r.inj r'
end
abbrev Cx.qD(X:Cx)(E:Value->Shared->Prop):Cx:={ X with xe:=E }
abbrev Cx.nox(X:Cx):Cx:=X.qD fun _ _=>False
theorem Cx.Ok.qD{X:Cx}(ok:X.Ok)(E:Value->Shared->Prop):(X.qD E).Ok :=
 ⟨ok.mod,ok.kind,ok.glob,ok.blt,ok.above,ok.inj,ok.has,ok.cab,ok.hd,ok.frames,ok.stk,ok.exf,ok.bs,ok.bsz,ok.Dt,ok.HR,ok.nY,ok.frf⟩
theorem Cx.Ok.jx(ok:(X.qD E).Ok):X.Ok :=
 ⟨ok.mod,ok.kind,ok.glob,ok.blt,ok.above,ok.inj,ok.has,ok.cab,ok.hd,ok.frames,ok.stk,ok.exf,ok.bs,ok.bsz,ok.Dt,ok.HR,ok.nY,ok.frf⟩
section
variable{σ:St}{s:Shared}
theorem Inv.qD(I:Inv X j0 σ H s)(E:Value->Shared->Prop):Inv (X.qD E) j0 σ H s:=⟨I.ok.qD E,I.os,I.bare,I.base,I.loc,I.cell,I.free,I.gx,I.pin,I.hok,I.len⟩
theorem Inv.jx(I:Inv (X.qD E) j0 σ H s):Inv X j0 σ H s:=⟨I.ok.jx,I.os,I.bare,I.base,I.loc,I.cell,I.free,I.gx,I.pin,I.hok,I.len⟩
theorem SP.jx{D:Ends}{f:Flow}{s':Shared}(h:SP (X.qD E) j0 D f s'):SP X j0 D f s':=by
 cases f with
 | next=>obtain⟨σ',H',I,q⟩:=h;exact⟨σ',H',I.jx,q⟩
 | brk=>obtain⟨σ',H',I,q⟩:=h;exact⟨σ',H',I.jx,q⟩
 | cont=>obtain⟨σ',H',I,q⟩:=h;exact⟨σ',H',I.jx,q⟩
 | ret u=>obtain⟨v,σ',H',I,r,q⟩:=h;exact⟨v,σ',H',I.jx,r,q⟩
theorem PSs.nox{st:List Stmt}{t:TS}(h:PSs X.nox st t):PSs X st t:=fun j0 s σ H D I hw =>
 RD (h j0 s σ H D (I.qD _) hw) (fun _ _ q=>q.jx) fun _ _ z=>False.elim z
end
section
variable{st:Stmt}{rest:List Stmt}{t u:TS}{te:TE}
def yK:TS:=fun D σ H=>D.nx σ H
def L1(t u:TS):TS:=fun D σ H=>t { D with nx:=u D } σ H
theorem y0:PSs X [] yK:=fun _ _ σ H _ I h=>wpAny_execs_nil ⟨σ,H,I,h⟩
theorem bA(h1:PS X st t)(h2:PSs X rest u):PSs X (st::rest) (L1 t u):=by
 intro j0 s σ H D I h;refine wpAny_execs_cons (thn (h1 j0 s σ H { D with nx:=u D } I h) fun f s1 q=>?_)
 cases f with
 | next =>
  obtain⟨σ',H',I',q⟩:=q;exact h2 j0 s1 σ' H' D I' q
 | ret v=>exact q
 | brk=>exact q
 | cont=>exact q
theorem iK(h1:PS X st t):PSs X [st] t:=by
 intro j0 s σ H D I h;refine wpAny_execs_cons (thn (h1 j0 s σ H D I h) fun f s1 q=>?_)
 cases f with
 | next=>exact wpAny_execs_nil q
 | ret v=>exact q
 | brk=>exact q
 | cont=>exact q
theorem GC:PS X (.Pass pos) yK:=fun _ _ σ H _ I h=>wpAny_Pass ⟨σ,H,I,h⟩
theorem Inv.quiet{σ:St}{s:Shared}(I:Inv X j0 σ H s):interactive X.env=false:=by simp[interactive,I.ok.kind]
def kE(te:TE):TS:=fun D σ H=>te σ H fun _ H1=>D.nx σ H1
theorem iM(he:PE X e te)(hs:swapsWith e none pos.line X.env=pure false:=by rfl):PS X (.Expr e pos) (kE te):=by
 intro j0 s σ H D I h;exact wpAny_Expr_any (thn (he j0 s σ H _ I h) fun v s1 ⟨x,H1,I1,r1,q1⟩=>⟨σ,H1,I1,q1⟩) I.quiet hs
def FH(te:TE):TS:=fun D σ H=>te σ H D.rt
theorem mS(he:PE X e te):PS X (.Return (some e) pos) (FH te):=by
 intro j0 s σ H D I h;exact wpAny_Return_some (thn (he j0 s σ H _ I h) fun v s1 ⟨x,H1,I1,r1,q1⟩=>⟨x,σ,H1,I1,r1,q1⟩)
def L4(c:TT)(t u:TS):TS:=fun D σ H=>c σ H fun b H1=>if b=true then t D σ H1 else u D σ H1
theorem Jd{c:Expr}{a b:List Stmt}{tc:TT}(hc:PT X c tc)(ha:PSs X a t)(hb:PSs X b u):PS X (.If c a b pos) (L4 tc t u):=by
 intro j0 s σ H D I h;refine wpAny_If (thn (hc j0 s σ H _ I h) fun d s1 hPP=>?_)
 obtain⟨H1,I1,q1⟩:=hPP;cases d with
 | true=>exact ha j0 s1 σ H1 D I1 q1
 | false=>exact hb j0 s1 σ H1 D I1 q1
end
abbrev TG:=V->St->Hp ->(St->Hp->Prop)->Prop
abbrev TGs:=List V->St->Hp ->(St->Hp->Prop)->Prop
def PG(X:Cx)(target:Expr)(t:TG):Prop :=
 ∀(j0:List (Addr×Obj))(s:Shared)(σ:St)(H:Hp)(v:V)(u:Value)(Q:St->Hp->Prop),Inv X j0 σ H s->RelV v u->t v σ H Q ->
  wpAny (model X.prog X.w) X.A (assign target X.env u) (fun _ s'=>∃ σ' H',Inv X j0 σ' H' s'/\Q σ' H') X.xe s
def PGs(X:Cx)(ts:List Expr)(t:TGs):Prop :=
 ∀(j0:List (Addr×Obj))(s:Shared)(σ:St)(H:Hp)(vs:List V)(us:List Value)(Q:St->Hp->Prop),Inv X j0 σ H s->Vals vs us->t vs σ H Q ->
  wpAny (model X.prog X.w) X.A (assignInOrder ((assignEach ts X.env).map (·.2)) us) (fun _ s'=>∃ σ' H',Inv X j0 σ' H' s'/\Q σ' H') X.xe s
abbrev LB:=V->V->V->Hp ->(Hp->Prop)->Prop
def N8(X:Cx)(t:LB):Prop :=
 ∀(j0:List (Addr×Obj))(s:Shared)(σ:St)(H:Hp)(o i v:V)(ov iv u:Value)(Q:Hp->Prop),Inv X j0 σ H s->RelV o ov->RelV i iv->RelV v u->t o i v H Q ->
  wpAny (model X.prog X.w) X.A (setItem ov iv u) (fun _ s'=>∃ H',Inv X j0 σ H' s'/\Q H') X.xe s
abbrev TIp:=V->V->Hp->VK->Prop
def PIp(X:Cx)(op:Operator)(t:TIp):Prop :=
 ∀(j0:List (Addr×Obj))(s:Shared)(σ:St)(H:Hp)(x y:V)(v u:Value)(Q:VK),Inv X j0 σ H s->RelV x v->RelV y u->t x y H Q ->
  wpAny (model X.prog X.w) X.A (inplaceOp op v u) (EP X j0 σ Q) X.xe s
variable{es:List Expr}{n:Nat}{o:Expr}{to:TE}{tg:Expr}{te:TE}{pos':Pos}{op:Operator}
section
def gw(i:Nat):TG:=fun v σ H Q=>Q (σ.set i (some v)) H
theorem l5{i:Nat}(hN:X.N.Nodup)(hi:X.N[i]? = some x)(hx:Loc X.env.scope x)(hf:X.fn x=true\/X.env.scope.names.lookup x=some .local:=by first|exact .inl rfl|exact .inr rfl|assumption):PG X (.Name x pos) (gw i):=by
 intro j0 s σ H v u Q I r h;exact wpAny_assign_Name (lF I hN hi hx r (fun s' I'=>⟨_,H,I',h⟩) hf)
def Ln:TGs:=fun vs σ H Q=>vs = []/\Q σ H
def zt(t:TG)(u:TGs):TGs:=fun vs σ H Q=>∃ v r,vs=v::r/\t v σ H fun σ' H'=>u r σ' H' Q
theorem y7:PGs X [] Ln:=by
 intro j0 s σ H vs us Q I r h;obtain⟨e,h⟩:=h;subst e;cases r;exact assignInOrder_nil ⟨σ,H,I,h⟩
theorem ix{t:TG}{u:TGs}(h1:PG X e t)(h2:PGs X es u)
  (hs:(assignEach (e::es) X.env).map (·.2)=assign e X.env ::(assignEach es X.env).map (·.2):=by rfl):PGs X (e::es) (zt t u):=by
 intro j0 s σ H vs us Q I r h;obtain⟨v,vr,e1,h⟩:=h;subst e1;cases r with
 | cons r rr =>
  rw[hs];refine assignInOrder_cons (thn (h1 j0 s σ H _ _ _ I r h) fun _ s1 hPP=>?_)
  obtain⟨σ1,H1,I1,q1⟩:=hPP;exact h2 j0 s1 σ1 H1 _ _ Q I1 rr q1
def x5(K:W.Frag)(n:Nat)(t:TGs):TG:=fun v σ H Q=>∃ a xs,v = .ref a/\SqT K H a xs/\xs.length=n/\t xs σ H Q
theorem KA{k:Nat}{t:TGs}(hc:X.calm=true)(h:PGs X es t)
  (hn:(assignEach es X.env).length=n:=by rfl) (hst:(assignEach es X.env).findIdx? (·.1)=none:=by rfl):PG X (.Tuple es k pos) (x5 X.K n t):=by
 intro j0 s σ H v u Q I r hw;obtain⟨a,xs,e1,hq,hl,hw⟩:=hw;subst e1;cases r;obtain⟨its,rv,ht,hz⟩:=I.tuple hq;refine assign_Tuple_tuple (I.ok.hd hc) ht (by simp[hn,<- hl,rv.length]) hst fun h' hx=>?_
 have I1:Inv X j0 σ H { s with heap:=h' }:=I.kept (t':=s.toks) fun b o e=>hx b o (Rg (QW e)) e
 exact h j0 _ σ H xs _ Q I1 (by simpa using rv) hw
def Lm(to ti:TE)(t:LB):TG:=fun v σ H Q=>to σ H fun o H1=>ti σ H1 fun i H2=>t o i v H2 fun H3=>Q σ H3
theorem KC{i:Expr}{ti:TE}{t:LB}(ho:PE X o to)(hi:PE X i ti)(hs:N8 X t)
  (ha:∀ v,assign (.Subscript o i pos) X.env v =(do
   let ov <- holding [v] (eval o X.env)
   let iv <- holding [v,ov] (eval i X.env)
   standAt pos
   holding [v,ov,iv] (setItem ov iv v)
   release [v,ov,iv] []):=by intro _;rfl):PG X (.Subscript o i pos) (Lm to ti t):=by
 intro j0 s σ H v u Q I r h;rw[ha];refine j2 (Rn (thn (ho j0 s σ H _ I h) fun ov s1 hPP=>?_))
 obtain⟨x,H1,I1,r1,q1⟩:=hPP;refine j2 (Rn (thn (hi j0 s1 σ H1 _ I1 q1) fun iv s2 hPP=>?_))
 obtain⟨y,H2,I2,r2,q2⟩:=hPP;refine j2 (wpAny_standAt (j2 (Rn (thn (hs j0 s2 σ H2 x y v ov iv u _ I2 r1 r2 r q2) fun _ s3 hPP=>?_))))
 obtain⟨H3,I3,q3⟩:=hPP;exact wpAny_release ⟨σ,H3,I3,q3⟩
def ku(te:TE)(g:TG):TS:=fun D σ H=>te σ H fun x H1=>g x σ H1 D.nx
theorem xh{g:TG}(he:PE X e te)(hg:PG X tg g)(hs:swapsWithSole [tg] e pos.line X.env=pure false:=by rfl)(hw:swappedStores [tg] e X.env=pure none:=by rfl)
  (h1:(assignEach [tg] X.env).map (·.2) = [assign tg X.env]:=by rfl):PS X (.Assign [tg] e pos) (ku te g):=by
 intro j0 s σ H D I h;refine wpAny_Assign_stores (thn (he j0 s σ H _ I h) fun v s1 hPP=>?_) hs hw
 obtain⟨x,H1,I1,r1,q1⟩:=hPP;rw[h1];exact thn (hg j0 s1 σ H1 x v _ I1 r1 q1) fun _ s2 q=>q
theorem iL{i:Nat}(hN:X.N.Nodup)(hi:X.N[i]? = some x)(hx:Loc X.env.scope x)(he:PE X e te)(hs:swapsWith e (some (.Name x pos')) pos.line X.env=pure false:=by rfl)(hf:X.fn x=true\/X.env.scope.names.lookup x=some .local:=by first|exact .inl rfl|exact .inr rfl|assumption) :
  PS X (.Assign [.Name x pos'] e pos) (ku te (gw i)):=by
 intro j0 s σ H D I h;refine wpAny_Assign_Name (thn (he j0 s σ H _ I h) fun v s1 hPP=>?_) hs
 obtain⟨y,H1,I1,r1,q1⟩:=hPP;exact lF I1 hN hi hx r1 (fun s2 I2=>⟨_,H1,I2,q1⟩) hf
def L8(i:Nat)(te:TE)(ti:TIp):TS:=fun D σ H=>∃ x,σ[i]? = some (some x)/\te σ H fun y H1=>ti x y H1 fun z H2=>D.nx (σ.set i (some z)) H2
theorem Kn{i:Nat}{ti:TIp}(hN:X.N.Nodup)(hi:X.N[i]? = some x)(hx:Loc X.env.scope x)(he:PE X e te)(ho:PIp X op ti)(hf:X.fn x=true\/X.env.scope.names.lookup x=some .local:=by first|exact .inl rfl|exact .inr rfl|assumption) :
  PS X (.AugAssign (.Name x pos') op e pos) (L8 i te ti):=by
 intro j0 s σ H D I h;obtain⟨v,e1,h⟩:=h;obtain⟨m,hn,hl⟩:=I.loc;have vis:Vis X.env.scope x:=by rcases hx with k|k;exact .inl k;exact .inr (.inl k)
 obtain⟨u,r,l⟩:=hl i x v hi e1 vis;refine wpAny_AugAssign_Name ?_;have go:wpAny (model X.prog X.w) X.A (eval e X.env) (fun w s₂=>wpAny (model X.prog X.w) X.A (inplaceOp op u w) (fun r s₃=>wpAny (model X.prog X.w) X.A (storeName X.env x r) (fun _=>SP X j0 D .next) X.xe s₃) X.xe s₂) X.xe s:=by
  refine thn (he j0 s σ H _ I h) fun w s1 hPP=>?_
  obtain⟨y,H1,I1,r1,q1⟩:=hPP;refine thn (ho j0 s1 σ H1 v y u w _ I1 r r1 q1) fun z s2 hPP=>?_
  obtain⟨zv,H2,I2,r2,q2⟩:=hPP;exact lF I2 hN hi hx r2 (fun s3 I3=>⟨_,H2,I3,q2⟩) hf
 rcases l with⟨hk,hm⟩ |⟨hk,c,hc,gu⟩
 ·exact wpAny_loadName_local I.ok.kind hk hn hm go
 ·rcases hk with hk|hk
  ·exact wpAny_loadName_cell I.ok.kind hk hc gu go
  ·rcases hx with k|k
   ·have:X.env.scope.names.lookup x=some .free:=hk
    rw[k]at this;cases this
   ·have:X.env.scope.names.lookup x=some .free:=hk
    rw[k]at this;cases this
def ipI(f:Int->Int->Int):TIp:=fun x y H Q=>∃ i j,x = .int i/\y = .int j/\Q (.int (f i j)) H
theorem La:PIp X .Add (ipI fun i j=>i+j):=by
 intro j0 s σ H x y v u Q I r1 r2 h;obtain⟨i,j,e1,e2,q⟩:=h;subst e1;subst e2;obtain⟨t,rfl⟩:=r1;obtain⟨t',rfl⟩:=r2;exact iadd_int ⟨.int _,H,I.tok _,⟨_,rfl⟩,q⟩
end
variable{body:List Stmt}
section
def se(c:TT)(tb:TS):TS:=fun D σ H=>∃ W:Nat->St->Hp->Prop,(∃ m,W m σ H)/\∀ m σ H,W m σ H ->
 c σ H fun b H1=>if b=true then ∃ N:St->Hp->Prop,(∀ σ' H',N σ' H'->∃ m',m'<m/\W m' σ' H')/\tb { D with nx:=N,ct:=N,bk:=D.nx } σ H1 else D.nx σ H1
theorem pf{c:Expr}{tc:TT}{tb:TS}(hp:S8 (model X.prog X.w) X.A X.env X.xe)(hc:PT X c tc)(hb:PSs X body tb):PS X (.While c body [] pos) (se tc tb):=by
 intro j0 s σ H D I h;obtain⟨W,⟨m0,w0⟩,turn⟩:=h;refine wpAny_While (codeAny_whileLoop (fun n s'=>∃ σ' H',Inv X j0 σ' H' s'/\W n σ' H') ?_ m0 ⟨σ,H,I,w0⟩)
 rintro n s1 ⟨σ1,H1,I1,w1⟩
 refine wpAny_passesOwn hp (thn (hc j0 s1 σ1 H1 _ I1 (turn n σ1 H1 w1)) fun b s2 hPP=>?_)
 obtain⟨H2,I2,q2⟩:=hPP;cases b with
 | true =>
  obtain⟨N,hN,q2⟩:=q2;rw[if_pos rfl];refine wpAny_passesOwn hp (thn (hb j0 s2 σ1 H2 _ I2 q2) fun f s3 q3=>?_)
  cases f with
  | next =>
   obtain⟨σ3,H3,I3,n3⟩:=q3;obtain⟨m',hm,w3⟩:=hN σ3 H3 n3;exact⟨m',hm,σ3,H3,I3,w3⟩
  | cont =>
   obtain⟨σ3,H3,I3,n3⟩:=q3;obtain⟨m',hm,w3⟩:=hN σ3 H3 n3;exact⟨m',hm,σ3,H3,I3,w3⟩
  | brk=>exact q3
  | ret v=>exact q3
 | false =>
  rw[if_neg QF];exact wpAny_execs_nil ⟨σ1,H2,I2,q2⟩
end
structure It where
 go:Nat->Hp->Prop
 yld:Nat->Hp->V->Hp->Prop
 stop:Nat->Hp->Prop
def v7(X:Cx)(j0:List (Addr×Obj))(H:Hp)(b:Addr):Prop :=
 H b=none/\b≠X.env.locals/\b ∉ X.fs/\(b∈X.ex\/X.s₀.heap.objs.size<=b)/\(∀ x c,X.env.cells.lookup x=some c->c≠b)/\∀ p∈X.pn++j0,p.1≠b
variable{H':Hp}
theorem Inv.HN{σ:St}{s:Shared}{b:Addr}(I:Inv X j0 σ H s)(hb:s.heap.objs.size<=b)(hn:H' b=none):v7 X j0 H' b:=by
 refine⟨hn,RI (Q8 I.lt hb),I.Ni hb,.inr (Ra I.sz hb),fun x c e z=>?_,fun p hp z=>?_⟩
 ·obtain⟨v,q⟩:=I.cell x c e;exact absurd (Q8 q.lt (by rw[z];exact hb)) (RZ _)
 ·exact absurd (Q8 (QW (I.pin p hp).1) (by rw[z];exact hb)) (RZ _)
structure Turn(P:Program)(w:World)(K:W.Frag)(tg:Expr)(J:It)(fp:List Addr)(it:Addr)(tn:Nat->Heap->Prop):Prop where
 mem:it∈fp
 obj:∀ i h,tn i h->∀ b∈fp,∃ o,h.get? b=some o/\∀ v,o.data ≠ .cell v
 keep:∀ i h h',tn i h ->(∀ b∈fp,∀ o,h.get? b=some o->h'.get? b=some o)->tn i h'
 item:∀(X:Cx),X.prog=P->X.w=w->X.K=K->X.calm=true->∀(i:Nat)(j0:List (Addr×Obj))(s:Shared)(σ:St)(H:Hp)(E:Value->Shared->Prop),Inv X j0 σ H s ->(∀ b∈fp,v7 X j0 H b)->tn i s.heap->J.go i H ->
  wpAny (model P w) X.A (pyNext (.ref it)) (fun r s1=>∃ u,r=some u /\
   wpAny (model P w) X.A (letOwnedTupleGo tg (.ref it) u) (fun _ s2=>∃ x H',Inv X j0 σ H' s2/\RelV x u/\J.yld i H x H'/\tn (i+1) s2.heap/\∀ b∈fp,H' b=none) E s1) E s
 done:∀(X:Cx),X.prog=P->X.w=w->X.K=K->X.calm=true->∀(i:Nat)(j0:List (Addr×Obj))(s:Shared)(σ:St)(H:Hp)(E:Value->Shared->Prop),Inv X j0 σ H s ->(∀ b∈fp,v7 X j0 H b)->tn i s.heap->J.stop i H ->
  wpAny (model P w) X.A (pyNext (.ref it)) (fun r s1=>r=none/\Inv X j0 σ H s1) E s
 self:∀(A:Around)(i:Nat)(s:Shared)(Q:Value->Shared->Prop)(E:Value->Shared->Prop),tn i s.heap->Q (.ref it) s->wpAny (model P w) A (pyIter (.ref it)) Q E s
abbrev TI:=St->Hp ->(It->Hp->Prop)->Prop
def PIE(X:Cx)(j0:List (Addr×Obj))(σ:St)(tg:Expr)(R:It->Hp->Prop)(itv:Value)(s2:Shared):Prop :=
 ∃(it:Addr)(fp:List Addr)(tn:Nat->Heap->Prop)(J:It)(H':Hp),itv = .ref it/\Inv X j0 σ H' s2/\Turn X.prog X.w X.K tg J fp it tn/\tn 0 s2.heap/\(∀ b∈fp,v7 X j0 H' b)/\R J H'
def PI(X:Cx)(tg iter:Expr)(wi:TI):Prop :=
 ∀(j0:List (Addr×Obj))(s:Shared)(σ:St)(H:Hp)(R:It->Hp->Prop),Inv X j0 σ H s->wi σ H R ->
  wpAny (model X.prog X.w) X.A (eval iter X.env) (fun v s1=>wpAny (model X.prog X.w) X.A (pyIter v) (PIE X j0 σ tg R) X.xe s1) X.xe s
theorem zr{s:Shared}{o:Obj}{n:String}{vs:Array Value}{Q:Unit->Shared->Prop}(ho:s.heap.get? it=some o)(hc:o.cls = .type n)(hd:o.data = .fields vs)
  (hn:["enumerate","zip","dict_itemiterator","dict_reverseitemiterator","odict_iterator","itertools.zip_longest","itertools.pairwise"].contains n=false) (hQ:Q () s):wpAny M A (letOwnedTupleGo tg (.ref it) u) Q E s:=by
 unfold letOwnedTupleGo;cases tg <;> first
  | exact Lb hQ
  | (cases u <;> first
    | exact Lb hQ
    | (refine j2 (wpAny_load ho ?_)
       rw[hc,hd];show wpAny M A (if(["enumerate","zip","dict_itemiterator","dict_reverseitemiterator","odict_iterator","itertools.zip_longest","itertools.pairwise"].contains n&&vs[0]? == some (rawInt _))=true then _ else _) Q E s
       rw[if_neg (by intro h;rw[hn,Bool.false_and]at h;cases h)]
       exact Lb hQ))
def Itl(K:W.Frag)(a:Addr):It :=
 ⟨fun i H=>∃ xs x,SqL K H a xs/\xs[i]? = some x,fun i H x H'=>H'=H/\∀ xs,SqL K H a xs->xs[i]? = some x,fun i H=>∃ xs,SqL K H a xs/\xs.length<=i⟩
def Itt(K:W.Frag)(a:Addr):It :=
 ⟨fun i H=>∃ xs x,SqT K H a xs/\xs[i]? = some x,fun i H x H'=>H'=H/\∀ xs,SqT K H a xs->xs[i]? = some x,fun i H=>∃ xs,SqT K H a xs/\xs.length<=i⟩
def Itr(lo:Int)(n:Nat):It:=⟨fun i _=>i<n,fun i H x H'=>H'=H/\x = .int (lo+i),fun i _=>n<=i⟩
theorem zX{w:World}{K:W.Frag}(a it:Addr):Turn P w K tg (Itl K a) [it] it (fun i h=>h.IsListIter it a i) where
 mem:=by simp
 obj:=fun i h st b hb=>by
  have e:b=it:=by simpa using hb
  subst e;obtain⟨o,e,c,d⟩:=st;exact⟨o,e,fun v z=>by rw[d]at z;cases z⟩
 keep:=fun i h h' st k=>st.at fun o e=>k it (by simp) o e
 item:=by
  intro X hP hw hK hc i j0 s σ H E I hf st hg;subst hP hw hK;obtain⟨xs,x,hq,hx⟩:=hg;obtain⟨its,rv,p,hz⟩:=I.list hq;obtain⟨u,hu,ru⟩:=rv.get hx;obtain⟨f0,f1,f2,f3,f4,f5⟩:=hf it (by simp)
  refine wpAny_pyNext_list_item st p.isList (x:=u) (by simpa using hu) fun h' st' sb=>?_
  have I1:Inv X j0 σ H { s with heap:=h' }:=I.turned (t':=s.toks) (fun b o hb e=>(sb.2 b hb).trans e) f0 f1 f3 f4 f5
  obtain⟨o,e,c,d⟩:=id st';exact⟨u,rfl,zr (s:={ s with heap:=h' }) e c d (by decide) ⟨x,H,I1,ru,⟨rfl,fun ys hy=>by rw[I.Dz hy hq];exact hx⟩,st',fun b hb=>(hf b hb).1⟩⟩
 done:=by
  intro X hP hw hK hc i j0 s σ H E I hf st hg;subst hP hw hK;obtain⟨xs,hq,hx⟩:=hg;obtain⟨its,rv,p,hz⟩:=I.list hq;obtain⟨f0,f1,f2,f3,f4,f5⟩:=hf it (by simp)
  have hl:=rv.length;exact wpAny_pyNext_list_end (I.ok.hd hc) st p.isList (by simp;omega) fun h' eb=>⟨rfl,I.turned (t':=s.toks) (fun b o hb e=>eb b o hb e) f0 f1 f3 f4 f5⟩
 self:=fun _ _ _ _ _ st h=>wpAny_pyIter_listiter st h
theorem wA{w:World}{K:W.Frag}(a it:Addr):Turn P w K tg (Itt K a) [it] it (fun i h=>h.IsTupleIter it a i) where
 mem:=by simp
 obj:=fun i h st b hb=>by
  have e:b=it:=by simpa using hb
  subst e;obtain⟨o,e,c,d⟩:=st;exact⟨o,e,fun v z=>by rw[d]at z;cases z⟩
 keep:=fun i h h' st k=>st.at fun o e=>k it (by simp) o e
 item:=by
  intro X hP hw hK hc i j0 s σ H E I hf st hg;subst hP hw hK;obtain⟨xs,x,hq,hx⟩:=hg;obtain⟨its,rv,p,hz⟩:=I.tuple hq;obtain⟨u,hu,ru⟩:=rv.get hx;obtain⟨f0,f1,f2,f3,f4,f5⟩:=hf it (by simp)
  refine wpAny_pyNext_tuple_item st (show s.heap.IsTuple a its.toArray from p) (x:=u) (by simpa using hu) fun h' st' sb=>?_
  have I1:Inv X j0 σ H { s with heap:=h' }:=I.turned (t':=s.toks) (fun b o hb e=>(sb.2 b hb).trans e) f0 f1 f3 f4 f5
  obtain⟨o,e,c,d⟩:=id st';exact⟨u,rfl,zr (s:={ s with heap:=h' }) e c d (by decide) ⟨x,H,I1,ru,⟨rfl,fun ys hy=>by rw[I.zY hy hq];exact hx⟩,st',fun b hb=>(hf b hb).1⟩⟩
 done:=by
  intro X hP hw hK hc i j0 s σ H E I hf st hg;subst hP hw hK;obtain⟨xs,hq,hx⟩:=hg;obtain⟨its,rv,p,hz⟩:=I.tuple hq;obtain⟨f0,f1,f2,f3,f4,f5⟩:=hf it (by simp)
  have hl:=rv.length;exact wpAny_pyNext_tuple_end (I.ok.hd hc) st (show s.heap.IsTuple a its.toArray from p) (by simp;omega) fun h' eb=>⟨rfl,I.turned (t':=s.toks) (fun b o hb e=>eb b o hb e) f0 f1 f3 f4 f5⟩
 self:=fun _ _ _ _ _ st h=>wpAny_pyIter_tupleiter st h
theorem wB{w:World}{K:W.Frag}(it:Addr)(lo:Int)(n:Nat):Turn P w K tg (Itr lo n) [it] it (fun i h=>IsRangeIter h it (lo+(i:Nat)*1) ((n:Int) - (i:Nat)) 1) where
 mem:=by simp
 obj:=fun i h st b hb=>by
  have e:b=it:=by simpa using hb
  subst e;exact⟨_,st,fun v z=>by
   have z':Data.fields _=Data.cell v:=z;cases z'⟩
 keep:=fun i h h' st k=>k it (by simp) _ st
 item:=by
  intro X hP hw hK hc i j0 s σ H E I hf st hg;subst hP hw hK;obtain⟨f0,f1,f2,f3,f4,f5⟩:=hf it (by simp)
  have W:=Walks.range (prog:=X.prog) (w:=X.w) (I.ok.hd hc) it lo 1 n;refine W.item i s _ _ hg st fun v h' tk hv st' kk=>?_
  obtain⟨t,rfl⟩:=hv;have I1:Inv X j0 σ H { s with heap:=h',toks:=tk }:=I.turned (fun b o hb e=>kk b o (by simpa using hb) e) f0 f1 f3 f4 f5
  refine⟨_,rfl,zr (s:={ s with heap:=h',toks:=tk }) (n:="range_iterator") st' rfl rfl (by decide) ⟨.int (lo+i),H,I1,⟨t,?_⟩,⟨rfl,rfl⟩,st',fun b hb=>(hf b hb).1⟩⟩
  rw[Int.mul_one]
 done:=by
  intro X hP hw hK hc i j0 s σ H E I hf st hg;subst hP hw hK;obtain⟨f0,f1,f2,f3,f4,f5⟩:=hf it (by simp)
  exact wpAny_pyNext_range_end (I.ok.hd hc) st (by have:n<=i:=hg;omega) fun h' eb=>⟨rfl,I.turned (t':=s.toks) (fun b o hb e=>eb b o hb e) f0 f1 f3 f4 f5⟩
 self:=fun _ _ _ _ _ st h=>wpAny_pyIter_rangeiter st h
variable{lo:Int}{p:Pos}{fp:List Addr}{iter:Expr}
section
def vF(K:W.Frag)(tl:TE):TI:=fun σ H R=>tl σ H fun x H1=>∃ a,x = .ref a/\(∃ xs,SqL K H1 a xs)/\R (Itl K a) H1
def HE(K:W.Frag)(tl:TE):TI:=fun σ H R=>tl σ H fun x H1=>∃ a,x = .ref a/\(∃ xs,SqT K H1 a xs)/\R (Itt K a) H1
theorem oB{l:Expr}{tl:TE}(hl:PE X l tl):PI X tg l (vF X.K tl):=by
 intro j0 s σ H R I h;refine thn (hl j0 s σ H _ I h) fun v s1 hPP=>?_
 obtain⟨x,H1,I1,r1,q1⟩:=hPP;obtain⟨a,e,⟨xs,hq⟩,q⟩:=q1;subst e;cases r1;obtain⟨its,rv,p,hz⟩:=I1.list hq;refine wpAny_pyIter_list p.isList ?_;refine⟨s1.heap.objs.size,[s1.heap.objs.size],_,_,H1,rfl,I1.kept (t':=s1.toks) fun b o e=>j3 _ e,zX a _,⟨_,QV _ rfl,rfl,rfl⟩,fun b hb=>?_,q⟩
 have e:b=s1.heap.objs.size:=by simpa using hb
 subst e;exact I1.HN (QX _) (I1.hok.fresh (QX _))
theorem Kz{l:Expr}{tl:TE}(hl:PE X l tl):PI X tg l (HE X.K tl):=by
 intro j0 s σ H R I h;refine thn (hl j0 s σ H _ I h) fun v s1 hPP=>?_
 obtain⟨x,H1,I1,r1,q1⟩:=hPP;obtain⟨a,e,⟨xs,hq⟩,q⟩:=q1;subst e;cases r1;obtain⟨its,rv,p,hz⟩:=I1.tuple hq;refine wpAny_pyIter_tuple (show s1.heap.IsTuple a its.toArray from p) ?_;refine⟨s1.heap.objs.size,[s1.heap.objs.size],_,_,H1,rfl,I1.kept (t':=s1.toks) fun b o e=>j3 _ e,wA a _,⟨_,QV _ rfl,rfl,rfl⟩,fun b hb=>?_,q⟩
 have e:b=s1.heap.objs.size:=by simpa using hb
 subst e;exact I1.HN (QX _) (I1.hok.fresh (QX _))
theorem Cw{σ:St}{s:Shared}{R:It->Hp->Prop}{hi:Int}{t u v:Tok}{tk:Nat}(I:Inv X j0 σ H s)(h1:-(2 ^ 62)<=lo)(h2:lo<2 ^ 62)(h3:-(2 ^ 62)<=hi)(h4:hi<2 ^ 62)
  (q:R (Itr lo (hi - lo).toNat) H):wpAny (model X.prog X.w) X.A (pyIter (.ref s.heap.objs.size)) (PIE X j0 σ tg R) E { s with heap:=s.heap.push { cls:=.type "range",data:=.fields #[.int lo t,.int hi u,.int 1 v] },toks:=tk }:=by
 refine wpAny_pyIter_range (IsRange.new ..) (small_one h1 h2 h3 h4) ?_;have I1:Inv X j0 σ H { s with heap:=s.heap.push { cls:=.type "range",data:=.fields #[.int lo t,.int hi u,.int 1 v] },toks:=tk }:=I.kept fun b o e=>j3 _ e
 refine⟨(s.heap.push { cls:=.type "range",data:=.fields #[.int lo t,.int hi u,.int 1 v] }).objs.size,[(s.heap.push { cls:=.type "range",data:=.fields #[.int lo t,.int hi u,.int 1 v] }).objs.size],_,_,H,rfl,
  I1.kept (t':=tk) fun b o e=>j3 _ e,wB _ lo (hi - lo).toNat,?_,fun b hb=>?_,q⟩
 ·have e1:lo+((0:Nat):Int)*1=lo:=by simp
  have e2:(((hi - lo).toNat:Nat):Int) - ((0:Nat):Int)=Builtin.Range.rangeSize lo hi 1:=by rw[rangeSize_one];split <;> omega
  show IsRangeIter _ _ (lo+((0:Nat):Int)*1) ((((hi - lo).toNat:Nat):Int) - ((0:Nat):Int)) 1;rw[e1,e2];exact QV _ rfl
 ·have e:b =(s.heap.push { cls:=.type "range",data:=.fields #[.int lo t,.int hi u,.int 1 v] }).objs.size:=by simpa using hb
  subst e;exact I1.HN (QX _) (I1.hok.fresh (QX _))
def DQ(ta:TA):TI:=fun σ H R=>ta σ H fun vs H1=>∃ j:Int,vs = [.int j] /\ -(2 ^ 62)<=j/\j<2 ^ 62/\R (Itr 0 j.toNat) H1
theorem rG{a:Expr}{ta:TA}(hg:Gl X "range")(hm:X.mg "range" = none)(ha:PA X [a] ta)(hs:L9 [a] X.env = [(false,eval a X.env)]:=by rfl):PI X tg (.Call (.Name "range" p) [a] [] pos) (DQ ta):=by
 intro j0 s σ H R I h;refine Call_ (gp I hg hm boot_range (PyProof.Rows.callWith_type1 (thn (ha pos j0 s σ H _ I h) fun us s1 ⟨vs,H1,I1,r1,q1⟩=>?_) hs rfl))
 obtain⟨j,e,q1,q2,q⟩:=q1;subst e;cases r1 with
 | cons r rr =>
  cases rr;obtain⟨t,rfl⟩:=r;exact call_range_1 (Cw I1 (by omega) (by omega) q1 q2 (by simpa using q))
def L5(wi:TI)(g:TG)(tb:TS):TS:=fun D σ H=>wi σ H fun J H1=>∃ W:Nat->Nat->St->Hp->Prop,(∃ m,W 0 m σ H1)/\∀ i m σ H,W i m σ H ->
 (J.stop i H/\D.nx σ H)\/(J.go i H/\∃ N:St->Hp->Prop,(∀ σ' H',N σ' H'->∃ m',m'<m/\W (i+1) m' σ' H')/\∀ x H',J.yld i H x H'->g x σ H' fun σ2 H2=>tb { D with nx:=N,ct:=N,bk:=D.nx } σ2 H2)
def pj(fp:List Addr)(h:Heap):List (Addr×Obj):=fp.filterMap fun b=>(h.get? b).map fun o=>(b,o)
theorem gk{h:Heap}{b:Addr}{o:Obj}(hb:b∈fp)(e:h.get? b=some o):(b,o)∈pj fp h:=So.mpr ⟨b,hb,by rw[e];rfl⟩
theorem Ay{h:Heap}{p:Addr×Obj}(hp:p∈pj fp h):p.1∈fp/\h.get? p.1=some p.2:=by
 obtain⟨b,hb,e⟩:=So.mp hp;cases q:h.get? b with
 | none=>rw[q]at e;cases e
 | some o =>
  rw[q]at e;have e':(b,o)=p:=Option.some.inj e;subst e';exact⟨hb,q⟩
theorem Inv.pinned{σ:St}{s:Shared}(I:Inv X j0 σ H s)(hf:∀ b∈fp,v7 X j0 H b)(ho:∀ b∈fp,∃ o,s.heap.get? b=some o/\∀ v,o.data ≠ .cell v):Inv X (j0++pj fp s.heap) σ H s :=
 I.lZ fun p hp=>(Q7.mp hp).elim (fun z=>I.pin p (PJ _ z)) fun z=>by
  obtain⟨hb,e⟩:=Ay z;obtain⟨f0,f1,f2,_⟩:=hf p.1 hb;obtain⟨o,e',d⟩:=ho p.1 hb;rw[e]at e';cases e';exact⟨e,f0,f1,f2,d⟩
theorem Inv.lD{pl:List (Addr×Obj)}{σ:St}{s:Shared}(I:Inv X (j0++pl) σ H s):Inv X j0 σ H s:=I.lZ fun p hp=>I.pin p (PJ _ (QP _ hp))
theorem CV{wi:TI}{g:TG}{tb:TS}{pos:Pos}(hp:S8 (model X.prog X.w) X.A X.env X.xe)(hc:X.calm=true)(hi:PI X tg iter wi)(hg:PG X tg g)(hb:PSs X body tb)
  (hs:∀ x,foldedSetIterable iter X.env x=pure x:=by intro _;rfl):PS X (.For tg iter body [] pos) (L5 wi g tb):=by
 intro j0 s σ H D I h;refine wpAny_For (thn (hi j0 s σ H _ I h) fun v s1 h1=>thn h1 fun itv s2 h2=>?_) hs
 obtain⟨it,fp,tn,J,H2,e,I2,T,st2,f2,W,⟨m0,w0⟩,turn⟩:=h2;subst e;have JS:∀{H':Hp},(∀ b∈fp,H' b=none)->∀ b∈fp,v7 X j0 H' b:=fun hn b hb=>⟨hn b hb,(f2 b hb).2⟩
 refine codeAny_forLoop_any (fun n s'=>∃ i σ' H',Inv X j0 σ' H' s'/\tn i s'.heap/\(∀ b∈fp,H' b=none)/\W i n σ' H') ?_ m0 ⟨0,σ,H2,I2,st2,fun b hb=>(f2 b hb).1,w0⟩
 rintro n s3 ⟨i,σ3,H3,I3,st3,fr3,w3⟩
 rcases turn i n σ3 H3 w3 with⟨stop,qn⟩ |⟨go,N,hN,step⟩
 ·refine wpAny_passesOwn hp (thn (T.done X rfl rfl rfl hc i j0 s3 σ3 H3 X.xe I3 (JS fr3) st3 stop) fun r s4 hPP=>?_)
  obtain⟨hr,I4⟩:=hPP;subst hr;exact wpAny_execs_nil ⟨σ3,H3,I4,qn⟩
 ·refine wpAny_passesOwn hp (thn (T.item X rfl rfl rfl hc i j0 s3 σ3 H3 X.xe I3 (JS fr3) st3 go) fun r s4 hPP=>?_)
  obtain⟨u,hr,h4⟩:=hPP;subst hr;refine wpAny_passesOwn hp (thn h4 fun _ s5 hPP=>?_)
  obtain⟨x,H5,I5,r5,y5,st5,fr5⟩:=hPP;have I5':=I5.pinned (JS fr5) (T.obj _ _ st5);refine wpAny_passesOwn hp (thn (hg _ s5 σ3 H5 x u _ I5' r5 (step x H5 y5)) fun _ s6 hPP=>?_)
  obtain⟨σ6,H6,I6,q6⟩:=hPP;refine wpAny_passesOwn hp (thn (hb _ s6 σ6 H6 _ I6 q6) fun f s7 q7=>?_)
  have again:∀{σ7:St}{H7:Hp},Inv X (j0++pj fp s5.heap) σ7 H7 s7->N σ7 H7->∃ m,m<n/\∃ i σ' H',Inv X j0 σ' H' s7/\tn i s7.heap/\(∀ b∈fp,H' b=none)/\W i m σ' H':=fun{σ7 H7} I7 n7=>by
   obtain⟨m',hm,w7⟩:=hN σ7 H7 n7;refine⟨m',hm,i+1,σ7,H7,I7.lD,T.keep _ _ _ st5 fun b hb o e=>(I7.pin (b,o) (PJ _ (PJ _ (gk hb e)))).1,fun b hb=>?_,w7⟩
   obtain⟨o,e,d⟩:=T.obj _ _ st5 b hb;exact(I7.pin (b,o) (PJ _ (PJ _ (gk hb e)))).2.1
  cases f with
  | next=>obtain⟨σ7,H7,I7,n7⟩:=q7;exact again I7 n7
  | cont=>obtain⟨σ7,H7,I7,n7⟩:=q7;exact again I7 n7
  | brk=>obtain⟨σ7,H7,I7,q7⟩:=q7;exact⟨σ7,H7,I7.lD,q7⟩
  | ret v=>obtain⟨x7,σ7,H7,I7,r7,q7⟩:=q7;exact⟨x7,σ7,H7,I7.lD,r7,q7⟩
end
variable{xs:List V}{D:Ends}
theorem D4{K:W.Frag}{g:TG}{tb:TS}{σ:St}(Pv:Nat->St->Hp->Prop)(h0:Pv 0 σ H)(hl:∀ i σ H,i<=xs.length->Pv i σ H->SqL K H a xs)
  (hs:∀ i x σ H,xs[i]? = some x->Pv i σ H->g x σ H fun σ2 H2=>tb { D with nx:=Pv (i+1),ct:=Pv (i+1),bk:=D.nx } σ2 H2) (hd:∀ σ H,Pv xs.length σ H->D.nx σ H) :
  ∃ W:Nat->Nat->St->Hp->Prop,(∃ m,W 0 m σ H)/\∀ i m σ H,W i m σ H ->
   ((Itl K a).stop i H/\D.nx σ H)\/((Itl K a).go i H/\∃ N:St->Hp->Prop,(∀ σ' H',N σ' H'->∃ m',m'<m/\W (i+1) m' σ' H')/\∀ x H',(Itl K a).yld i H x H'->g x σ H' fun σ2 H2=>tb { D with nx:=N,ct:=N,bk:=D.nx } σ2 H2):=by
 refine⟨fun i m σ H=>m=xs.length - i/\i<=xs.length/\Pv i σ H,⟨xs.length,by simp,RE _,h0⟩,?_⟩
 rintro i m σ H ⟨rfl,hi,p⟩
 have q:=hl i σ H hi p;by_cases hlt:i<xs.length
 ·refine .inr ⟨⟨xs,xs[i],q,by simp[hlt]⟩,Pv (i+1),fun σ' H' p'=>⟨xs.length - (i+1),by omega,rfl,hlt,p'⟩,fun x H' y=>?_⟩
  obtain⟨e,y⟩:=y;subst e;exact hs i x σ _ (y xs q) p
 ·have e:i=xs.length:=by omega
  subst e;exact .inl ⟨⟨xs,q,QX _⟩,hd σ H p⟩
abbrev R2:=V->V->Hp->VK->Prop
def OpR(X:Cx)(f:Value->Value->Sem Value)(r:R2):Prop :=
 ∀(j0:List (Addr×Obj))(s:Shared)(σ:St)(H:Hp)(x y:V)(v u:Value)(Q:VK),Inv X j0 σ H s->RelV x v->RelV y u->r x y H Q ->
  wpAny (model X.prog X.w) X.A (f v u) (EP X j0 σ Q) X.xe s
def UnR(X:Cx)(f:Value->Sem Value)(r:V->Hp->VK->Prop):Prop :=
 ∀(j0:List (Addr×Obj))(s:Shared)(σ:St)(H:Hp)(x:V)(v:Value)(Q:VK),Inv X j0 σ H s->RelV x v->r x H Q ->
  wpAny (model X.prog X.w) X.A (f v) (EP X j0 σ Q) X.xe s
def dJ(X:Cx)(f:Value)(r:List V->Hp->VK->Prop):Prop :=
 ∀(j0:List (Addr×Obj))(s:Shared)(σ:St)(H:Hp)(xs:List V)(us:List Value)(Q:VK),Inv X j0 σ H s->Vals xs us->r xs H Q ->
  wpAny (model X.prog X.w) X.A (call f us) (EP X j0 σ Q) X.xe s
def Qu(X:Cx)(r:V->Hp ->(Bool->Hp->Prop)->Prop):Prop :=
 ∀(j0:List (Addr×Obj))(s:Shared)(σ:St)(H:Hp)(x:V)(v:Value)(Q:Bool->Hp->Prop),Inv X j0 σ H s->RelV x v->r x H Q ->
  wpAny (model X.prog X.w) X.A (truthy v) (TP X j0 σ Q) X.xe s
def tOp(r:R2)(ta tb:TE):TE:=fun σ H Q=>ta σ H fun x H1=>tb σ H1 fun y H2=>r x y H2 Q
def tUn(r:V->Hp->VK->Prop)(ta:TE):TE:=fun σ H Q=>ta σ H fun x H1=>r x H1 Q
def rI(C:Int->Int->Prop)(g:Int->Int->V):R2:=fun x y H Q=>∃ i j,x = .int i/\y = .int j/\C i j/\Q (g i j) H
def rI0(g:Int->Int->V):R2:=fun x y H Q=>∃ i j,x = .int i/\y = .int j/\Q (g i j) H
def rU(g:Int->V):V->Hp->VK->Prop:=fun x H Q=>∃ i,x = .int i/\Q (g i) H
variable{g:Int->Int->Int}
section
variable{a b c:Expr}{ta tb tc:TE}
theorem Lw(ha:PE X a ta)(hb:PE X b tb){s:Shared}{σ:St}{R:V->V->Hp->Prop}(I:Inv X j0 σ H s)
  (h:ta σ H fun x H1=>tb σ H1 fun y H2=>R x y H2) {Q:Value->Shared->Prop} {f:Value->Value->Sem Value}
  (hf:∀ v u s2 x y H2,Inv X j0 σ H2 s2->RelV x v->RelV y u->R x y H2->wpAny (model X.prog X.w) X.A (f v u) Q X.xe s2) :
  wpAny (model X.prog X.w) X.A (eval a X.env) (fun v s₁=>wpAny (model X.prog X.w) X.A (eval b X.env) (fun u s₂=>wpAny (model X.prog X.w) X.A (f v u) Q X.xe s₂) X.xe s₁) X.xe s:=by
 refine thn (ha j0 s σ H _ I h) fun v s1 hPP=>?_
 obtain⟨x,H1,I1,r1,q1⟩:=hPP;refine thn (hb j0 s1 σ H1 _ I1 q1) fun u s2 hPP=>?_
 obtain⟨y,H2,I2,r2,q2⟩:=hPP;exact hf v u s2 x y H2 I2 r1 r2 q2
theorem cq{r:R2}(ho:OpR X (binaryOp op) r)(ha:PE X a ta)(hb:PE X b tb):PE X (.BinOp a op b pos) (tOp r ta tb):=by
 intro j0 s σ H Q I h;exact wpAny_BinOp (Lw ha hb I h fun v u s2 x y H2 I2 rx ry q=>ho j0 s2 σ H2 x y v u Q I2 rx ry q)
theorem C5{op:UnaryOp}{r:V->Hp->VK->Prop}(ho:UnR X (unaryOp op) r)(ha:PE X a ta):PE X (.UnaryOp op a pos) (tUn r ta):=by
 intro j0 s σ H Q I h;exact UnaryOp_ (thn (ha j0 s σ H _ I h) fun v s1 ⟨x,H1,I1,r1,q1⟩=>ho j0 s1 σ H1 x v Q I1 r1 q1)
theorem opI{f:Value->Value->Sem Value}{C:Int->Int->Prop}
  (rule:∀(i j:Int)(t u:Tok)(s:Shared)(Q:Value->Shared->Prop)(E:Value->Shared->Prop),C i j->Q (.int (g i j) s.toks) { s with toks:=s.toks+1 }->wpAny (model X.prog X.w) X.A (f (.int i t) (.int j u)) Q E s) :
  OpR X f (rI C fun i j=>.int (g i j)):=by
 intro j0 s σ H x y v u Q I rx ry h;obtain⟨i,j,rfl,rfl,hc,q⟩:=h;obtain⟨t,rfl⟩:=rx;obtain⟨t',rfl⟩:=ry;exact rule i j t t' s _ _ hc ⟨.int (g i j),H,I.tok _,⟨_,rfl⟩,q⟩
theorem M6{f:Value->Value->Sem Value}
  (rule:∀(i j:Int)(t u:Tok)(s:Shared)(Q:Value->Shared->Prop)(E:Value->Shared->Prop),Q (.int (g i j) s.toks) { s with toks:=s.toks+1 }->wpAny (model X.prog X.w) X.A (f (.int i t) (.int j u)) Q E s) :
  OpR X f (rI0 fun i j=>.int (g i j)):=by
 intro j0 s σ H x y v u Q I rx ry h;obtain⟨i,j,rfl,rfl,q⟩:=h;obtain⟨t,rfl⟩:=rx;obtain⟨t',rfl⟩:=ry;exact rule i j t t' s _ _ ⟨.int (g i j),H,I.tok _,⟨_,rfl⟩,q⟩
theorem KN{f:Value->Value->Sem Value}{g:Int->Int->Bool}
  (rule:∀(i j:Int)(t u:Tok)(s:Shared)(Q:Value->Shared->Prop)(E:Value->Shared->Prop),Q (.bool (g i j)) s->wpAny (model X.prog X.w) X.A (f (.int i t) (.int j u)) Q E s) :
  OpR X f (rI0 fun i j=>.bl (g i j)):=by
 intro j0 s σ H x y v u Q I rx ry h;obtain⟨i,j,rfl,rfl,q⟩:=h;obtain⟨t,rfl⟩:=rx;obtain⟨t',rfl⟩:=ry;exact rule i j t t' s _ _ ⟨.bl (g i j),H,I,rfl,q⟩
def LN(i j:Int):Prop:=0<=j/\j<=1000000/\i.natAbs<2 ^ 64
def yE(i j:Int):Prop:=(-(2 ^ 64)<i/\i<2 ^ 64)\/(-(2 ^ 64)<j/\j<2 ^ 64)
theorem yE.ok{i j:Int}(h:yE i j):IntMulOk i j:=by
 rcases h with⟨h1,h2⟩ |⟨h1,h2⟩
 ·exact .of_left (intBits_le_64 h1 h2)
 ·exact .of_right (intBits_le_64 h1 h2)
theorem mT:OpR X (binaryOp .Add) (rI0 fun i j=>.int (i+j)):=M6 fun _ _ _ _ _ _ _ q=>add_int q
theorem Dd:OpR X (binaryOp .Sub) (rI0 fun i j=>.int (i - j)):=M6 fun _ _ _ _ _ _ _ q=>sub_int q
theorem kY:OpR X (binaryOp .Mult) (rI yE fun i j=>.int (i*j)):=opI fun _ _ _ _ _ _ _ hc q=>mul_int q hc.ok
theorem iZ:OpR X (binaryOp .Mod) (rI (fun _ j=>0<j) fun i j=>.int (i % j)):=opI fun i j _ _ _ _ _ hc q=>by
 have h1:(0:Int)<j:=hc;exact mod_int' (by omega) (by rw[Int.fmod_eq_emod_of_nonneg i (by omega)];exact q)
theorem De:OpR X (binaryOp .Pow) (rI LN fun i j=>.int (i ^ j.toNat)):=opI fun _ _ _ _ _ _ _ hc q=>pow_int_small hc.1 hc.2.1 hc.2.2 q
theorem unI{f:Value->Sem Value}{g:Int->Int}
  (rule:∀(i:Int)(t:Tok)(s:Shared)(Q:Value->Shared->Prop)(E:Value->Shared->Prop),Q (.int (g i) s.toks) { s with toks:=s.toks+1 }->wpAny (model X.prog X.w) X.A (f (.int i t)) Q E s) :
  UnR X f (rU fun i=>.int (g i)):=by
 intro j0 s σ H x v Q I rx h;obtain⟨i,rfl,q⟩:=h;obtain⟨t,rfl⟩:=rx;exact rule i t s _ _ ⟨.int (g i),H,I.tok _,⟨_,rfl⟩,q⟩
theorem wz:UnR X (unaryOp .USub) (rU fun i=>.int (-i)):=unI fun _ _ _ _ _ q=>neg_int q
end
def F6:V->V->Bool
 | .non,.non=>true | .non,.int _=>true | .int _,.non=>true | .non,.bl _=>true | .bl _,.non=>true | .non,.str _=>true | .str _,.non=>true
 | .int _,.int _=>true | .bl _,.bl _=>true | .str _,.str _=>true | .byt _,.byt _=>true
 | .int _,.str _=>true | .str _,.int _=>true | .bl _,.str _=>true | .str _,.bl _=>true
 | _,_=>false
def rEq:R2:=fun x y H Q=>F6 x y=true/\Q (.bl (decide (x=y))) H
def rNe:R2:=fun x y H Q=>F6 x y=true/\Q (.bl (!decide (x=y))) H
theorem zA{i j:Int}:decide (V.int i=V.int j) =(i==j):=by
 rw[SG];simp
theorem Ed{i j:Bool}:decide (V.bl i=V.bl j) =(i==j):=by
 rw[SG];simp
theorem zz{i j:Str}:decide (V.str i=V.str j) =(i==j):=by
 rw[SG];simp
theorem zB{i j:Array UInt8}:decide (V.byt i=V.byt j) =(i.toList==j.toList):=by
 rw[SG];cases i;cases j;simp
variable{its:List Value}{us:List Value}{y:V}
section
variable{a b c:Expr}{ta tb tc:TE}
theorem aO{σ:St}{s:Shared}{Q:VK}{k k':Bool}(I:Inv X j0 σ H s)(q:Q (.bl k) H)(e:k=k'):EP X j0 σ Q (.bool k') s:=by
 subst e;exact⟨.bl k,H,I,rfl,q⟩
theorem Jg:OpR X (compareOp .Eq) rEq:=by
 intro j0 s σ H x y v u Q I rx ry h;obtain⟨hs,q⟩:=h;cases x with
 | non =>
  cases rx;cases y with
  | non=>cases ry;exact PySem.EqNone.eq_none_none (aO I q (by simp))
  | bl j=>cases ry;exact PySem.EqNone.eq_none_bool (aO I q (by simp))
  | int j=>obtain⟨t',rfl⟩:=ry;exact PySem.EqNone.eq_none_int (aO I q (by simp))
  | str j=>obtain⟨t',rfl⟩:=ry;exact PySem.EqNone.eq_none_str (aO I q (by simp))
  | _=>exact absurd (show false=true from hs) QF
 | bl i =>
  cases rx;cases y with
  | non=>cases ry;exact PySem.EqNone.eq_bool_none (aO I q (by simp))
  | bl j=>cases ry;exact eq_bool (aO I q Ed)
  | str j=>obtain⟨t',rfl⟩:=ry;exact PySem.EqMixed.eq_bool_str (aO I q (by simp))
  | _=>exact absurd (show false=true from hs) QF
 | int i =>
  obtain⟨t,rfl⟩:=rx;cases y with
  | non=>cases ry;exact PySem.EqNone.eq_int_none (aO I q (by simp))
  | int j=>obtain⟨t',rfl⟩:=ry;exact eq_int (aO I q zA)
  | str j=>obtain⟨t',rfl⟩:=ry;exact PySem.EqMixed.eq_int_str (aO I q (by simp))
  | _=>exact absurd (show false=true from hs) QF
 | str i =>
  obtain⟨t,rfl⟩:=rx;cases y with
  | non=>cases ry;exact PySem.EqNone.eq_str_none (aO I q (by simp))
  | bl j=>cases ry;exact PySem.EqMixed.eq_str_bool (aO I q (by simp))
  | int j=>obtain⟨t',rfl⟩:=ry;exact PySem.EqMixed.eq_str_int (aO I q (by simp))
  | str j=>obtain⟨t',rfl⟩:=ry;exact eq_str (aO I q zz)
  | _=>exact absurd (show false=true from hs) QF
 | byt i =>
  obtain⟨t,rfl⟩:=rx;cases y with
  | byt j=>obtain⟨t',rfl⟩:=ry;exact W.eq_bytes (aO I q zB)
  | _=>exact absurd (show false=true from hs) QF
 | _=>cases y <;> exact absurd (show false=true from hs) QF
theorem Df:OpR X (compareOp .NotEq) rNe:=by
 intro j0 s σ H x y v u Q I rx ry h;obtain⟨hs,q⟩:=h;cases x with
 | non =>
  cases rx;cases y with
  | non=>cases ry;exact PySem.EqNone.ne_none_none (aO I q (by simp))
  | bl j=>cases ry;exact PySem.EqNone.ne_none_bool (aO I q (by simp))
  | int j=>obtain⟨t',rfl⟩:=ry;exact PySem.EqNone.ne_none_int (aO I q (by simp))
  | str j=>obtain⟨t',rfl⟩:=ry;exact PySem.EqNone.ne_none_str (aO I q (by simp))
  | _=>exact absurd (show false=true from hs) QF
 | bl i =>
  cases rx;cases y with
  | non=>cases ry;exact PySem.EqNone.ne_bool_none (aO I q (by simp))
  | bl j=>cases ry;exact ne_bool (aO I q (congrArg not Ed))
  | str j=>obtain⟨t',rfl⟩:=ry;exact PySem.EqMixed.ne_bool_str (aO I q (by simp))
  | _=>exact absurd (show false=true from hs) QF
 | int i =>
  obtain⟨t,rfl⟩:=rx;cases y with
  | non=>cases ry;exact PySem.EqNone.ne_int_none (aO I q (by simp))
  | int j=>obtain⟨t',rfl⟩:=ry;exact ne_int (aO I q (congrArg not zA))
  | str j=>obtain⟨t',rfl⟩:=ry;exact PySem.EqMixed.ne_int_str (aO I q (by simp))
  | _=>exact absurd (show false=true from hs) QF
 | str i =>
  obtain⟨t,rfl⟩:=rx;cases y with
  | non=>cases ry;exact PySem.EqNone.ne_str_none (aO I q (by simp))
  | bl j=>cases ry;exact PySem.EqMixed.ne_str_bool (aO I q (by simp))
  | int j=>obtain⟨t',rfl⟩:=ry;exact PySem.EqMixed.ne_str_int (aO I q (by simp))
  | str j=>obtain⟨t',rfl⟩:=ry;exact ne_str (aO I q (congrArg not zz))
  | _=>exact absurd (show false=true from hs) QF
 | byt i =>
  obtain⟨t,rfl⟩:=rx;cases y with
  | byt j=>obtain⟨t',rfl⟩:=ry;exact W.ne_bytes (aO I q (congrArg not zB))
  | _=>exact absurd (show false=true from hs) QF
 | _=>cases y <;> exact absurd (show false=true from hs) QF
theorem M4:OpR X (compareOp .Lt) (rI0 fun i j=>.bl (decide (i<j))):=KN fun _ _ _ _ _ _ _ q=>lt_int q
theorem Dg:OpR X (compareOp .Gt) (rI0 fun i j=>.bl (decide (j<i))):=KN fun _ _ _ _ _ _ _ q=>gt_int q
theorem M5:OpR X (compareOp .GtE) (rI0 fun i j=>.bl (decide (j<=i))):=KN fun _ _ _ _ _ _ _ q=>ge_int q
theorem Av:OpR X (compareOp .In) (fun x y H Q=>∃ i j,x = .str i/\y = .str j/\Q (.bl (!(Builtin.Str.occurrences j i 0 j.length 1).isEmpty)) H):=by
 intro j0 s σ H x y v u Q I rx ry h;obtain⟨i,j,rfl,rfl,q⟩:=h;obtain⟨t,rfl⟩:=rx;obtain⟨t',rfl⟩:=ry;exact in_str (aO I q rfl)
theorem tJ:OpR X (compareOp .Is) (fun x y H Q=>y = .non/\Q (.bl (decide (x = .non))) H):=by
 intro j0 s σ H x y v u Q I rx ry h;obtain⟨rfl,q⟩:=h;cases ry;refine is_none_gen (aO I q ?_);cases x <;> first
  | (cases rx;rfl)
  | (obtain⟨t,rfl⟩:=rx;rfl)
theorem GZ:OpR X (compareOp .IsNot) (fun x y H Q=>y = .non/\Q (.bl (!decide (x = .non))) H):=by
 intro j0 s σ H x y v u Q I rx ry h;obtain⟨rfl,q⟩:=h;cases ry;refine isnot_none_gen (aO I q ?_);cases x <;> first
  | (cases rx;rfl)
  | (obtain⟨t,rfl⟩:=rx;rfl)
theorem tH:OpR X (compareOp .NotIn) (fun x y H Q=>∃ i j,x = .str i/\y = .str j/\Q (.bl (!(!(Builtin.Str.occurrences j i 0 j.length 1).isEmpty))) H):=by
 intro j0 s σ H x y v u Q I rx ry h;obtain⟨i,j,rfl,rfl,q⟩:=h;obtain⟨t,rfl⟩:=rx;obtain⟨t',rfl⟩:=ry;exact notIn_str (aO I q rfl)
theorem OpR.or{f:Value->Value->Sem Value}{r r':R2}(h:OpR X f r)(h':OpR X f r'):OpR X f (fun x y H Q=>r x y H Q\/r' x y H Q):=by
 intro j0 s σ H x y v u Q I rx ry q;rcases q with q|q
 ·exact h j0 s σ H x y v u Q I rx ry q
 ·exact h' j0 s σ H x y v u Q I rx ry q
theorem bI(b:Expr){op:CmpOp}(h:op ≠ .In:=by decide)(h2:op ≠ .NotIn:=by decide):behindInMarks op b=false:=by
 have e1:(op==CmpOp.In)=false:=by cases op <;> first|rfl|exact absurd rfl h
 have e2:(op==CmpOp.NotIn)=false:=by cases op <;> first|rfl|exact absurd rfl h2
 cases b <;> simp[behindInMarks,e1,e2]
theorem GY{op:CmpOp}{r:R2}(ho:OpR X (compareOp op) r)(ha:PE X a ta)(hb:PE X b tb)(hm:behindInMarks op b=false):PE X (.Compare a [op] [b] pos) (tOp r ta tb):=by
 intro j0 s σ H Q I h;exact wpAny_Compare1 (Lw ha hb I h fun v u s2 x y H2 I2 rx ry q=>ho j0 s2 σ H2 x y v u Q I2 rx ry q) hm
def yI(t:TE):TT:=fun σ H Q=>t σ H fun x H'=>∃ k,x = .bl k/\Q k H'
theorem lY{op:CmpOp}{r:R2}(ho:OpR X (compareOp op) r)(ha:PE X a ta)(hb:PE X b tb)(hm:behindInMarks op b=false):PT X (.Compare a [op] [b] pos) (yI (tOp r ta tb)):=by
 intro j0 s σ H Q I h;refine wpAny_isTrue_Compare1 (thn (ha j0 s σ H _ I h) fun v s1 ⟨x,H1,I1,r1,q1⟩=>thn (hb j0 s1 σ H1 _ I1 q1) fun u s2 ⟨y,H2,I2,r2,q2⟩ =>
  thn (ho j0 s2 σ H2 x y v u _ I2 r1 r2 q2) fun c s3 ⟨z,H3,I3,r3,k,e,q3⟩=>?_) hm
 subst e;cases r3;exact wpAny_truthy_bool ⟨H3,I3,q3⟩
def Iz(K:W.Frag)(x:V)(H:Hp)(k:Bool):Prop :=
 match x with
 | .non=>k=false
 | .bl b=>k=b
 | .int i=>k =(i != 0)
 | .str y=>y.length<=QD/\k =((y.length:Int) != 0)
 | .byt y=>y.size<=QD/\k =((y.size:Int) != 0)
 | .ref p=>(∃ xs,SqL K H p xs/\k = !xs.isEmpty)\/(∃ xs,SqT K H p xs/\k = !xs.isEmpty)\/∃ kvs,H p=some (.dK kvs)/\k = !kvs.isEmpty
 | _=>False
theorem xZ{κ:Type}{kvs:List (κ×V)}{vs:List (κ×Value)}(r:KV kvs vs):(!vs.isEmpty) = !kvs.isEmpty:=by
 cases r <;> rfl
theorem pO(r:Vals xs its):(!its.toArray.isEmpty) = !xs.isEmpty:=by
 cases r <;> simp
theorem jP:(QD:Nat)<2 ^ 63:=by rw[Sv];decide
theorem JO:Qu X (fun x H Q=>∃ k,Iz X.K x H k/\Q k H):=by
 intro j0 s σ H x v Q I rx h;obtain⟨k,e,q⟩:=h;have hl:=jP;have hs:QD=16777216:=Sv;cases x with
 | non =>
  cases rx;have e':k=false:=e;subst e';exact truthy_none ⟨H,I,q⟩
 | bl b =>
  cases rx;have e':k=b:=e;subst e';exact wpAny_truthy_bool ⟨H,I,q⟩
 | int i =>
  obtain⟨t,rfl⟩:=rx;have e':k =(i != 0):=e;subst e';exact PySem.P.truthy_int ⟨H,I,q⟩
 | str y =>
  obtain⟨t,rfl⟩:=rx;obtain⟨hy,e'⟩:y.length<=QD/\k =((y.length:Int) != 0):=e;subst e';exact PySem.P.truthy_str (by omega) ⟨H,I.tok _,q⟩
 | byt y =>
  obtain⟨t,rfl⟩:=rx;obtain⟨hy,e'⟩:y.size<=QD/\k =((y.size:Int) != 0):=e;subst e';exact W.truthy_bytes (by omega) ⟨H,I.tok _,q⟩
 | ref p =>
  cases rx;have e':(∃ xs,SqL X.K H p xs/\k = !xs.isEmpty)\/(∃ xs,SqT X.K H p xs/\k = !xs.isEmpty)\/∃ kvs,H p=some (.dK kvs)/\k = !kvs.isEmpty:=e
  rcases e' with⟨xs,hx,e'⟩ |⟨xs,hx,e'⟩ |⟨kvs,hx,e'⟩
  ·subst e';obtain⟨its,r,pl,hz⟩:=I.list hx;have hlen:=r.length;exact wpAny_truthy_list pl.isList (by simp only[P2];omega) ⟨H,I.tok _,by rw[pO r];exact q⟩
  ·subst e';obtain⟨its,r,pl,hz⟩:=I.tuple hx;have hlen:=r.length;exact truthy_tuple pl (by simp only[P2];omega) ⟨H,I.tok _,by rw[pO r];exact q⟩
  ·subst e';obtain⟨hz,hS,vs,r,m⟩:kvs.length<=QD/\(p==sysModules)=false/\∃ vs,KV kvs vs/\s.heap.DictOf (br X.prog X.w) p vs:=I.hok p _ hx
   have hlen:kvs.length=vs.length:=Paired.length r;exact wpAny_truthy_dict hS m (by omega) ⟨H,I.tok _,by rw[xZ r];exact q⟩
 | _=>exact(show False from e).elim
theorem CU(ha:PE X a ta)(he:∀ whole,isTrue a X.env whole =(do let v <- whole;standAt a.pos;holding [v] (truthy v))) :
  PT X a (fun σ H Q=>ta σ H fun x H'=>∃ k,Iz X.K x H' k/\Q k H'):=by
 intro j0 s σ H Q I h;exact isTrue_plain (thn (ha j0 s σ H _ I h) fun v s1 ⟨x,H1,I1,r1,q1⟩=>JO j0 s1 σ H1 x v Q I1 r1 q1) (he _)
theorem xv:OpR X (binaryOp .Add) (fun x y H Q=>∃ i j,x = .str i/\y = .str j/\i.length+j.length<=QD/\Q (.str (i++j)) H):=by
 intro j0 s σ H x y v u Q I rx ry h;obtain⟨i,j,rfl,rfl,hz,q⟩:=h;obtain⟨t,rfl⟩:=rx;obtain⟨t',rfl⟩:=ry;exact add_str (fun t' tk=>⟨.str (i++j),H,I.tok _,⟨_,rfl⟩,q⟩) hz
theorem vals1{x:V}(r:Vals [x] us):∃ u,us = [u]/\RelV x u:=by
 cases r with
 | cons r1 r2=>cases r2;exact⟨_,rfl,r1⟩
theorem vals2{x:V}(r:Vals [x,y] us):∃ u w',us = [u,w']/\RelV x u/\RelV y w':=by
 cases r with
 | cons r1 r2 =>
  cases r2 with
  | cons r3 r4=>cases r4;exact⟨_,_,rfl,r1,r3⟩
theorem nh(hc:X.calm=true):dJ X (.builtin "max") (fun xs H Q=>∃ i j,xs = [.int i,.int j]/\Q (.int (if j > i then j else i)) H):=by
 intro j0 s σ H xs us Q I r h;obtain⟨i,j,rfl,q⟩:=h;obtain⟨u,w',rfl,⟨t,rfl⟩,⟨t',rfl⟩⟩:=vals2 r;refine max_two_ints (I.ok.hd hc) fun h' tk k=>⟨_,H,I.kept k,?_,q⟩
 by_cases hj:j > i
 ·rw[if_pos hj,if_pos hj];exact⟨_,rfl⟩
 ·rw[if_neg hj,if_neg hj];exact⟨_,rfl⟩
theorem Bf(hc:X.calm=true):dJ X (.builtin "min") (fun xs H Q=>∃ i j,xs = [.int i,.int j]/\Q (.int (if j<i then j else i)) H):=by
 intro j0 s σ H xs us Q I r h;obtain⟨i,j,rfl,q⟩:=h;obtain⟨u,w',rfl,⟨t,rfl⟩,⟨t',rfl⟩⟩:=vals2 r;refine min_two_ints (I.ok.hd hc) fun h' tk k=>⟨_,H,I.kept k,?_,q⟩
 by_cases hj:j<i
 ·rw[if_pos hj,if_pos hj];exact⟨_,rfl⟩
 ·rw[if_neg hj,if_neg hj];exact⟨_,rfl⟩
theorem iD:dJ X (.type "int") (fun xs H Q=>(∃ i,xs = [.int i]/\Q (.int i) H)\/∃ k,xs = [.bl k]/\Q (.int (if k then 1 else 0)) H):=by
 intro j0 s σ H xs us Q I r h;rcases h with⟨i,rfl,q⟩ |⟨k,rfl,q⟩
 ·obtain⟨u,rfl,t,rfl⟩:=vals1 r;exact call_int_int ⟨.int i,H,I,⟨_,rfl⟩,q⟩
 ·obtain⟨u,rfl,r1⟩:=vals1 r;cases r1;exact call_int_bool ⟨.int (if k then 1 else 0),H,I.tok _,⟨_,rfl⟩,q⟩
end
structure yA(h:Heap)(x dx C:Addr)(mA:Str->Option Value):Prop where
 obj:h.get? x=some (W.instObj C dx)
 ns:h.Ns1 dx mA
 ne:dx≠x
variable{dx:Addr}{mA:Str->Option Value}
theorem AN{h:Heap}(n:h.Ns1 dx mA):∃ od,h.get? dx=some od/\∀ name,W.lookIn name od=some (mA name):=by
 obtain⟨o,es,ep,ho,hd,hk,_,hm⟩:=n;refine⟨o,ho,fun name=>?_⟩
 have e:=hm name;unfold nsFind findBy at e;rw[<- Array.find?_toList]at e;unfold W.lookIn;rw[hd];dsimp only
 split
 ·rename_i y q;rw[q]at e;exact congrArg some e
 ·rename_i q;rw[q]at e;have a:es.toList.any (·.refKey)=false:=by
   rw[Tj];intro y hy;obtain⟨z,t,Qa⟩:=hk y (Array.mem_toList_iff.mp hy);simp[DictEntry.refKey,Qa]
  have a':¬ es.toList.any (·.refKey)=true:=by rw[a];exact QF
  rw[if_neg a'];exact congrArg some e
variable{C:Addr}
theorem yA.look{h:Heap}{x:Addr}(I:yA h x dx C mA):∃ od,W.InstAt h x (W.instObj C dx) C (some od)/\∀ name,W.lookIn name od=some (mA name) :=
 let⟨od,ho,hl⟩:=AN I.ns
 ⟨od,⟨I.obj,rfl,rfl,ho⟩,hl⟩
variable{pl:Sem Bool}{ns:List Str}{R:Result->Shared->Prop}{kw:List (Str×Value)}
section
variable{prog:Program}{w:World}{s:Shared}{K:W.Frag}{x f:Addr}{name:Str}{v:Value}
theorem get_map{expr:Bool}(X:K.In s.heap)(I:yA s.heap x dx C mA)(hg:W.plainGet K C name=true)(hh:W.hasDictIn K C=true)
  (ha:W.findIn K (.ref C) name=some none) (hv:mA name=some v) (hv':W.handedIn v=true) (h:Q v { s with toks:=s.toks+1 }) :
  wpAny (model prog w) A (getAttr (.ref x) name expr) Q E s:=by
 obtain⟨od,J,hl⟩:=I.look;exact W.get_value X J (W.plainGet_of hg).1 (W.findObj_own hh ha rfl (by rw[hl,hv])) hv' h
theorem D3{Q:Value×List Value->Shared->Prop}(X:K.In s.heap)(I:yA s.heap x dx C mA)(hg:W.plainGet K C name=true)
  (hf:W.findIn K (.ref C) name=some (some (.ref f))) (ht:W.isFn K (.ref f)=true) (hv:mA name=none) (h:Q (.ref f,[.ref x]) s) :
  wpAny (model prog w) A (getMethod (.ref x) name pl) Q E s:=by
 obtain⟨od,J,hl⟩:=I.look;exact W.method_fn X J (W.plainGet_of hg).1 (W.plainGet_of hg).2 hf (beq_iff_eq.mp ht) (by show(W.lookIn name od).map (·.isSome)=some false;rw[hl,hv];rfl) h
theorem F5{Q:Unit->Shared->Prop}(X:K.In s.heap)(I:yA s.heap x dx C mA)
  (hs:W.findIn K (.ref C) "__setattr__" = some (some (.builtin "object.__setattr__"))) (hp:W.plainOver K C=true) (ht:W.takerIn K C name=some none) (hh:W.hasDictIn K C=true)
  (hw:PySem.Within mA ns) (hsz:ns.length<=QD)
  (h:∀ h',yA h' x dx C (fun y=>if y=name then some v else mA y)->R8 dx s.heap h'->Q () { s with heap:=h',toks:=s.toks+2 }) :
  wpAny (model prog w) A (setAttr (.ref x) name v) Q E s:=by
 obtain⟨od,J,hl⟩:=I.look;refine W.set_plain X J hs (W.osa_open (s:={ s with toks:=s.toks+1 }) (r:=none) X J hp ht fun b=>?_)
 obtain⟨cd,hc,hd'⟩:=W.any_some hh;have hx:s.heap.get? x=some ⟨.ref C,some dx,.plain,#[]⟩:=I.obj;refine j2 (Lb (j2 (j2 (wpAny_loadPart hx (j2 (W.Looks.here (s:={ s with toks:=s.toks+1 }) (W.looks_clsIn X hc) ?_))))))
 rw[hd'];refine Lb (a:=some dx) (j2 (Lb (j2 ?_)));refine wpAny_nsSet1 (s:={ s with toks:=s.toks+1 }) I.ns fun h' hn2 hs2=>?_
 obtain⟨oD,esD,epD,hoD,hdD,hcD⟩:=hn2.count (PySem.Within.cons name v hw);refine j2 (wpAny_lookBehind hoD (by rw[hdD];exact pastItsLine_dict (Ra hcD (by rw[Rj];omega))) ?_)
 exact Lb (h _ ⟨(hs2.2 _ (Ne.symm I.ne)).trans I.obj,hn2,I.ne⟩ hs2)
theorem Dw{vs:List Value}(X:K.In s.heap)(hm:W.makesIn K C=true)
  (hi:W.findIn K (.ref C) "__init__" = some (some (.ref f))) (hf:W.typeIn K (.ref f)=some (.type "function"))
  (h:codeAny (model prog w) (A.under (.builtin "type.__call__" ⟨.ref C::vs,kw⟩)) (.call (.ref f) ⟨.ref (s.heap.objs.size+1)::vs,kw⟩) (W.InitBack (s.heap.objs.size+1) R)
   { s with heap:=(s.heap.push W.emptyDict).push (W.instObj C s.heap.objs.size) }) :
  codeAny (model prog w) A (.call (.ref C) ⟨vs,kw⟩) R s:=by
 obtain⟨hh,g,d,t,os⟩:=s;exact W.make_core (W.makes_of X hm) (W.looks_findIn X hi) (fun self=>W.bind_fn X self hf) (.inl rfl) h
end
def dm(f:Str)(v:V):List (Str×V)->List (Str×V)
 | []=>[(f,v)]
 | (g,x)::r=>if g=f then(g,v)::r else(g,x)::dm f v r
theorem nI(f g:Str)(v:V):∀ fs:List (Str×V),(dm f v fs).lookup g=if g=f then some v else fs.lookup g
 | []=>by
  show RS g [(f,v)]=_;by_cases h:g=f
  ·have hb:(g==f)=true:=beq_iff_eq.mpr h;simp only[RS,hb,if_pos h]
  ·have hb:(g==f)=false:=beq_eq_false_iff_ne.mpr h;simp only[RS,hb,if_neg h]
 | (k,x)::r=>by
  have ih:=nI f g v r;rw[show dm f v ((k,x)::r) =(if k=f then(k,v)::r else(k,x)::dm f v r)from rfl]
  by_cases hk:k=f
  ·rw[if_pos hk];by_cases h:g=k
   ·have hb:(g==k)=true:=beq_iff_eq.mpr h;simp only[RS,hb,if_pos (h.trans hk)]
   ·have hb:(g==k)=false:=beq_eq_false_iff_ne.mpr h;simp only[RS,hb,if_neg (fun e:g=f=>h (e.trans hk.symm))]
  ·rw[if_neg hk];by_cases h:g=k
   ·have hb:(g==k)=true:=beq_iff_eq.mpr h;simp only[RS,hb,if_neg (fun e:g=f=>hk (h.symm.trans e))]
   ·have hb:(g==k)=false:=beq_eq_false_iff_ne.mpr h;simp only[RS,hb];exact ih
theorem mX(f:Str)(v:V):∀ fs:List (Str×V),f∈(dm f v fs).map (·.1)/\∀ g,g∈fs.map (·.1)->g∈(dm f v fs).map (·.1)
 | []=>⟨by simp[dm],fun g h=>by simp at h⟩
 | (k,x)::r=>by
  obtain⟨i1,i2⟩:=mX f v r;rw[show dm f v ((k,x)::r) =(if k=f then(k,v)::r else(k,x)::dm f v r)from rfl]
  by_cases hk:k=f
  ·rw[if_pos hk];subst hk;exact⟨by simp,fun g h=>by simpa using h⟩
  ·rw[if_neg hk];refine⟨?_,fun g h=>?_⟩
   ·rw[Rt];exact j5 _ i1
   ·rw[Rt]at h ⊢;rcases QH.mp h with e|e
    ·exact QH.mpr (.inl e)
    ·exact j5 _ (i2 g e)
theorem nJ(f:Str)(v:V):∀ fs:List (Str×V),(dm f v fs).length<=fs.length+1
 | []=>by simp[dm]
 | (k,x)::r=>by
  have ih:=nJ f v r;rw[show dm f v ((k,x)::r) =(if k=f then(k,v)::r else(k,x)::dm f v r)from rfl]
  by_cases hk:k=f
  ·rw[if_pos hk,Rj,Rj];omega
  ·rw[if_neg hk,Rj,Rj];omega
theorem jt.some_of{v:V}{o:Option Value}(r:jt (some v) o):∃ u,o=some u/\RelV v u:=by
 cases o with
 | none=>exact(show False from r).elim
 | some u=>exact⟨u,rfl,r⟩
theorem jt.none_of{o:Option Value}(r:jt none o):o=none:=by
 cases o with
 | none=>rfl
 | some u=>exact(show False from r).elim
theorem A1{v:V}(r:RelV v u):W.handedIn u=true:=by
 cases v with
 | non=>cases(show u=Value.none from r);rfl
 | bl b=>cases(show u=Value.bool b from r);rfl
 | int i=>obtain⟨t,e⟩:=(show ∃ t,u=Value.int i t from r);cases e;rfl
 | str x=>obtain⟨t,e⟩:=(show ∃ t,u=Value.str x t from r);cases e;rfl
 | byt b=>obtain⟨t,e⟩:=(show ∃ t,u=Value.bytes b t from r);cases e;rfl
 | flt b=>obtain⟨t,e⟩:=(show ∃ t,u=Value.float b t from r);cases e;rfl
 | ref a=>cases(show u=Value.ref a from r);rfl
 | ty n=>cases(show u=Value.type n from r);rfl
section
variable{w:World}{h h':Heap}{fs fs':List (Str×V)}
theorem tZ(hok:HOk P w H h)(e:H a=some (.ins C dx fs)):∃ mA,yA h a dx C mA/\(∀ f,jt (fs.lookup f) (mA f))/\PySem.Within mA (fs.map (·.1))/\fs.length<=1000/\H dx=some (.own a):=by
 obtain⟨d,z,ne,ob,mA,n,r,q⟩:=(show bO P w H h a (.ins C dx fs)from hok a _ e);exact⟨mA,⟨ob,n,ne⟩,r,q,z,d⟩
end
structure Cls(K:W.Frag)(C:Addr):Prop where
 pg:W.plainGet K C Str.empty=true
 hd:W.hasDictIn K C=true
 po:W.plainOver K C=true
 sa:W.findIn K (.ref C) "__setattr__" = some (some (.builtin "object.__setattr__"))
theorem Cls.get{K:W.Frag}{C:Addr}(c:Cls K C)(f:Str):W.plainGet K C f=true:=c.pg
def bc(K:W.Frag)(C:Addr)(f:Str):Prop:=W.findIn K (.ref C) f=some none
theorem bc.LZ{K:W.Frag}{f:Str}(n:bc K C f):W.takerIn K C f=some none:=by
 unfold W.takerIn;rw[show W.findIn K (.ref C) f=some none from n];rfl
structure Meth(K:W.Frag)(C:Addr)(m:Str)(f:Addr):Prop where
 at_:W.findIn K (.ref C) m=some (some (.ref f))
 fn:W.isFn K (.ref f)=true
 kp:W.keepIn K (.ref f)=true
variable{prog:Program}{env:Env}
section
variable{σ:St}{s:Shared}{fs:List (Str×V)}{f:Str}{v:V}
theorem k9{b:Bool}(I:Inv X j0 σ H s)(e:H a=some (.ins C dx fs))(c:Cls X.K C)(n:bc X.K C f)(l:fs.lookup f=some v)
  (h:∀ u s',Inv X j0 σ H s'->RelV v u->Q u s'):wpAny (model X.prog X.w) A (getAttr (.ref a) f b) Q E s:=by
 obtain⟨mA,O,r,_,_,_⟩:=tZ I.hok e;obtain⟨u,hu,ru⟩:=jt.some_of (v:=v) (o:=mA f) (by rw[<- l];exact r f)
 exact get_map I.kIn O (c.get f) c.hd n hu (A1 ru) (h u _ (I.tok _) ru)
theorem pR{m:Str}{g:Addr}{Q:Value×List Value->Shared->Prop}(I:Inv X j0 σ H s)(e:H a=some (.ins C dx fs))(c:Cls X.K C)(k:Meth X.K C m g)(l:fs.lookup m=none)
  (h:Q (.ref g,[.ref a]) s):wpAny (model X.prog X.w) A (getMethod (.ref a) m pl) Q E s:=by
 obtain⟨mA,O,r,_,_,_⟩:=tZ I.hok e;have hn:mA m=none:=jt.none_of (by rw[<- l];exact r m)
 exact D3 I.kIn O (c.get m) k.at_ k.fn hn h
theorem oR{Q:Unit->Shared->Prop}(I:Inv X j0 σ H s)(e:H a=some (.ins C dx fs))(c:Cls X.K C)(n:bc X.K C f)(hl:fs.length<1000)(ry:RelV y u)
  (h:∀ s',Inv X j0 σ (upd H a (.ins C dx (dm f y fs))) s'->Q () s'):wpAny (model X.prog X.w) A (setAttr (.ref a) f u) Q E s:=by
 obtain⟨mA,O,r,wi,_,ho⟩:=tZ I.hok e;have hz:(fs.map (·.1)).length<=QD:=by rw[QR,Sv];omega
 refine F5 I.kIn O c.sa c.po n.LZ c.hd wi hz fun h' O' sb=>h _ ?_
 have hd:∃ o,h'.get? dx=some o:=let⟨o,_,_,e',_⟩:=O'.ns;⟨o,e'⟩
 refine I.write (x:=a) (e:=dx) (by rw[e];exact True.intro) (.inr ho) (fun b q hb z=>(sb.2 b hb).trans z) hd ?_
 refine⟨by rw[ah O.ne];exact ho,?_,O.ne,O'.obj,_,O'.ns,fun g=>?_,fun g hg=>?_⟩
 ·have:=nJ f y fs;omega
 ·show jt ((dm f y fs).lookup g) (if g=f then some u else mA g)
  rw[nI];by_cases q:g=f
  ·rw[if_pos q,if_pos q];exact ry
  ·rw[if_neg q,if_neg q];exact r g
 ·by_cases q:g=f
  ·rw[q];exact(mX f y fs).1
  ·refine(mX f y fs).2 g (wi g fun z=>hg ?_)
   show(if g=f then some u else mA g)=none
   rw[if_neg q];exact z
theorem Inv.made(I:Inv X j0 σ H s):Inv X j0 σ (upd (upd H s.heap.objs.size (.own (s.heap.objs.size+1))) (s.heap.objs.size+1) (.ins C s.heap.objs.size []))
  { s with heap:=(s.heap.push W.emptyDict).push (W.instObj C s.heap.objs.size) }:=by
 have e1:(s.heap.push W.emptyDict).get? s.heap.objs.size=some W.emptyDict:=QV s.heap rfl;have e2:((s.heap.push W.emptyDict).push (W.instObj C s.heap.objs.size)).get? (s.heap.objs.size+1)=some (W.instObj C s.heap.objs.size):=by
  have:=QV (s.heap.push W.emptyDict) (o:=W.instObj C s.heap.objs.size) rfl
  rwa [Rb]at this
 have e3:(s.heap.push W.emptyDict).Ns s.heap.objs.size (fun _=>none):=⟨W.emptyDict,#[],_,e1,rfl,(fun e he=>absurd he (by simp)),fun _=>rfl⟩
 have I1:=I.laid (a:=s.heap.objs.size) (o:=.own (s.heap.objs.size+1)) (h':=s.heap.push W.emptyDict) (t':=s.toks) (fun b u q=>j3 _ q) (QX _) ⟨_,e1⟩
 refine I1.laid (a:=s.heap.objs.size+1) (o:=.ins C s.heap.objs.size []) (t':=s.toks) (fun b u q=>j3 _ q) (Nat.le_of_eq (Rb _ _)) ?_
 have ne:s.heap.objs.size≠s.heap.objs.size+1:=Rg (R5 _);refine⟨by rw[ah ne,ar],RE _,ne,e2,fun _=>none,(Heap.Ns1.of_empty e3).at fun o q=>j3 _ q,fun _=>True.intro,fun y hy=>absurd rfl hy⟩
theorem zJ{w:World}{f:Str}{s:Shared}(hb:attributeBase e f env (eval e env)=eval e env)
  (h:wpAny (model prog w) A (eval e env) (fun o s₁=>wpAny (model prog w) A (getAttr o f true) Q E s₁) E s):wpAny (model prog w) A (eval (.Attribute e f pos) env) Q E s :=
 Attribute_any_ h (by rw[arm_eval_Attribute,hb])
end
def JQ(K:W.Frag)(ta:TE)(f:Str):TE:=fun σ H Q=>ta σ H fun x H1=>∃ a C dx fs v,x = .ref a/\H1 a=some (.ins C dx fs)/\Cls K C/\bc K C f/\fs.lookup f=some v/\Q v H1
def Mf(K:W.Frag)(ta tv:TE)(f:Str):TS:=fun D σ H=>tv σ H fun y H1=>ta σ H1 fun x H2=>∃ a C dx fs,x = .ref a/\H2 a=some (.ins C dx fs)/\Cls K C/\bc K C f/\fs.length<1000 /\
 D.nx σ (upd H2 a (.ins C dx (dm f y fs)))
def LC(X:Cx)(op:Operator)(rd:V->V->Hp->VK->Prop):Prop :=
 ∀(j0:List (Addr×Obj))(s:Shared)(σ:St)(H:Hp)(x y:V)(u v:Value)(Q:VK),Inv X j0 σ H s->RelV x u->RelV y v->rd x y H Q->wpAny (model X.prog X.w) X.A (inplaceOp op u v) (EP X j0 σ Q) X.xe s
def yQ(K:W.Frag)(ta tv:TE)(rd:V->V->Hp->VK->Prop)(f:Str):TS:=fun D σ H=>ta σ H fun x H1=>∃ a C dx fs v,x = .ref a/\H1 a=some (.ins C dx fs)/\Cls K C/\bc K C f/\fs.lookup f=some v /\
 tv σ H1 fun y H2=>rd v y H2 fun z H3=>∃ dx' fs',H3 a=some (.ins C dx' fs')/\fs'.length<1000/\D.nx σ (upd H3 a (.ins C dx' (dm f z fs')))
section
variable{value:Expr}{f:Str}{B1:Pos}{ta tv:TE}
theorem C9(he:PE X e ta)(hb:attributeBase e f X.env (eval e X.env)=eval e X.env):PE X (.Attribute e f pos) (JQ X.K ta f):=by
 intro j0 s σ H Q I h;refine zJ hb (thn (he j0 s σ H _ I h) fun u s1 hPP=>?_)
 obtain⟨x,H1,I1,rx,a,C,dx,fs,v,ex,ea,c,n,l,q⟩:=hPP;subst ex;obtain rfl:u=Value.ref a:=rx;exact k9 I1 ea c n l fun u' s2 I2 ru=>⟨v,H1,I2,ru,q⟩
theorem sQ(ha:PE X o ta)(hv:PE X value tv)(hs:swapsWith value (some (.Attribute o f pos')) pos.line X.env=pure false):PS X (.Assign [.Attribute o f pos'] value pos) (Mf X.K ta tv f):=by
 intro j0 s σ H D I h;refine plainObj_wpAny_Assign_Attribute (thn (hv j0 s σ H _ I h) fun u s1 ⟨y,H1,I1,ry,q⟩=>thn (ha j0 s1 σ H1 _ I1 q) fun ov s2 hPP=>?_) hs
 obtain⟨x,H2,I2,rx,a,C,dx,fs,ex,ea,c,n,l,q2⟩:=hPP;subst ex;obtain rfl:ov=Value.ref a:=rx;exact oR I2 ea c n l ry fun s3 I3=>⟨σ,_,I3,q2⟩
theorem Aj{rd:V->V->Hp->VK->Prop}(ha:PE X o ta)(hv:PE X value tv)(hop:LC X op rd):PS X (.AugAssign (.Attribute o f B1) op value pos) (yQ X.K ta tv rd f):=by
 intro j0 s σ H D I h;refine wpAny_AugAssign_AttributeAny (thn (ha j0 s σ H _ I h) fun ov s1 hPP=>?_)
 obtain⟨x,H1,I1,rx,a,C,dx,fs,v,ex,ea,c,n,l,q⟩:=hPP;subst ex;obtain rfl:ov=Value.ref a:=rx;refine k9 I1 ea c n l fun u s2 I2 ru=>thn (hv j0 s2 σ H1 _ I2 q) fun w3 s3 ⟨y,H2,I3,ry,q3⟩=>thn (hop j0 s3 σ H2 v y u w3 _ I3 ru ry q3) fun w4 s4 hPP=>?_
 obtain⟨z,H3,I4,rz,dx',fs',ea',l',q4⟩:=hPP;exact oR I4 ea' c n l' rz fun s5 I5=>⟨σ,_,I5,q4⟩
def J5:V->V->Hp->VK->Prop:=fun x y H Q=>∃ i j,x = .int i/\y = .int j/\Q (.int (i+j)) H
theorem x3:LC X .Add J5:=by
 rintro j0 s σ H x y u v Q I rx ry ⟨i,j,rfl,rfl,q⟩
 obtain⟨t,rfl⟩:=(show ∃ t,u=Value.int i t from rx)
 obtain⟨t',rfl⟩:=(show ∃ t',v=Value.int j t' from ry)
 exact PyProof.Rows.iadd_int ⟨.int (i+j),H,I.tok _,⟨_,rfl⟩,q⟩
end
structure bT(k:Nat)(A:Around):Prop where
 hd:A.handled=none
 dp:A.depth+3*k+5<recursionLimit
 un:A.units+16*k+200<cLine
theorem bT.mono{k:Nat}(r:bT k A)(h:j<=k):bT j A:=⟨r.hd,by have:=r.dp;omega,by have:=r.un;omega⟩
theorem bT.deeper{k:Nat}{A:Around}(r:bT (k+1) A)(env:Env):bT k (A.deeper env) :=
 ⟨r.hd,by have:=r.dp;show A.depth+1+3*k+5<_;omega,by have:=r.un;show A.units+3+16*k+200<_;omega⟩
theorem xI:(A.under (.builtin "type.__call__" ⟨.ref C::us,kw⟩)).depth=A.depth+1:=by
 first|rfl|simp[Tn,Code.weight,Code.isCreation,Code.isGuard,Code.isCaller,Code.frames,Code.isFrame,guardIds]
theorem xH:(A.under (.builtin "type.__call__" ⟨.ref C::us,kw⟩)).units=A.units+1:=by
 first|rfl|simp[Tn,Code.cUnits,Code.frames,Code.isFrame]
theorem bT.make{k:Nat}{A:Around}(r:bT (k+1) A)(C:Addr)(us:List Value)(kw:List (Str×Value)):bT k (A.under (.builtin "type.__call__" ⟨.ref C::us,kw⟩)) :=
 ⟨r.hd,by have:=r.dp;rw[xI];omega,by have:=r.un;rw[xH];omega⟩
theorem bT.depth{k:Nat}{A:Around}(r:bT k A):A.depth<recursionLimit:=by have:=r.dp;omega
theorem bT.units{k:Nat}{A:Around}(r:bT k A):A.units+64<cLine:=by have:=r.un;omega
def jq:TA:=fun _ H Q=>Q [] H
def il(ta:TE)(tr:TA):TA:=fun σ H Q=>ta σ H fun x H1=>tr σ H1 fun xs H2=>Q (x::xs) H2
section
variable{t:TA}
theorem h8:PA X [] jq:=fun _ _ _ _ H Q I h=>Calls.spliced_nil ⟨[],H,I,.nil,h⟩
theorem cC(ha:PE X e te)(hr:PA X es t)(hs:L9 (e::es) X.env =(false,eval e X.env)::L9 es X.env:=by rfl):PA X (e::es) (il te t):=by
 intro pos j0 s σ H Q I h;rw[hs];show wpAny _ _ (spliced ((false,eval e X.env)::backTo pos (L9 es X.env))) _ _ s;refine Calls.spliced_cons (thn (ha j0 s σ H _ I h) fun u s1 hPP=>?_)
 obtain⟨x,H1,I1,r1,q1⟩:=hPP;refine thn (hr pos j0 s1 σ H1 _ I1 q1) fun us s2 hPP=>?_
 obtain⟨xs,H2,I2,r2,q2⟩:=hPP;exact⟨x::xs,H2,I2,.cons r1 r2,q2⟩
def L0(t:TA):TE:=fun σ H Q=>t σ H fun xs H1=>xs.length<=QD/\∀ p,H1 p=none->Q (.ref p) (upd H1 p (.tup xs))
def L3(t:TA):TE:=fun σ H Q=>t σ H fun xs H1=>xs.length<=QD/\∀ p,H1 p=none->Q (.ref p) (upd H1 p (.lst xs))
theorem KD{x1}(h:PA X es t):PE X (.Tuple es x1 pos) (L0 t):=by
 intro j0 s σ H Q I hq;refine wpAny_Tuple_spliced (thn (h pos j0 s σ H _ I hq) fun us s1 ⟨xs,H1,I1,r,z,q⟩=>⟨by rw[<- r.length];exact z,?_⟩)
 have hf:H1 s1.heap.objs.size=none:=I1.hok.fresh (QX _);refine⟨.ref s1.heap.objs.size,upd H1 s1.heap.objs.size (.tup xs),I1.laid (t':=s1.toks) (fun b u e=>j3 _ e) (QX _) ?_,rfl,q _ hf⟩
 exact⟨z,us,r,⟨⟨_,QV _ rfl,rfl,_,rfl⟩,_,QV _ rfl,rfl⟩⟩
theorem KH(h:PA X es t):PE X (.List es pos) (L3 t):=by
 intro j0 s σ H Q I hq;refine wpAny_List_spliced (thn (h pos j0 s σ H _ I hq) fun us s1 ⟨xs,H1,I1,r,z,q⟩=>⟨by rw[<- r.length];exact z,?_⟩)
 have hf:H1 s1.heap.objs.size=none:=I1.hok.fresh (QX _);refine⟨.ref s1.heap.objs.size,upd H1 s1.heap.objs.size (.lst xs),I1.laid (t':=s1.toks) (fun b u e=>j3 _ e) (QX _) ?_,rfl,q _ hf⟩
 exact⟨z,us,0,r,QV _ rfl⟩
end
abbrev Sp:=List V->Hp->VK->XK->Prop
abbrev CXT:=List Env->Hp->Shared->XK->Value->Shared->Prop
structure yD(P:Program)(w:World)(K:W.Frag)(mg:Str->Option Value)(base:Heap)(A:Around)(outer:List Env)(s:Shared)(H:Hp):Prop where
 frames:A.frames=some outer
 mod:Mod K mg base
 bs:∀ b o,base.get? b=some o->s.heap.get? b=some o/\H b=none
 bsz:base.objs.size<=s.heap.objs.size
 nY:s.heap.FunFrames base outer
 frf:∀ b∈frs outer,H b=none
 hok:HOk P w H s.heap
 bare:AllBare s.gens
def CE(outer:List Env)(P:Program)(w:World)(H:Hp)(s:Shared)(Q:VK)(u:Value)(s':Shared):Prop :=
 ∃ v H',s'.os=s.os/\AllBare s'.gens/\Un (frs outer) [] H H' s.heap s'.heap/\HOk P w H' s'.heap/\RelV v u/\Q v H'
def CR(CX:CXT)(outer:List Env)(P:Program)(w:World)(H:Hp)(s:Shared)(Q:VK)(E:XK)(r:Result)(s':Shared):Prop :=
 match r with
 | .ok (.ret u)=>CE outer P w H s Q u s'
 | .ok _=>False
 | .error e=>CX outer H s E e s'
structure aQ(P:Program)(w:World)(K:W.Frag)(mg:Str->Option Value)(base:Heap)(CX:CXT)(k:Nat)(f:Addr)(fd:FuncData)(ps:List Str)(sp:Sp):Prop where
 len:∀ vs H Q E,sp vs H Q E->vs.length=ps.length
 run:∀(A:Around)(outer:List Env)(s:Shared)(H:Hp)(args:Args)(us:List Value)(vs:List V)(Q:VK)(E:XK),bT k A->yD P w K mg base A outer s H->BindsTo s fd args (ps.zip us)->Vals vs us->sp vs H Q E ->
  codeAny (model P w) A (.call (.ref f) args) (CR CX outer P w H s Q E) s
variable{mg:Str->Option Value}{base:Heap}{CX:CXT}{fd:FuncData}{ps:List Str}{sp:Sp}
theorem aQ.imp{w:World}{K:W.Frag}{k:Nat}{f:Addr}{sp':Sp}(F:aQ P w K mg base CX k f fd ps sp)
  (h:∀ vs H Q E,sp' vs H Q E->sp vs H Q E):aQ P w K mg base CX k f fd ps sp' :=
 ⟨fun vs H Q E q=>F.len vs H Q E (h _ _ _ _ q),fun A outer s H args us vs Q E hr he hb hv hs=>F.run A outer s H args us vs Q E hr he hb hv (h _ _ _ _ hs)⟩
theorem yD.make{P:Program}{w:World}{K:W.Frag}{mg:Str->Option Value}{base:Heap}{A:Around}{outer:List Env}{s:Shared}{H:Hp}(e:yD P w K mg base A outer s H)(C:Addr)(us:List Value)(kw:List (Str×Value)) :
  yD P w K mg base (A.under (.builtin "type.__call__" ⟨.ref C::us,kw⟩)) outer s H:=⟨by first|exact e.frames |(simpa [Tn,Code.envs,Code.isFrame,pushEnvs]using e.frames),e.mod,e.bs,e.bsz,e.nY,e.frf,e.hok,e.bare⟩
section
variable{σ:St}{s:Shared}
theorem Inv.NG(I:Inv X j0 σ H s):yD X.prog X.w X.K X.mg X.base X.A X.stack s H :=
 ⟨I.ok.frames,I.ok.mod,I.bs,Ra I.ok.bsz I.sz,I.stack,I.yM,I.hok,I.bare⟩
theorem Inv.after{Q:VK}(I:Inv X j0 σ H s)(h:CE X.stack X.prog X.w H s Q u s'):EP X j0 σ Q u s':=by
 obtain⟨v,H',os,bare,un,hok,r,q⟩:=h;obtain⟨hh,g,d,t,os'⟩:=s';obtain rfl:os'=s.os:=os;exact⟨v,H',I.call (h':=hh) (g':=g) (d':=d) (t':=t) (ch:=[]) un hok bare (fun b z=>absurd z (by simp)),r,q⟩
end
def yL(sp:Sp)(dvs:List V)(E:XK)(t:TA):TE:=fun σ H Q=>t σ H fun vs H1=>sp (vs++dvs) H1 Q E
def lE(C:Addr)(m:Str)(sp:Sp)(dvs:List V)(E:XK)(ta:TE)(t:TA):TE:=fun σ H Q=>ta σ H fun x H1=>∃ a dx fs,x = .ref a/\H1 a=some (.ins C dx fs)/\fs.lookup m=none /\
 t σ H1 fun vs H2=>sp (x ::(vs++dvs)) H2 Q E
def B4(C:Addr)(sp:Sp)(dvs:List V)(E:XK)(t:TA):TE:=fun σ H Q=>t σ H fun vs H1=>∀ x dx,H1 x=none->H1 dx=none->dx≠x ->
 sp (.ref x ::(vs++dvs)) (upd (upd H1 dx (.own x)) x (.ins C dx [])) (fun v H2=>v = .non/\Q (.ref x) H2) E
def Binds(K:W.Frag)(fd:FuncData)(ps:List Str)(ds:List Value):Prop :=
 ∀(s:Shared)(us:List Value),K.In s.heap ->(us++ds).length=ps.length->BindsTo s fd ⟨us,[]⟩ (ps.zip (us++ds))
theorem Binds.all{K:W.Frag}(h:∀ us:List Value,us.length=ps.length->bindArgs fd ⟨us,[]⟩=pure (ps.zip us)):Binds K fd ps []:=fun s us _ hl=>by
 rw[Q6]at hl ⊢;exact .of_eq (h us hl)
def Passes(CX:CXT)(X:Cx)(E:XK):Prop:=∀(j0:List (Addr×Obj))(σ:St)(H:Hp)(s:Shared)(e:Value)(s':Shared),Inv X j0 σ H s->CX X.stack H s E e s'->X.xe e s'
section
variable{k:Nat}{f:Addr}{dvs:List V}{ds:List Value}{E:XK}{m:Str}{apos:Pos}{ta:TE}{t:TA}
theorem wZ{σ:St}{s:Shared}{Q:VK}{vs:List V}(F:aQ X.prog X.w X.K X.mg X.base CX k f fd ps sp)(hr:bT k X.A)(hb:Binds X.K fd ps ds)(hd:Vals dvs ds)(hx:Passes CX X E)
  (I:Inv X j0 σ H s) (r:Vals vs us) (h:sp (vs++dvs) H Q E):wpAny (model X.prog X.w) X.A (call (.ref f) us) (EP X j0 σ Q) X.xe s:=by
 have r2:Vals (vs++dvs) (us++ds):=r.append hd;have hl:(us++ds).length=ps.length:=by rw[<- r2.length];exact F.len _ _ _ _ h
 refine wpAny_call (codeAny_mono (F.run X.A X.stack s H ⟨us,[]⟩ (us++ds) (vs++dvs) Q E hr I.NG (hb s us I.kIn hl) r2 h) fun r s' hq=>?_)
 cases r with
 | error e=>exact hx j0 σ H s e s' I hq
 | ok fl =>
  cases fl with
  | ret u=>exact I.after hq
  | next=>exact False.elim hq
  | brk=>exact False.elim hq
  | cont=>exact False.elim hq
theorem zc(F:aQ X.prog X.w X.K X.mg X.base CX k f fd ps sp)(hr:bT k X.A)(hg:Gl X x)(hm:X.mg x=some (.ref f))(hk:W.keepIn X.K (.ref f)=true)(hb:Binds X.K fd ps ds)(hd:Vals dvs ds)(hx:Passes CX X E)
  (ha:PA X (e::es) t) (hdb:(x ==("__debug__":Str))=false:=by decide) (he:L9 (e::es) X.env =(false,eval e X.env)::L9 es X.env:=by rfl) (hpl:(backTo pos (L9 es X.env)).any (·.1)=false:=by rfl) :
  PE X (.Call (.Name x p) (e::es) [] pos) (yL sp dvs E t):=by
 intro j0 s σ H Q I h;refine Rr (oC I hg hm ?_ hdb);refine W.callWith_K (h₀:=X.base) I.ok.mod.kin hk (thn (ha pos j0 s σ H _ I h) fun us s1 ⟨vs,H1,I1,r,q⟩=>⟨I1.kIn,?_⟩) he hpl
 exact wZ F hr hb hd hx I1 r q
theorem y9{pl:Sem Bool}(he:PE X o ta)(c:Cls X.K C)(hm:Meth X.K C m f)(F:aQ X.prog X.w X.K X.mg X.base CX k f fd ps sp)(hr:bT k X.A)(hb:Binds X.K fd ps ds)(hd:Vals dvs ds)(hx:Passes CX X E)(ha:PA X (e::es) t)
  (hst:L9 (e::es) X.env =(false,eval e X.env)::L9 es X.env:=by rfl) (hpl:(backTo pos (L9 es X.env)).any (·.1)=false:=by rfl)
  (ht:eval (.Call (.Attribute o m apos) (e::es) [] pos) X.env =(do
   let ov <- eval o X.env
   standAt apos.atName
   let(f,first) <- holding [ov] (getMethod ov m pl)
   callWith pos f first (backTo pos (L9 (e::es) X.env)) (backToKw pos (keywordEach [] X.env))):=by rfl) :
  PE X (.Call (.Attribute o m apos) (e::es) [] pos) (lE C m sp dvs E ta t):=by
 intro j0 s σ H Q I h;refine W.methodCall_KW (pl:=pl) (thn (he j0 s σ H _ I h) fun u s1 hPP=>?_) ht
 obtain⟨x,H1,I1,rx,a,dx,fs,ex,ea,l,q⟩:=hPP;subst ex;obtain rfl:u=Value.ref a:=rx;refine pR I1 ea c hm l ?_;refine W.callWith_K (first:=[.ref a]) (h₀:=X.base) I.ok.mod.kin hm.kp (thn (ha pos j0 s1 σ H1 _ I1 q) fun us s2 ⟨vs,H2,I2,r,q2⟩=>⟨I2.kIn,?_⟩) hst hpl
 exact wZ (us:=.ref a::us) (vs:=.ref a::vs) F hr hb hd hx I2 (.cons rfl r) q2
theorem pq(he:PE X o ta)(c:Cls X.K C)(hm:Meth X.K C m f)(F:aQ X.prog X.w X.K X.mg X.base CX k f fd ps sp)(hr:bT k X.A)(hb:Binds X.K fd ps ds)(hd:Vals dvs ds)(hx:Passes CX X E)
  (ht:eval (.Call (.Attribute o m apos) [] [] pos) X.env =(do
   let ov <- eval o X.env
   standAt apos.atName
   let(f,first) <- holding [ov] (getMethod ov m pl)
   callWith pos f first (backTo pos (L9 [] X.env)) (backToKw pos (keywordEach [] X.env))):=by rfl) :
  PE X (.Call (.Attribute o m apos) [] [] pos) (lE C m sp dvs E ta jq):=by
 intro j0 s σ H Q I h;refine W.methodCall_KW (pl:=pl) (thn (he j0 s σ H _ I h) fun u s1 hPP=>?_) ht
 obtain⟨x,H1,I1,rx,a,dx,fs,ex,ea,l,q⟩:=hPP;subst ex;obtain rfl:u=Value.ref a:=rx;refine pR I1 ea c hm l ?_;exact W.callWith_K0 (first:=[.ref a]) I1.kIn hm.kp (wZ (us:=[.ref a]) (vs:=[.ref a]) F hr hb hd hx I1 (.cons rfl .nil) q)
structure Mk(K:W.Frag)(C f:Addr):Prop where
 makes:W.makesIn K C=true
 init:W.findIn K (.ref C) "__init__" = some (some (.ref f))
 fn:W.isFn K (.ref f)=true
 kp:W.keepIn K (.ref C)=true
theorem uX{σ:St}{s:Shared}{Q:VK}{vs:List V}(M:Mk X.K C f)(F:aQ X.prog X.w X.K X.mg X.base CX k f fd ps sp)(hr:bT (k+1) X.A)(hb:Binds X.K fd ps ds)(hd:Vals dvs ds)
  (hx:Passes CX X E) (I:Inv X j0 σ H s) (r:Vals vs us)
  (h:∀ x dx,H x=none->H dx=none->dx≠x->sp (.ref x ::(vs++dvs)) (upd (upd H dx (.own x)) x (.ins C dx [])) (fun v H2=>v = .non/\Q (.ref x) H2) E) :
  wpAny (model X.prog X.w) X.A (call (.ref C) us) (EP X j0 σ Q) X.xe s:=by
 have hq:=h (s.heap.objs.size+1) s.heap.objs.size (I.hok.fresh (Nat.le_succ _)) (I.hok.fresh (QX _)) (Rg (R5 _));have I2:=Inv.made (C:=C) I;have r2:Vals (V.ref (s.heap.objs.size+1) ::(vs++dvs)) (Value.ref (s.heap.objs.size+1) ::(us++ds)):=.cons rfl (r.append hd);have hl:(Value.ref (s.heap.objs.size+1)::us++ds).length=ps.length:=by
  have e:=r2.length;rw[F.len _ _ _ _ hq]at e;exact e.symm
 refine wpAny_call (Dw (f:=f) I.kIn M.makes M.init (beq_iff_eq.mp M.fn) (codeAny_mono (F.run _ X.stack _ _ ⟨Value.ref (s.heap.objs.size+1)::us,[]⟩ (Value.ref (s.heap.objs.size+1) ::(us++ds)) _ _ E (hr.make C us [])
  (I2.NG.make C us []) (hb _ (Value.ref (s.heap.objs.size+1)::us) I2.kIn hl) r2 hq) fun r s' hq'=>?_))
 cases r with
 | error e=>exact hx j0 σ _ _ e s' I2 hq'
 | ok fl =>
  cases fl with
  | ret u =>
   obtain⟨v,H',I3,rv,ev,q3⟩:=I2.after hq';subst ev;exact⟨rv,⟨V.ref (s.heap.objs.size+1),H',I3,rfl,q3⟩⟩
  | next=>exact False.elim hq'
  | brk=>exact False.elim hq'
  | cont=>exact False.elim hq'
theorem GS(M:Mk X.K C f)(F:aQ X.prog X.w X.K X.mg X.base CX k f fd ps sp)(hr:bT (k+1) X.A)(hg:Gl X x)(hm:X.mg x=some (.ref C))(hb:Binds X.K fd ps ds)(hd:Vals dvs ds)(hx:Passes CX X E)
  (ha:PA X (e::es) t) (hdb:(x ==("__debug__":Str))=false:=by decide) (he:L9 (e::es) X.env =(false,eval e X.env)::L9 es X.env:=by rfl) (hpl:(backTo pos (L9 es X.env)).any (·.1)=false:=by rfl) :
  PE X (.Call (.Name x p) (e::es) [] pos) (B4 C sp dvs E t):=by
 intro j0 s σ H Q I h;refine Rr (oC I hg hm ?_ hdb);refine W.callWith_K (h₀:=X.base) I.ok.mod.kin M.kp (thn (ha pos j0 s σ H _ I h) fun us s1 ⟨vs,H1,I1,r,q⟩=>⟨I1.kIn,?_⟩) he hpl
 exact uX M F hr hb hd hx I1 r q
end
def PK(X:Cx)(kws:List Keyword)(t:TA):Prop :=
 ∀(pos:Pos)(j0:List (Addr×Obj))(s:Shared)(σ:St)(H:Hp)(Q:List V->Hp->Prop),Inv X j0 σ H s->t σ H Q->wpAny (model X.prog X.w) X.A (evalAll ((backToKw pos (keywordEach kws X.env)).map (·.2))) (AP X j0 σ Q) X.xe s
section
variable{k:Nat}{f:Addr}{ks:List Str}{E:XK}{m:Str}{apos kpos:Pos}{kws:List Keyword}{ta:TE}{t tk:TA}{nm:Option Str}
theorem Ky:PK X [] jq:=fun _ _ _ _ H Q I h=>wpAny_evalAll_nil ⟨[],H,I,.nil,h⟩
theorem GP(ha:PE X e te)(hr:PK X kws t):PK X (⟨nm,e,kpos⟩::kws) (il te t):=by
 intro pos j0 s σ H Q I h;show wpAny _ _ (evalAll ((do let v <- eval e X.env;standAt pos;pure v) ::(backToKw pos (keywordEach kws X.env)).map (·.2))) _ _ s
 refine wpAny_evalAll_cons (j2 (thn (ha j0 s σ H _ I h) fun u s1 ⟨x,H1,I1,r1,q1⟩=>j2 (wpAny_standAt (Lb ?_))))
 refine thn (hr pos j0 s1 σ H1 _ I1 q1) fun us s2 hPP=>?_
 obtain⟨xs,H2,I2,r2,q2⟩:=hPP;exact⟨x::xs,H2,I2,.cons r1 r2,q2⟩
variable{g:List Value->List Value->List Value}{gV:List V->List V->List V}
end
structure aA(N P:List Str)(sc:Scope):Prop where
 kind:sc.kind = .function
 co:sc.isCoroutine=false
 gen:sc.isGenerator=false
 nd:N.Nodup
 pre:N.take P.length=P
 par:∀ x∈P,sc.names.lookup x=some .local\/sc.names.lookup x=some .cell
 KW:∀ y∈sc.names,y.2 ≠ .free
theorem rS{kindOf:Str->Option NameKind}{x:Str}:∀{binds:List (Str×Value)}{m:Str->Option Value},(∀ v,(x,v) ∉ binds)->bindL kindOf binds m x=m x
 | [],_,_=>rfl
 | (n,v)::r,m,h=>by
  unfold bindL;rw[rS fun w hw=>h w (j5 _ hw)]
  split
  ·have:x≠n:=by rintro rfl;exact h v qr
   simp[this]
  ·rfl
theorem rV{kindOf:Str->Option NameKind}{x:Str}:∀{binds:List (Str×Value)}{m:Str->Option Value},(∀ v,(x,v) ∉ binds)->bindC kindOf binds m x=m x
 | [],_,_=>rfl
 | (n,v)::r,m,h=>by
  unfold bindC;rw[rV fun w hw=>h w (j5 _ hw)]
  split
  ·rfl
  ·have:x≠n:=by rintro rfl;exact h v qr
   simp[this]
theorem rT{kindOf:Str->Option NameKind}{x:Str}{v:Value}:∀{P:List Str}{vs:List Value}{i:Nat}{m:Str->Option Value},P.Nodup->P[i]? = some x->vs[i]? = some v->kindOf x=some .local ->
  bindL kindOf (P.zip vs) m x=some v
 | [],_,_,_,_,h,_,_=>by simp at h
 | _::_,[],_,_,_,_,h,_=>by simp at h
 | p::P,w::vs,0,m,nd,h1,h2,hk=>by
  simp at h1 h2;subst h1;subst h2;show bindL kindOf ((p,w)::P.zip vs) m p=_;unfold bindL;rw[rS fun v hv=>(Q5.mp nd).1 (S2 hv).1,if_pos hk]
  simp
 | p::P,w::vs,i+1,m,nd,h1,h2,hk=>by
  show bindL kindOf ((p,w)::P.zip vs) m x=_;unfold bindL;exact rT (i:=i) (Q5.mp nd).2 (by simpa using h1) (by simpa using h2) hk
theorem rW{kindOf:Str->Option NameKind}{x:Str}{v:Value}:∀{P:List Str}{vs:List Value}{i:Nat}{m:Str->Option Value},P.Nodup->P[i]? = some x->vs[i]? = some v->kindOf x≠some .local ->
  bindC kindOf (P.zip vs) m x=some v
 | [],_,_,_,_,h,_,_=>by simp at h
 | _::_,[],_,_,_,_,h,_=>by simp at h
 | p::P,w::vs,0,m,nd,h1,h2,hk=>by
  simp at h1 h2;subst h1;subst h2;show bindC kindOf ((p,w)::P.zip vs) m p=_;unfold bindC;rw[rV fun v hv=>(Q5.mp nd).1 (S2 hv).1,if_neg hk]
  simp
 | p::P,w::vs,i+1,m,nd,h1,h2,hk=>by
  show bindC kindOf ((p,w)::P.zip vs) m x=_;unfold bindC;exact rW (i:=i) (Q5.mp nd).2 (by simpa using h1) (by simpa using h2) hk
def start(N:List Str)(vs:List V):St:=vs.map some++Ri (N.length - vs.length) none
def qW(CX:CXT)(P:Program)(w:World)(K:W.Frag)(mg:Str->Option Value)(base:Heap)(N:List Str)(qual:Str)(scope:Scope)(f:Addr)(cd:Value)(A:Around)(outer:List Env)(s:Shared)(H:Hp)(E:XK):Cx where
 prog:=P
 w:=w
 K:=K
 mg:=mg
 base:=base
 A:=A.deeper (envOfC qual scope s.heap.objs.size f cd)
 N:=N
 s₀:=s
 H₀:=H
 env:=envOfC qual scope s.heap.objs.size f cd
 outer:=outer
 stack:=envOfC qual scope s.heap.objs.size f cd::outer
 ex:=[]
 calm:=true
 fn:=fun _=>true
 pn:=[]
 xe:=fun e s'=>wpAny (model P w) (A.deeper (envOfC qual scope s.heap.objs.size f cd)) (leaving (envOfC qual scope s.heap.objs.size f cd) e) (fun _ s''=>CX outer H s E e s'') (fun e' s''=>CX outer H s E e' s'') s'
variable{sc:Scope}
theorem vP(h:sc.names.lookup x=some .cell):∃ c,(cellsFrom n sc.names []).lookup x=some c:=by
 have q:=W.cellsFrom_some sc.names n [] (.inl h);exact Option.isSome_iff_exists.mp q
variable{qual:Str}{scope:Scope}
theorem AY{w:World}{K:W.Frag}{f:Addr}{cd:Value}{outer:List Env}{s s1:Shared}{E:XK}{vs:List V}
  (S:aA N ps scope) (hd:A.handled=none) (e0:yD P w K mg base A outer s H) (hl:vs.length=ps.length) (r:Vals vs us)
  (x:InCallC s s.heap.objs.size (bindL (envOfC qual scope s.heap.objs.size f cd).kindOf (ps.zip us) fun _=>none) (cellsFrom (s.heap.objs.size+1) scope.names []) (bindC (envOfC qual scope s.heap.objs.size f cd).kindOf (ps.zip us) fun _=>none) s1) :
  Inv (qW CX P w K mg base N qual scope f cd A outer s H E) [] (start N vs) H s1:=by
 have hpl:ps.length<=N.length:=by have:=congrArg TK S.pre;rw[RP]at this;omega
 obtain⟨h1,tk,rfl,hk⟩:=x.done;have noA:∀ b:Addr,b ∉ (qW CX P w K mg base N qual scope f cd A outer s H E).ex:=fun b z=>absurd (show b∈([]:List Addr)from z) (by simp)
 refine⟨⟨e0.mod,S.kind,rfl,rfl,QX _,fun y z c h1 h2=>?_,fun y hy=>?_,fun y c _ h=>?_,fun _=>hd,Around.frames_deeper e0.frames,.inr ⟨rfl,rfl⟩,fun b z=>absurd z (noA b),e0.bs,e0.bsz,fun b _ _=>noA b,fun b z=>absurd z (noA b),e0.nY,e0.frf⟩,
  rfl,e0.bare,Un.kept hk,⟨_,x.toInCall.ns,fun i y v h1 h2 h3=>?_⟩,fun y c h=>⟨_,x.cell y c h⟩,e0.hok.fresh (QX _),fun y c h=>?_,fun p hp=>absurd (show p∈([]:List (Addr×Obj))from hp) (by simp),e0.hok.kept hk,?_⟩
 ·exact name_of_addr x.apart (PySem.mem_of_lookup h1) (PySem.mem_of_lookup h2)
 ·have hy:scope.names.lookup y=some .cell\/scope.names.lookup y=some .free:=hy;rcases hy with hy|hy
  ·exact vP hy
  ·exact absurd rfl (S.KW _ (PySem.mem_of_lookup hy))
 ·exact RB (x.above y c (PySem.mem_of_lookup h))
 ·have hi:i<vs.length:=by
   unfold start at h2;by_cases hi:i<vs.length
   ·exact hi
   ·rw[Rw (by simpa using hi)]at h2
    rw[Sr]at h2
    split at h2 <;> cases h2
  have ha:vs[i]? = some v:=by
   unfold start at h2;rw[RF (by simpa using hi),Q0]at h2
   cases e:vs[i]? with
   | none=>rw[e]at h2;cases h2
   | some a=>rw[e]at h2;cases h2;rfl
  obtain⟨u,hu,rv⟩:=r.get ha;have hp:ps[i]? = some y:=by
   rw[<- S.pre,List.getElem?_take_of_lt (by omega)];exact h1
  have ndP:ps.Nodup:=by rw[<- S.pre];exact S.nd.sublist (List.take_sublist _ _)
  refine⟨u,rv,?_⟩;rcases S.par y (RK hp)with k|k
  ·exact .inl ⟨k,rT ndP hp hu k⟩
  ·obtain⟨c,e⟩:=vP (n:=s.heap.objs.size+1) k;refine .inr ⟨.inl k,c,e,?_⟩;have q:=x.cell y c e;rw[rW ndP hp hu (by show scope.names.lookup y≠_;rw[k];decide)]at q
   exact q
 ·exact e0.hok.fresh (RB (x.above y c (PySem.mem_of_lookup h)))
 ·unfold start;show _=N.length;rw[Q9,QR,List.length_replicate];omega
variable{name:Str}{pm:Value}{ct:Value}{oc:Value}{an:Option Addr}{od:Option Addr}
theorem NF{w:World}{K:W.Frag}{k:Nat}{f:Addr}{params:Arguments}{dV kV doc cdv:Value}
  {osl:Array (Option Value)} {N ps:List Str} {sp:Sp} (lk:K.lookup f=some ⟨oc,od,.func (W.fnOf name qual params body scope dV kV doc pm an cdv ct),osl⟩) (hcd:W.codeIn K cdv qual=true) (S:aA N ps scope)
  (len:∀ vs H Q E,sp vs H Q E->vs.length=ps.length)
  (ma:∀(A:Around)(outer:List Env)(s:Shared)(H:Hp)(vs:List V)(Q:VK)(E:XK),bT k (A.deeper (envOfC qual scope s.heap.objs.size f cdv))->sp vs H Q E ->
   ∃ t,PSs (qW CX P w K mg base N qual scope f cdv A outer s H E) body t/\t { nx:=fun _ H'=>Q .non H',rt:=Q } (start N vs) H) :
  aQ P w K mg base CX (k+1) f (W.fnOf name qual params body scope dV kV doc pm an cdv ct) ps sp:=by
 refine⟨len,fun A outer s H args us vs Q E hr e0 hb r hsp=>?_⟩
 have hl:=len _ _ _ _ hsp;have KX:K.In s.heap:=e0.mod.kin.keeps fun b o e=>(e0.bs b o e).1
 have lim:s.heap.NoLimit:=e0.mod.nolimit.keeps fun b o e=>(e0.bs b o e).1
 have iB:∀ y∈ps.zip us,scope.names.lookup y.1=some .local\/(scope.names.lookup y.1=some .cell/\((cellsFrom (s.heap.objs.size+1) scope.names []).lookup y.1).isSome=true):=fun⟨n,v⟩ hy=>by
  rcases S.par n (S2 hy).1 with q|q
  ·exact .inl q
  ·exact .inr ⟨q,W.cellsFrom_some _ _ _ (.inl q)⟩
 refine codeAny_call_function hr.depth (KX _ _ lk) rfl S.co S.gen rfl (W.codeRec_of KX hcd) (hb _ _ _ _ ?_);refine wpAny_newFunctionEnv_cells S.kind iB fun env he s1 x=>?_
 subst he;refine⟨lim.keeps x.toInCall.keep,codeAny_func ?_⟩;obtain⟨t,ht,hq⟩:=ma A outer s H vs Q E (hr.deeper _) hsp;have I:Inv (qW CX P w K mg base N qual scope f cdv A outer s H E) [] (start N vs) H s1:=AY S hr.hd e0 hl r x;refine RD (ht [] s1 (start N vs) H _ I hq) (fun fl s' hs=>?_) fun e s' hs=>hs
 have fin:∀{σ':St}{H':Hp}{v:V}{u:Value},Inv (qW CX P w K mg base N qual scope f cdv A outer s H E) [] σ' H' s'->RelV v u->Q v H'->CE outer P w H s Q u s' :=
  fun{σ' H' v u} J rv q=>⟨v,H',J.os,J.bare,J.base,J.hok,rv,q⟩
 cases fl with
 | ret u =>
  obtain⟨v,σ',H',J,rv,q⟩:=hs;exact fin J rv q
 | next =>
  obtain⟨σ',H',J,q⟩:=hs;exact fin (v:=V.non) (u:=Value.none) J rfl q
 | brk =>
  obtain⟨_,_,_,q⟩:=hs;exact False.elim q
 | cont =>
  obtain⟨_,_,_,q⟩:=hs;exact False.elim q
section
variable{t:TA}{id T:String}{r:List V->Hp->VK->Prop}
def tCB(r:List V->Hp->VK->Prop)(t:TA):TE:=fun σ H Q=>t σ H fun vs H1=>r vs H1 Q
theorem px(hc:dJ X (.builtin id) r)(hg:Gl X x)(hm:X.mg x=none)(hv:bootBuiltins x=some (.builtin id))(ha:PA X (e::es) t)(hn:x ≠ "__name__":=by decide)(hdb:(x ==("__debug__":Str))=false:=by decide)
  (he:L9 (e::es) X.env =(false,eval e X.env)::L9 es X.env:=by rfl) (hpl:(backTo pos (L9 es X.env)).any (·.1)=false:=by rfl):PE X (.Call (.Name x p) (e::es) [] pos) (tCB r t):=by
 intro j0 s σ H Q I h;refine Rr (gp I hg hm hv ?_ hn hdb);exact PyProof.Rows.callWith_builtin1 (thn (ha pos j0 s σ H _ I h) fun us s1 ⟨vs,H1,I1,r1,q1⟩=>hc j0 s1 σ H1 vs us Q I1 r1 q1) he hpl
theorem As(hc:dJ X (.type T) r)(hg:Gl X x)(hm:X.mg x=none)(hv:bootBuiltins x=some (.type T))(ha:PA X (e::es) t)(hn:x ≠ "__name__":=by decide)(hdb:(x ==("__debug__":Str))=false:=by decide)
  (he:L9 (e::es) X.env =(false,eval e X.env)::L9 es X.env:=by rfl) (hpl:(backTo pos (L9 es X.env)).any (·.1)=false:=by rfl):PE X (.Call (.Name x p) (e::es) [] pos) (tCB r t):=by
 intro j0 s σ H Q I h;refine Rr (gp I hg hm hv ?_ hn hdb);exact PyProof.Rows.callWith_type1 (thn (ha pos j0 s σ H _ I h) fun us s1 ⟨vs,H1,I1,r1,q1⟩=>hc j0 s1 σ H1 vs us Q I1 r1 q1) he hpl
end
end L2
namespace HT
open PySem PyProof.Rows
section
variable{prog:Program}{w:World}{A:Around}{E:Value->Shared->Prop}{s:Shared}
theorem Im{t b:Addr}{vs ws:List Value}{Q:Value->Shared->Prop}(ht:IsTup s.heap t vs.toArray)(hb:IsTup s.heap b ws.toArray)(hv:vs ≠ [])
  (h1:ws = []->Q (.ref t) s) (h2:ws ≠ []->Q (.ref s.heap.objs.size) { s with heap:=s.heap.push { cls:=.type "tuple",data:=.seq (vs++ws).toArray } })
  (hsz:vs.length+ws.length<=QD):wpAny (model prog w) A (binaryOp .Add (.ref t) (.ref b)) Q E s:=by
 obtain⟨⟨cls,dd,data,sl⟩,ho,hc,n,hd⟩:=id ht;obtain⟨⟨Qn,dd2,data2,sl2⟩,ho2,hc2,n2,hd2⟩:=id hb;simp only at hc hd hc2 hd2;subst hc hd hc2 hd2;have e:vs.toArray++ws.toArray =(vs++ws).toArray:=by simp
 by_cases hw:ws = []
 ·exact concat_meets ⟨_,ho,rfl⟩ ⟨_,ho2,rfl⟩ noFill_tuple_add seq_tuple_add PySem.F.slot_tuple_add PySem.F.entry_tuple_add (PySem.F.args_tuple_add_2 _ _)
   (tuple_addW1 t b vs.toArray ws.toArray n n2 dd dd2 sl sl2 (by simpa using hv) (by simp[hw])) ⟨ho,ho2,h1 hw⟩
 ·refine concat_meets ⟨_,ho,rfl⟩ ⟨_,ho2,rfl⟩ noFill_tuple_add seq_tuple_add PySem.F.slot_tuple_add PySem.F.entry_tuple_add (PySem.F.args_tuple_add_2 _ _)
   (tuple_addW2 t b vs.toArray ws.toArray n n2 dd dd2 sl sl2 (by simpa using hv) (by simpa using hw) (by rw[P2,P2];exact hsz)) ⟨ho,ho2,?_⟩
  rw[e];exact h2 hw
def sIx(n d:Nat):Option Int->Nat
 | none=>d
 | some v=>if v<0 then(v+(n:Int)).toNat else min v.toNat n
theorem J0(n d:Nat)(hd:d<=n)(o:Option Int):sIx n d o<=n:=by
 cases o with
 | none=>exact hd
 | some v =>
  show(if v<0 then(v+(n:Int)).toNat else min v.toNat n)<=n
  by_cases hv:v<0
  ·rw[if_pos hv];omega
  ·rw[if_neg hv];exact Se _ _
theorem NU(a:Int)(n:Nat)(h0:0<=a):min a (n:Int) =((min a.toNat n:Nat):Int):=by
 by_cases h:a<=n
 ·rw[Int.min_eq_left h,Nat.min_eq_left (Int.toNat_le.mpr h),Sj h0]
 ·have h':=Int.le_of_lt (Int.not_le.mp h);rw[Int.min_eq_right h',Nat.min_eq_right ((Int.le_toNat h0).mpr h')]
theorem B7(n:Nat)(i:Int)(h:i<0):max 0 (min (i+(n:Int)) n) =((i+n).toNat:Int):=by
 rw[Int.min_eq_left (Int.add_le_of_le_sub_right (by rw[Int.sub_self];exact Int.le_of_lt h)),Int.max_comm,Int.ofNat_toNat]
theorem B6(n:Nat)(i:Int)(h:¬ i<0):max 0 (min i (n:Int)) =((min i.toNat n:Nat):Int):=by
 rw[NU i n (Int.not_lt.mp h),Int.max_eq_right (Int.natCast_nonneg _)]
theorem zG(v:Int)(n d:Nat):(if v<0 then max (v+(n:Int)) 0 else min v (n:Int)) =((sIx n d (some v):Nat):Int):=by
 show(if v<0 then max (v+(n:Int)) 0 else min v (n:Int)) =(((if v<0 then(v+(n:Int)).toNat else min v.toNat n):Nat):Int)
 by_cases hv:v<0
 ·rw[if_pos hv,if_pos hv];exact(Int.ofNat_toNat _).symm
 ·rw[if_neg hv,if_neg hv];exact NU v n (Int.not_lt.mp hv)
theorem yp(lo hi:Option Int)(n:Nat):Builtin.Slice.sliceAdjust lo hi 1 (n:Int) =(((sIx n 0 lo:Nat):Int),((sIx n n hi:Nat):Int)):=by
 have h1:¬((1:Int)<0):=by omega
 unfold Builtin.Slice.sliceAdjust;simp only[h1,if_false];refine Prod.ext ?_ ?_
 ·cases lo with
  | none=>rfl
  | some v=>exact zG v n 0
 ·cases hi with
  | none=>rfl
  | some v=>exact zG v n n
theorem xn(i j:Nat):Builtin.Slice.slicePlaces (i:Int) (j:Int) 1=j - i:=by
 unfold Builtin.Slice.slicePlaces;have h1:(1:Int) > 0:=by omega
 simp only[h1,if_true,To]
 split <;> omega
theorem oP{v:Value}{o:Option Int}{Q:Option Int->Shared->Prop}(p:IsPart v o)(h:Q o s):wpAny (model prog w) A (Builtin.Slice.slicePartIndex v) Q E s:=by
 cases p with
 | none=>exact slicePart_none h
 | int i t=>exact slicePart_int h
theorem ip{sl:Addr}{vl vu:Value}{lo hi:Option Int}{n:Nat}{Q:Int×Int×Nat->Shared->Prop}(hs:s.heap.IsSliceOf sl vl vu .none)(pl:IsPart vl lo)(pu:IsPart vu hi)
  (h:Q (((sIx n 0 lo:Nat):Int),1,sIx n n hi - sIx n 0 lo) s):wpAny (model prog w) A (Builtin.Slice.sliceApplied (.ref sl) (pure (n:Int))) Q E s:=by
 obtain⟨os,hos,hcs,hds⟩:=id hs;unfold Builtin.Slice.sliceApplied Builtin.Slice.sliceFields;refine j2 (j2 (wpAny_field hos hds (x:=vl) rfl (j2 (wpAny_field hos hds (x:=vu) rfl (j2 (wpAny_field hos hds (x:=.none) rfl (Lb ?_)))))));refine j2 (slicePart_none ?_);show wpAny _ _ (if((1:Int)==0)=true then _ else _) _ _ s
 rw[if_neg (by decide)]
 refine j2 (oP pl (j2 (oP pu (j2 (Lb ?_)))));show wpAny _ _ (match Builtin.Slice.sliceAdjust lo hi 1 (n:Int)with |(lo,hi)=>pure (lo,(1:Int),Builtin.Slice.slicePlaces lo hi 1)) _ _ s
 rw[yp lo hi n];show wpAny _ _ (pure (((sIx n 0 lo:Nat):Int),(1:Int),Builtin.Slice.slicePlaces ((sIx n 0 lo:Nat):Int) ((sIx n n hi:Nat):Int) 1)) _ _ s;rw[xn];exact Lb h
theorem C4(xs:Array Value)(i k:Nat):((Rf k).filterMap fun(m:Nat)=>xs[((i:Int)+(m:Int)*1).toNat]?).toArray =((xs.toList.drop i).take k).toArray:=by
 have e:(fun(m:Nat)=>xs[((i:Int)+(m:Int)*1).toNat]?)=fun m=>xs[i+m]?:=by
  funext m
  have:((i:Int)+(m:Int)*1).toNat=i+m:=by omega
  rw[this]
 rw[e]
 have:=pick_run xs i k
 rw[List.filterMap_map]at this;have e2:((fun x=>xs[x]?) ∘ fun x=>i+x)=fun m=>xs[i+m]?:=rfl
 rw[e2]at this;rw[this]
theorem me{t sl:Addr}{items:Array Value}{vl vu:Value}{lo hi:Option Int}{Q:Value->Shared->Prop}(ht:IsTup s.heap t items)(hs:s.heap.IsSliceOf sl vl vu .none)(pl:IsPart vl lo)(pu:IsPart vu hi)
  (hw:¬(sIx items.size 0 lo=0/\sIx items.size items.size hi=items.size))
  (h:Q (.ref s.heap.objs.size) { s with heap:=s.heap.push { cls:=.type "tuple",data:=.seq ((items.toList.drop (sIx items.size 0 lo)).take (sIx items.size items.size hi - sIx items.size 0 lo)).toArray } })
  (hsz:items.size<=QD):wpAny (model prog w) A (getItem (.ref t) (.ref sl)) Q E s:=by
 have zq:sizeOk (.seq ((items.toList.drop (sIx items.size 0 lo)).take (sIx items.size items.size hi - sIx items.size 0 lo)).toArray):=by
  show((items.toList.drop (sIx items.size 0 lo)).take (sIx items.size items.size hi - sIx items.size 0 lo)).toArray.size<=QD;rw[P2,RP,Sz,Si];exact Ra (Ra (Se _ _) (Td _ _)) hsz
 have hj:sIx items.size items.size hi<=items.size:=J0 _ _ (QX _) hi;obtain⟨os,hos,hcs,hds⟩:=id hs;have hTs:s.TypeIs (.ref sl) "slice":=⟨os,hos,hcs⟩;unfold getItem
 try with_reducible refine Rn ?_
 first|refine j2 (Lb ?_)|skip
 refine j2 (wpAny_sequenceKey ht.typeIs (by decide) ?_)
 refine j2 (wpAny_callSpecial?_slot (name:=Str.ofString "__getitem__") ht.typeIs PyProof.Rows.slot_tuple_getitem
  (Rl PyProof.Rows.slot_tuple_getitem ht.typeIs entry_tuple_getitem ?_ (args_tuple_getitem _ _)))
 show wpAny _ _ (Builtin.Tuple.tupleItemsOf (.ref t) >>= _) _ _ s;refine j2 (tupleItemsOf_ ht ?_);refine j2 (RY hTs ?_);rw[if_pos (by decide)]
 refine j2 (ip hs pl pu ?_);have hno:¬((((sIx items.size 0 lo:Nat):Int)==0&&(1:Int)==1&&(sIx items.size items.size hi - sIx items.size 0 lo)==items.size)=true):=by
  intro q;rw[QY,QY]at q;have q1:((sIx items.size 0 lo:Nat):Int)=0:=eq_of_beq q.1.1;have q2:sIx items.size items.size hi - sIx items.size 0 lo=items.size:=eq_of_beq q.2;exact hw ⟨by omega,by omega⟩
 show wpAny _ _ (if(((sIx items.size 0 lo:Nat):Int)==0&&(1:Int)==1&&(sIx items.size items.size hi - sIx items.size 0 lo)==items.size)=true then _ else _) _ _ s
 rw[if_neg hno,C4]
 first
  | exact j2 (m:=Builtin.Tuple.tupleExact _) (Ro (Lb ⟨_,rfl,Lb h⟩) zq)
  | exact j2 (m:=Builtin.Tuple.tupleExact _) (Ro (j2 (Lb (Lb ⟨_,rfl,Lb h⟩))) zq)
  | exact j2 (j2 (m:=Builtin.Tuple.tupleExact _) (Ro (Lb (Lb ⟨_,rfl,Lb h⟩)) zq))
  | exact j2 (j2 (m:=Builtin.Tuple.tupleExact _) (Ro (Lb ⟨_,rfl,Lb h⟩) zq))
end
end HT
namespace L2
open PySem PySem.Spec PyProof.Rows
abbrev TO:=St->Hp ->(Option Int->Hp->Prop)->Prop
def PO(X:Cx)(e:Option Expr)(t:TO):Prop :=
 ∀(j0:List (Addr×Obj))(s:Shared)(σ:St)(H:Hp)(Q:Option Int->Hp->Prop),Inv X j0 σ H s->t σ H Q ->
  wpAny (model X.prog X.w) X.A (evalPart e X.env) (fun u s'=>∃ o H',Inv X j0 σ H' s'/\IsPart u o/\Q o H') X.xe s
def yJ:TO:=fun _ H Q=>Q none H
def IH(t:TE):TO:=fun σ H Q=>t σ H fun x H1=>∃ i,x = .int i/\Q (some i) H1
variable{xs:List V}{us:List Value}
section
variable{X:Cx}{e:Expr}{te:TE}{lo hi:Option Expr}{tl th:TO}{pos p2:Pos}
theorem GI:PO X none yJ:=by
 intro j0 s σ H Q I h;rw[evalPart_none];exact Lb ⟨none,H,I,.none,h⟩
theorem sR(h:PE X e te):PO X (some e) (IH te):=by
 intro j0 s σ H Q I hw;rw[evalPart_some];refine thn (h j0 s σ H _ I hw) fun u s1 hPP=>?_
 obtain⟨x,H1,I1,r1,q1⟩:=hPP;obtain⟨i,rfl,q⟩:=q1;obtain⟨t,rfl⟩:=r1;exact⟨some i,H1,I1,.int i t,q⟩
def SlR(X:Cx)(r:V->Option Int->Option Int->Hp->VK->Prop):Prop :=
 ∀(j0:List (Addr×Obj))(s:Shared)(σ:St)(H:Hp)(x:V)(v vl vu:Value)(lo hi:Option Int)(sl:Addr)(Q:VK),Inv X j0 σ H s->RelV x v->s.heap.IsSliceOf sl vl vu .none->IsPart vl lo->IsPart vu hi->r x lo hi H Q ->
  ∃ T id,typeLookup (.type T) "__getitem__" = pure (some (.builtin id))/\s.TypeIs v T/\wpAny (model X.prog X.w) X.A (getItem v (.ref sl)) (EP X j0 σ Q) X.xe s
theorem SlR.or{r r':V->Option Int->Option Int->Hp->VK->Prop}(h:SlR X r)(h':SlR X r'):SlR X (fun x lo hi H Q=>r x lo hi H Q\/r' x lo hi H Q):=by
 intro j0 s σ H x v vl vu lo hi sl Q I rx hs pl pu q;rcases q with q|q
 ·exact h j0 s σ H x v vl vu lo hi sl Q I rx hs pl pu q
 ·exact h' j0 s σ H x v vl vu lo hi sl Q I rx hs pl pu q
def tSl(r:V->Option Int->Option Int->Hp->VK->Prop)(te:TE)(tl th:TO):TE:=fun σ H Q=>te σ H fun x H1=>tl σ H1 fun l H2=>th σ H2 fun u H3=>r x l u H3 Q
theorem vk{r:V->Option Int->Option Int->Hp->VK->Prop}(hr:SlR X r)(he:PE X e te)(hl:PO X lo tl)(hu:PO X hi th):PE X (.Subscript e (.Slice lo hi none p2) pos) (tSl r te tl th):=by
 intro j0 s σ H Q I h;refine Subscript_ (thn (he j0 s σ H _ I h) fun v s1 hPP=>?_)
 obtain⟨x,H1,I1,r1,q1⟩:=hPP;refine wpAny_Slice (thn (hl j0 s1 σ H1 _ I1 q1) fun vl s2 ⟨l,H2,I2,pl,q2⟩=>thn (hu j0 s2 σ H2 _ I2 q2) fun vu s3 hPP=>?_)
 obtain⟨u,H3,I3,pu,q3⟩:=hPP;rw[evalPart_none];refine Lb ?_;have I4:Inv X j0 σ H3 { s3 with heap:=s3.heap.push { cls:=.type "slice",data:=.fields #[vl,vu,.none] } }:=I3.kept (t':=s3.toks) fun b ob q=>j3 _ q
 obtain⟨T,id,hT,ht,hg⟩:=hr j0 { s3 with heap:=s3.heap.push { cls:=.type "slice",data:=.fields #[vl,vu,.none] } } σ H3 x v vl vu l u s3.heap.objs.size Q I4 r1 (Heap.IsSliceOf.new ..) pl pu q3
 show wpAny (model X.prog X.w) X.A (subscriptTail e (.Slice lo hi none p2) v (.ref s3.heap.objs.size)) (EP X j0 σ Q) X.xe { s3 with heap:=s3.heap.push { cls:=.type "slice",data:=.fields #[vl,vu,.none] } }
 exact tail_any (ops:=[.ref s3.heap.objs.size,v]) ht hT hg (by with_unfolding_all rfl)
def kA(xs:List V)(lo hi:Option Int):List V:=(xs.drop (HT.sIx xs.length 0 lo)).take (HT.sIx xs.length xs.length hi - HT.sIx xs.length 0 lo)
theorem nM(xs:List V)(lo hi:Option Int):(kA xs lo hi).length<=xs.length:=by
 unfold kA;rw[RP,Sz];exact Ra (Se _ _) (Td _ _)
def Pf(K:W.Frag):V->Option Int->Option Int->Hp->VK->Prop:=fun x lo hi H Q=>∃ a xs,x = .ref a/\SqT K H a xs /\
 ¬(HT.sIx xs.length 0 lo=0/\HT.sIx xs.length xs.length hi=xs.length)/\∀ p,H p=none->Q (.ref p) (upd H p (.tup (kA xs lo hi)))
theorem JU:SlR X (Pf X.K):=by
 intro j0 s σ H x v vl vu lo hi sl Q I rx hs pl pu h;obtain⟨a,xs,rfl,hx,hw,q⟩:=h;cases rx;obtain⟨its,r,ht,hz⟩:=I.tuple hx;have hlen:its.toArray.size=xs.length:=by rw[P2];exact r.length.symm
 refine⟨"tuple",_,PyProof.Rows.slot_tuple_getitem.lookup,ht.typeIs,?_⟩;refine HT.me ht hs pl pu (by rw[hlen];exact hw) ?_ (by rw[hlen];exact hz)
 rw[hlen];refine⟨.ref s.heap.objs.size,_,I.laid (t':=s.toks) (o:=.tup (kA xs lo hi)) (fun b ob q=>j3 _ q) (QX _) ?_,rfl,q _ (I.hok.fresh (QX _))⟩
 exact⟨Ra (nM xs lo hi) hz,_,(r.drop (HT.sIx xs.length 0 lo)).take (HT.sIx xs.length xs.length hi - HT.sIx xs.length 0 lo),nB.new _ _⟩
def Mt(K:W.Frag):R2:=fun x y H Q=>∃ a b xs ys,x = .ref a/\y = .ref b/\SqT K H a xs/\SqT K H b ys/\xs ≠ []/\xs.length+ys.length<=QD /\
 (ys = []->Q (.ref a) H)/\(ys ≠ []->∀ p,H p=none->Q (.ref p) (upd H p (.tup (xs++ys))))
theorem Vals.i8(r:Vals xs us):us = [] ↔ xs = []:=by
 cases r with
 | nil=>simp
 | cons _ _=>simp
theorem G5:OpR X (binaryOp .Add) (Mt X.K):=by
 intro j0 s σ H x y v u Q I rx ry h;obtain⟨a,b,xs,ys,rfl,rfl,ha,hb,hx,hz,q1,q2⟩:=h;cases rx;cases ry;obtain⟨its,r1,p1,_⟩:=I.tuple ha;obtain⟨bK,r2,p2,_⟩:=I.tuple hb;refine HT.Im p1 p2 (fun z=>hx (r1.i8.mp z)) (fun z=>⟨.ref a,H,I,rfl,q1 (r2.i8.mp z)⟩) (fun z=>?_) (by rw[<- r1.length,<- r2.length];exact hz)
 refine⟨.ref s.heap.objs.size,_,I.laid (t':=s.toks) (o:=.tup (xs++ys)) (fun b ob q=>j3 _ q) (QX _) ?_,rfl,q2 (fun w=>z (r2.i8.mpr w)) _ (I.hok.fresh (QX _))⟩
 exact⟨by rw[Q9];exact hz,_,r1.append r2,nB.new _ _⟩
end
def ixN(n:Nat)(i:Int):Option Nat:=if 0<=i then(if i<n then some i.toNat else none)else if -(n:Int)<=i then some (i+n).toNat else none
def atI{α:Type}(xs:List α)(i:Int):Option α:=(ixN xs.length i).bind fun j=>xs[j]?
variable{n:Nat}{j:Nat}
theorem zj{i:Int}(h:ixN n i=some j):seqIndex? i n=some j/\j<n /\ -(n:Int)<=i/\i<n:=by
 unfold ixN at h;by_cases h0:0<=i
 ·rw[if_pos h0]at h;by_cases h1:i<n
  ·rw[if_pos h1]at h;have e:i.toNat=j:=Option.some.inj h;exact⟨by rw[seqIndex_of h0 h1,e],by omega,by omega,h1⟩
  ·rw[if_neg h1]at h;cases h
 ·rw[if_neg h0]at h;by_cases h1:-(n:Int)<=i
  ·rw[if_pos h1]at h;have e:(i+n).toNat=j:=Option.some.inj h;exact⟨by rw[seqIndex_neg (by omega) h1,e],by omega,h1,by omega⟩
  ·rw[if_neg h1]at h;cases h
theorem uu{α:Type}{xs:List α}{i:Int}{v:α}(h:atI xs i=some v):∃ j,seqIndex? i xs.length=some j/\xs[j]? = some v/\j<xs.length /\ -(xs.length:Int)<=i/\i<xs.length:=by
 unfold atI at h;cases e:ixN xs.length i with
 | none=>rw[e]at h;cases h
 | some j =>
  rw[e]at h;obtain⟨h1,h2,h3,h4⟩:=zj e;exact⟨j,h1,h,h2,h3,h4⟩
theorem ur{α:Type}{xs:List α}{v:α}(h:xs[j]? = some v):atI xs (j:Int)=some v:=by
 have hj:j<xs.length:=(Qx.mp h).1;have e:ixN xs.length (j:Int)=some j:=by
  unfold ixN;rw[if_pos (by omega),if_pos (by omega)];simp
 unfold atI;rw[e];exact h
theorem EB{α:Type}(xs:List α)(v:α):atI (xs ++ [v]) (-1)=some v:=by
 have hl:(xs ++ [v]).length=xs.length+1:=by simp
 have e:ixN (xs ++ [v]).length (-1)=some xs.length:=by
  unfold ixN;rw[hl,if_neg (by decide),if_pos (by omega)]
  congr 1
  omega
 unfold atI;rw[e];show(xs ++ [v])[xs.length]? = some v;simp
def mx(b:Expr):Prop:=∀ o i,subscripted b false o i=operate [o,i] (getItem o i)
def IxR(X:Cx)(r:R2):Prop :=
 ∀(value slice:Expr)(j0:List (Addr×Obj))(s:Shared)(σ:St)(H:Hp)(x y:V)(v u:Value)(Q:VK),Inv X j0 σ H s->RelV x v->RelV y u->r x y H Q ->
  subscripted slice false v u=operate [v,u] (getItem v u)->wpAny (model X.prog X.w) X.A (subscriptTail value slice v u) (EP X j0 σ Q) X.xe s
def MtR(X:Cx)(id:String)(r:V->List V->Hp->VK->Prop):Prop :=
 ∀(j0:List (Addr×Obj))(s:Shared)(σ:St)(H:Hp)(x:V)(xs:List V)(v:Value)(us:List Value)(Q:VK),Inv X j0 σ H s->RelV x v->Vals xs us->r x xs H Q ->
  wpAny (model X.prog X.w) X.A (call (.builtin id) (v::us)) (EP X j0 σ Q) X.xe s
variable{j0:List (Addr×Obj)}{H:Hp}{its:List Value}{A:Around}{y:V}{u:Value}{r:List V->Hp->VK->Prop}
section
variable{X:Cx}{a b:Expr}{ta tb:TE}{pos:Pos}
theorem IxR.or{r r':R2}(h:IxR X r)(h':IxR X r'):IxR X (fun x y H Q=>r x y H Q\/r' x y H Q):=by
 intro value slice j0 s σ H x y v u Q I rx ry q hs;rcases q with q|q
 ·exact h value slice j0 s σ H x y v u Q I rx ry q hs
 ·exact h' value slice j0 s σ H x y v u Q I rx ry q hs
theorem za{r:R2}(hr:IxR X r)(ha:PE X a ta)(hb:PE X b tb)(hs:mx b):PE X (.Subscript a b pos) (tOp r ta tb):=by
 intro j0 s σ H Q I h;exact Subscript_ (Lw ha hb I h fun v u s2 x y H2 I2 rx ry q=>hr a b j0 s2 σ H2 x y v u Q I2 rx ry q (hs _ _))
def Mr(K:W.Frag):R2:=fun x y H Q=>∃ p xs i v,x = .ref p/\y = .int i/\SqL K H p xs/\atI xs i=some v/\Q v H
def Mp(K:W.Frag):R2:=fun x y H Q=>∃ p xs i v,x = .ref p/\y = .int i/\SqT K H p xs/\atI xs i=some v/\Q v H
def Mq:R2:=fun x y H Q=>∃ z i c,x = .str z/\y = .int i/\z.length<=QD/\atI z.cps.toList i=some c/\Q (.str ⟨#[c]⟩) H
theorem Hy:IxR X (Mr X.K):=by
 intro value slice j0 s σ H x y v u Q I rx ry h hs;obtain⟨p,xs,i,z,rfl,rfl,hq,he,q⟩:=h;cases rx;obtain⟨t,rfl⟩:=ry;obtain⟨its,r,pl,hz⟩:=I.list hq;obtain⟨j,h1,h2,h3,h4,h5⟩:=uu he;obtain⟨w,ew,rw'⟩:=r.get h2;have hl:=r.length;have hn:=jP;have fin:EP X j0 σ Q w s:=⟨z,H,I,rw',q⟩;by_cases h0:0<=i
 ·have hj:i.toNat=j:=by
   rw[seqIndex_of h0 h5]at h1;exact Option.some.inj h1
  exact item_listR pl.isList h0 (by omega) (by rw[hj];simpa using ew) fin hs
 ·have hj:(i+(its.toArray.size:Int)).toNat=j:=by
   rw[seqIndex_neg (by omega) h4]at h1
   rw[P2,<- hl];exact Option.some.inj h1
  exact subscriptTail_builtinR (x:=w) pl.isList.typeIs slot_list_getitem.lookup
   (wpAny_getItem_list_neg (Q:=fun r s'=>r=w/\EP X j0 σ Q r s') pl.isList (by omega) (by rw[P2] <;> omega) (by omega) (by rw[hj];simpa using ew) ⟨rfl,fin⟩) hs
theorem K8:IxR X (Mp X.K):=by
 intro value slice j0 s σ H x y v u Q I rx ry h hs;obtain⟨p,xs,i,z,rfl,rfl,hq,he,q⟩:=h;cases rx;obtain⟨t,rfl⟩:=ry;obtain⟨its,r,pl,hz⟩:=I.tuple hq;obtain⟨j,h1,h2,h3,h4,h5⟩:=uu he;obtain⟨w,ew,rw'⟩:=r.get h2;have hl:=r.length;have hn:=jP;have fin:EP X j0 σ Q w s:=⟨z,H,I,rw',q⟩;exact subscriptTail_builtinR (x:=w) pl.typeIs slot_tuple_getitem.lookup
  (getItem_tuple (j:=j) (Q:=fun r s'=>r=w/\EP X j0 σ Q r s') pl (by omega) (by omega) (by rw[P2,<- hl];exact h1) (by simpa using ew) ⟨rfl,fin⟩) hs
theorem K9:IxR X Mq:=by
 intro value slice j0 s σ H x y v u Q I rx ry h hs;obtain⟨z,i,c,rfl,rfl,hz,he,q⟩:=h;obtain⟨t,rfl⟩:=rx;obtain⟨t',rfl⟩:=ry;obtain⟨j,h1,h2,h3,h4,h5⟩:=uu he;have hl:z.cps.toList.length=z.length:=by simp[Str.length]
 rw[hl]at h1 h4 h5;have hn:=jP;exact tail_any (typeIs_str s z t) slot_str_getitem.lookup (getItem_str (c:=c) (by
  have e1:decide (i < -(2 ^ 63:Int))=false:=decide_eq_false (by omega)
  have e2:decide (i ≥ 2 ^ 63)=false:=decide_eq_false (by omega)
  rw[e1,e2,Bool.or_false]) (by rw[h1];simpa using h2) ⟨.str ⟨#[c]⟩,H,I.tok _,⟨_,rfl⟩,q⟩) hs
def rIx(K:W.Frag):R2:=fun x y H Q=>Mr K x y H Q\/Mp K x y H Q\/Mq x y H Q
theorem xY:IxR X (rIx X.K):=Hy.or (K8.or K9)
theorem xG(its:List Value)(n j:Nat)(u:Value):R0 (·.setIfInBounds j u) { cls:=.type "list",data:=.seq its.toArray n } ={ cls:=.type "list",data:=.seq (its.set j u).toArray n }:=by
 simp[R0]
theorem Inv.lst{σ:St}{s:Shared}{p:Addr}(I:Inv X j0 σ H s)(h:H p=some (.lst xs)) :
  ∃(its:List Value)(n:Nat),Vals xs its/\s.heap.get? p=some { cls:=.type "list",data:=.seq its.toArray n }/\xs.length<=QD:=by
 obtain⟨z,its,n,r,e⟩:=I.hok p _ h;exact⟨its,n,r,e,z⟩
theorem Inv.KZ{σ:St}{s:Shared}{p:Addr}{ys:List V}{its':List Value}{n':Nat}{f:Obj->Obj}(I:Inv X j0 σ H s)(h:H p=some (.lst xs))
  (ho:s.heap.get? p=some { cls:=.type "list",data:=.seq its.toArray n }) (hf:f { cls:=.type "list",data:=.seq its.toArray n } ={ cls:=.type "list",data:=.seq its'.toArray n' }) (r:Vals ys its') (hz:ys.length<=QD) (t:Nat) :
  Inv X j0 σ (upd H p (.lst ys)) { s with heap:=s.heap.update p f,toks:=t }:=by
 have e:(s.heap.update p f).get? p=some { cls:=.type "list",data:=.seq its'.toArray n' }:=by
  rw[Rv f ho (by rw[hf] <;> rfl),hf]
 refine I.write (x:=p) (e:=p) (by rw[h];trivial) (.inl rfl) (fun b u hb q=>(Rc _ _ (Ne.symm hb)).trans q) ⟨_,e⟩ ?_
 exact⟨hz,its',n',r,e⟩
def Cy:V->V->V->Hp ->(Hp->Prop)->Prop:=fun o i v H Q=>∃ p xs k j,o = .ref p/\i = .int k/\H p=some (.lst xs)/\ixN xs.length k=some j/\Q (upd H p (.lst (xs.set j v)))
theorem set_list:N8 X Cy:=by
 intro j0 s σ H o i v ov iv u Q I ro ri rv h;obtain⟨p,xs,k,j,rfl,rfl,hp,hj,q⟩:=h;cases ro;obtain⟨t,rfl⟩:=ri;obtain⟨its,n,r,ho,hz⟩:=I.lst hp;obtain⟨h1,h2,h3,h4⟩:=zj hj;have hl:=r.length;have hn:=jP;have I':Inv X j0 σ (upd H p (.lst (xs.set j v))) { s with heap:=s.heap.update p (R0 (·.setIfInBounds j u)) } :=
  I.KZ hp ho (xG its n j u) (r.set rv j) (by rw[Rz];exact hz) s.toks
 by_cases h0:0<=k
 ·have hk:k.toNat=j:=by
   rw[seqIndex_of h0 h4]at h1;exact Option.some.inj h1
  exact W.ki_setAt ho h0 (by omega) (by rw[P2,<- hl];exact h4) (by rw[hk];exact⟨_,I',q⟩)
 ·have hk:(k+(its.toArray.size:Int)).toNat=j:=by
   rw[seqIndex_neg (by omega) h3]at h1
   rw[P2,<- hl];exact Option.some.inj h1
  exact W.ki_setBack ho (by omega) (by rw[P2,<- hl];exact h3) (by omega) (by rw[hk];exact⟨_,I',q⟩)
theorem si(lo hi:Option Int)(n:Nat):(sliceBounds lo hi none n).1 =((HT.sIx n 0 lo:Nat):Int)/\(sliceBounds lo hi none n).2.1 =((HT.sIx n n hi:Nat):Int)/\(sliceBounds lo hi none n).2.2=1:=by
 refine⟨?_,?_,rfl⟩
 ·cases lo with
  | none=>simp[sliceBounds,HT.sIx]
  | some i =>
   simp only[sliceBounds,HT.sIx,Tx,show(1:Int) > 0 by decide,if_true]
   by_cases h:i<0
   ·simp only[h,if_true] <;> first|exact HT.B7 _ _ h|omega
   ·simp only[h,if_false] <;> first|exact HT.B6 _ _ h|omega
 ·cases hi with
  | none=>simp[sliceBounds,HT.sIx]
  | some i =>
   simp only[sliceBounds,HT.sIx,Tx,show(1:Int) > 0 by decide,if_true]
   by_cases h:i<0
   ·simp only[h,if_true] <;> first|exact HT.B7 _ _ h|omega
   ·simp only[h,if_false] <;> first|exact HT.B6 _ _ h|omega
theorem qH(its:List Value)(lo hi:Option Int):slicePick its.toArray lo hi none =((its.drop (HT.sIx its.length 0 lo)).take (HT.sIx its.length its.length hi - HT.sIx its.length 0 lo)).toArray:=by
 obtain⟨h1,h2,h3⟩:=si lo hi its.toArray.size;unfold slicePick;rw[h1,h2,h3];simp only[sliceRange_one,pick_run,P2] <;> rfl
def Ml(K:W.Frag):V->Option Int->Option Int->Hp->VK->Prop:=fun x lo hi H Q=>∃ a xs,x = .ref a/\SqL K H a xs/\∀ p,H p=none->Q (.ref p) (upd H p (.lst (kA xs lo hi)))
theorem yN:SlR X (Ml X.K):=by
 intro j0 s σ H x v vl vu lo hi sl Q I rx hs pl pu h;obtain⟨a,xs,rfl,hx,q⟩:=h;cases rx;obtain⟨its,r,ht,hz⟩:=I.list hx;have hlen:=r.length;refine⟨"list",_,slot_list_getitem.lookup,ht.isList.typeIs,?_⟩;refine wpAny_getItem_list_slice ht.isList hs pl pu .none (by simp) ?_ (by rw[P2] <;> omega)
 rw[qH,<- hlen];refine⟨.ref s.heap.objs.size,_,I.laid (t':=s.toks) (o:=.lst (kA xs lo hi)) (fun b ob q=>j3 _ q) (QX _) ?_,rfl,q _ (I.hok.fresh (QX _))⟩
 exact⟨Ra (nM xs lo hi) hz,_,0,(r.drop (HT.sIx xs.length 0 lo)).take (HT.sIx xs.length xs.length hi - HT.sIx xs.length 0 lo),QV _ rfl⟩
def gK:V->Bool
 | .non=>true
 | .bl _=>true
 | .int _=>true
 | .str _=>true
 | _=>false
def eqV:V->V->Bool
 | .non,.non=>true
 | .bl a,.bl b=>a==b
 | .bl a,.int b=>(if a then 1 else 0)==b
 | .int a,.bl b=>a ==(if b then 1 else 0)
 | .int a,.int b=>a==b
 | .str a,.str b=>a==b
 | _,_=>false
theorem pV{s:Shared}{x:V}{v:Value}(ry:RelV y u)(rx:RelV x v)(fy:gK y=true)(fx:gK x=true):SeqAt.EqAt A s u v (eqV y x):=by
 cases y with
 | non =>
  cases ry;cases x with
  | non=>cases rx;exact SeqAt.EqAt.same _
  | bl b=>cases rx;exact SeqAt.EqAt.none_bool b
  | int b=>obtain⟨t,rfl⟩:=rx;exact SeqAt.EqAt.none_int b t
  | str b=>obtain⟨t,rfl⟩:=rx;exact SeqAt.EqAt.none_str b t
  | _=>exact absurd (show false=true from fx) QF
 | bl a =>
  cases ry;cases x with
  | non=>cases rx;exact SeqAt.EqAt.bool_none a
  | bl b=>cases rx;exact SeqAt.EqAt.bool_bool a b
  | int b=>obtain⟨t,rfl⟩:=rx;exact SeqAt.EqAt.bool_int a b t
  | str b=>obtain⟨t,rfl⟩:=rx;exact SeqAt.EqAt.bool_str a b t
  | _=>exact absurd (show false=true from fx) QF
 | int a =>
  obtain⟨t',rfl⟩:=ry;cases x with
  | non=>cases rx;exact SeqAt.EqAt.int_none a t'
  | bl b=>cases rx;exact SeqAt.EqAt.int_bool a t' b
  | int b=>obtain⟨t,rfl⟩:=rx;exact SeqAt.EqAt.int_int a t' b t
  | str b=>obtain⟨t,rfl⟩:=rx;exact SeqAt.EqAt.int_str a t' b t
  | _=>exact absurd (show false=true from fx) QF
 | str a =>
  obtain⟨t',rfl⟩:=ry;cases x with
  | non=>cases rx;exact SeqAt.EqAt.str_none a t'
  | bl b=>cases rx;exact SeqAt.EqAt.str_bool a t' b
  | int b=>obtain⟨t,rfl⟩:=rx;exact SeqAt.EqAt.str_int a t' b t
  | str b=>obtain⟨t,rfl⟩:=rx;exact SeqAt.EqAt.str_str a t' b t
  | _=>exact absurd (show false=true from fx) QF
 | _=>exact absurd (show false=true from fy) QF
def eqU(x:V)(u:Value):Bool:=match u with
 | .none=>eqV .non x
 | .bool b=>eqV (.bl b) x
 | .int i _=>eqV (.int i) x
 | .str z _=>eqV (.str z) x
 | _=>false
theorem D7{x:V}(r:RelV y u)(f:gK y=true):eqU x u=eqV y x:=by
 cases y with
 | non=>cases r;rfl
 | bl b=>cases r;rfl
 | int i=>obtain⟨t,rfl⟩:=r;rfl
 | str z=>obtain⟨t,rfl⟩:=r;rfl
 | _=>exact absurd (show false=true from f) QF
theorem mv{x:V}:∀{xs:List V}{us:List Value},Vals xs us->xs.all gK=true->us.any (eqU x)=xs.any fun y=>eqV y x
 | _,_,.nil,_=>rfl
 | y::xs,u::us,.cons r t,f=>by
  rw[List.all_cons,QY]at f;rw[R1,R1,D7 r f.1,mv t f.2]
theorem jN{A:Around}{s:Shared}{x:V}{v:Value}(rx:RelV x v)(fx:gK x=true):∀{xs:List V}{us:List Value},Vals xs us->xs.all gK=true->∀ u∈us,SeqAt.EqAt A s u v (eqU x u)
 | _,_,.nil,_=>fun u hu=>by cases hu
 | y::xs,u::us,.cons r t,f=>fun u' hu=>by
  rw[List.all_cons,QY]at f;rcases QH.mp hu with rfl|hu
  ·rw[D7 r f.1];exact pV r rx f.1 fx
  ·exact jN rx fx t f.2 u' hu
def inV(x:V)(xs:List V):Bool:=xs.any fun y=>eqV y x
def rIn(K:W.Frag)(neg:Bool):R2:=fun x y H Q=>∃ p xs,y = .ref p/\(SqL K H p xs\/SqT K H p xs)/\gK x=true/\xs.all gK=true/\Q (.bl (if neg then !inV x xs else inV x xs)) H
theorem Aw:OpR X (compareOp .In) (rIn X.K false):=by
 intro j0 s σ H x y v u Q I rx ry h;obtain⟨p,xs,rfl,hq,fx,fs,q⟩:=h;cases ry;rcases hq with hq|hq
 ·obtain⟨its,r,pl,hz⟩:=I.list hq;refine SeqAt.in_listAt (eqU x) pl.isList (fun w hw=>jN rx fx r fs w (by simpa using hw)) ⟨.bl _,H,I,rfl,?_⟩
  rw[show its.toArray.any (eqU x)=its.any (eqU x)by simp,mv r fs]
  exact q
 ·obtain⟨its,r,pl,hz⟩:=I.tuple hq;refine SeqAt.in_tupleAt (eqU x) pl (fun w hw=>jN rx fx r fs w (by simpa using hw)) ⟨.bl _,H,I,rfl,?_⟩
  rw[show its.toArray.any (eqU x)=its.any (eqU x)by simp,mv r fs]
  exact q
theorem tI:OpR X (compareOp .NotIn) (rIn X.K true):=by
 intro j0 s σ H x y v u Q I rx ry h;obtain⟨p,xs,rfl,hq,fx,fs,q⟩:=h;cases ry;rcases hq with hq|hq
 ·obtain⟨its,r,pl,hz⟩:=I.list hq;refine SeqAt.notIn_listAt (eqU x) pl.isList (fun w hw=>jN rx fx r fs w (by simpa using hw)) ⟨.bl _,H,I,rfl,?_⟩
  rw[show its.toArray.any (eqU x)=its.any (eqU x)by simp,mv r fs]
  exact q
 ·obtain⟨its,r,pl,hz⟩:=I.tuple hq;refine SeqAt.notIn_tupleAt (eqU x) pl (fun w hw=>jN rx fx r fs w (by simpa using hw)) ⟨.bl _,H,I,rfl,?_⟩
  rw[show its.toArray.any (eqU x)=its.any (eqU x)by simp,mv r fs]
  exact q
theorem mm:dJ X (.builtin "len") (fun xs H Q=>∃ p ys,xs = [.ref p]/\(SqL X.K H p ys\/SqT X.K H p ys)/\Q (.int ys.length) H):=by
 intro j0 s σ H xs us Q I r h;obtain⟨p,ys,rfl,hq,q⟩:=h;obtain⟨u,rfl,rx⟩:=vals1 r;cases rx;have hn:=jP;rcases hq with hq|hq
 ·obtain⟨its,r',pl,hz⟩:=I.list hq;have hlen:=r'.length;exact Calls.call_len_list pl.isList (by simp only[P2] <;> omega) ⟨.int ys.length,H,I.tok _,⟨s.toks+1,by rw[P2,hlen]⟩,q⟩
 ·obtain⟨its,r',pl,hz⟩:=I.tuple hq;have hlen:=r'.length;exact len_tuple pl (by simp only[P2] <;> omega) ⟨.int ys.length,H,I.tok _,⟨s.toks+1,by rw[P2,hlen]⟩,q⟩
theorem uh:dJ X (.builtin "len") (fun xs H Q=>∃ z,xs = [.str z]/\z.length<=QD/\Q (.int z.length) H):=by
 intro j0 s σ H xs us Q I r h;obtain⟨z,rfl,hz,q⟩:=h;obtain⟨u,rfl,t,rfl⟩:=vals1 r;have hn:=jP;exact len_str (by omega) ⟨.int z.length,H,I.tok _,⟨_,rfl⟩,q⟩
theorem dJ.or{f:Value}{r':List V->Hp->VK->Prop}(h:dJ X f r)(h':dJ X f r'):dJ X f (fun xs H Q=>r xs H Q\/r' xs H Q):=by
 intro j0 s σ H xs us Q I rs q;rcases q with q|q
 ·exact h j0 s σ H xs us Q I rs q
 ·exact h' j0 s σ H xs us Q I rs q
theorem q5:dJ X (.type "tuple") (fun xs H Q=>∃ p ys,xs = [.ref p]/\((SqL X.K H p ys/\∀ l,H l=none->Q (.ref l) (upd H l (.tup ys)))\/(SqT X.K H p ys/\Q (.ref p) H))):=by
 intro j0 s σ H xs us Q I r h;obtain⟨p,ys,rfl,h⟩:=h;obtain⟨u,rfl,rx⟩:=vals1 r;cases rx;rcases h with⟨hq,q⟩ |⟨hq,q⟩
 ·obtain⟨its,r',pl,hz⟩:=I.list hq;have hlen:=r'.length;refine call_tuple_list pl.isList (fun h' kp=>?_) (by simp only[P2] <;> omega)
  have I1:Inv X j0 σ H { s with heap:=h' }:=I.kept (t':=s.toks) kp
  have I2:Inv X j0 σ (upd H h'.objs.size (.tup ys)) { s with heap:=h'.push { cls:=.type "tuple",data:=.seq its.toArray } } :=
   I1.laid (t':=s.toks) (fun b o e=>j3 _ e) (QX _) (show bO X.prog X.w _ _ _ (.tup ys)from⟨hz,its,r',nB.new _ _⟩)
  exact⟨.ref h'.objs.size,_,I2,rfl,q _ (I1.hok.fresh (QX _))⟩
 ·obtain⟨its,r',pl,hz⟩:=I.tuple hq;exact call_tuple_same pl ⟨.ref p,H,I,rfl,q⟩
def tyV(K:W.Frag)(T:String)(x:V)(H:Hp):Prop:=match x with
 | .str _=>T = "str"
 | .int _=>T = "int"
 | .ref p=>(T = "list" /\ ∃ xs,SqL K H p xs)\/(T = "tuple" /\ ∃ o,K.lookup p=some o/\o.cls = .type "tuple" /\ o.dict=none) \/
   (T = "dict" /\ ((∃ kvs,H p=some (.dK kvs))\/∃ kvs,H p=some (.dT kvs)))\/(T = "set" /\ ∃ S n,H p=some (.set S n))
 | _=>False
theorem B0{σ:St}{s:Shared}{T:String}{x:V}{v:Value}(I:Inv X j0 σ H s)(r:RelV x v)(ty:tyV X.K T x H) :
  s.TypeIs v T/\∀ a,v = .ref a->∃ ob,s.heap.get? a=some ob/\ob.dict=none:=by
 cases x with
 | str z =>
  obtain⟨t,rfl⟩:=r
  cases(show T = "str" from ty)
  exact⟨typeIs_str s z t,fun _ e=>nomatch e⟩
 | int i =>
  obtain⟨t,rfl⟩:=r
  cases(show T = "int" from ty)
  exact⟨typeIs_int s i t,fun _ e=>nomatch e⟩
 | ref p =>
  cases r;rcases ty with⟨rfl,xs,hq⟩ |⟨rfl,o,hk,hc,hd⟩ |⟨rfl,hk⟩ |⟨rfl,S,n,hk⟩
  ·obtain⟨its,_,pl,_⟩:=I.list hq;refine⟨pl.isList.typeIs,fun a e=>?_⟩
   cases e;obtain⟨o,n,e,c,hd,_⟩:=pl;exact⟨o,e,hd⟩
  ·refine⟨⟨o,I.kIn p o hk,hc⟩,fun a e=>?_⟩
   cases e;exact⟨o,I.kIn _ o hk,hd⟩
  ·have z:∃ o,s.heap.get? p=some o/\o.ExactDict:=by
    rcases hk with⟨kvs,hk⟩ |⟨kvs,hk⟩
    ·obtain⟨_,_,_,_,o,_,_,e,ex,_⟩:=I.hok p _ hk;exact⟨o,e,ex⟩
    ·obtain⟨_,_,_,_,o,_,_,e,ex,_⟩:=I.hok p _ hk;exact⟨o,e,ex⟩
   obtain⟨o,e,ex⟩:=z;refine⟨⟨o,e,ex.1⟩,fun a e2=>?_⟩
   cases e2;exact⟨o,e,ex.2.1⟩
  ·obtain⟨o,_,_,_,e,ex,_⟩:=I.hok p _ hk;refine⟨⟨o,e,ex.1⟩,fun a e2=>?_⟩
   cases e2;exact⟨o,e,ex.2.1⟩
 | _=>exact False.elim ty
def FI(K:W.Frag)(T:String)(r:V->List V->Hp->VK->Prop)(to:TE):TE:=fun σ H Q=>to σ H fun x H1=>tyV K T x H1/\r x [] H1 Q
def tBM(K:W.Frag)(T:String)(r:V->List V->Hp->VK->Prop)(to:TE)(t:TA):TE:=fun σ H Q=>to σ H fun x H1=>tyV K T x H1/\t σ H1 fun xs H2=>r x xs H2 Q
variable{o e:Expr}{es:List Expr}{to:TE}{t:TA}{name:Str}{apos aM:Pos}{T id:String}{r:V->List V->Hp->VK->Prop}
theorem xq(pa:PlainAttrs T)(slot:Slot T name id)(hty:typeOf (.builtin id)=pure (.type "method_descriptor"))(hm:MtR X id r)(ho:PE X o to)
  (cP:attributeBase o name X.env (eval o X.env)=eval o X.env:=by rfl) (cO:(apos.endLine==aM.line)=true:=by rfl):PE X (.Call (.Attribute o name apos) [] [] aM) (FI X.K T r to):=by
 intro j0 s σ H Q I h;refine wpAny_Call_method0_late cP cO (thn (ho j0 s σ H _ I h) fun v s1 hPP=>?_)
 obtain⟨x,H1,I1,r1,ty,q1⟩:=hPP;obtain⟨h1,h2⟩:=B0 I1 r1 ty;exact⟨T,id,pa,slot,hty,h1,h2,Calls.callWith_builtin rfl (PySem.evalArgs_none (hm j0 s1 σ H1 x [] v [] Q I1 r1 .nil q1))⟩
theorem vo(pa:PlainAttrs T)(slot:Slot T name id)(hty:typeOf (.builtin id)=pure (.type "method_descriptor"))(hm:MtR X id r)(ho:PE X o to)(ha:PA X (e::es) t)
  (cP:attributeBase o name X.env (eval o X.env)=eval o X.env:=by rfl)
  (k7:((backTo aM (L9 (e::es) X.env)).all (fun x=>!x.1)&&(backToKw aM (keywordEach [] X.env)).all (fun x=>x.1.isSome)
   && decide ((e::es).length+([]:List Keyword).length+(if([]:List Keyword).isEmpty then 0 else 1)<30))=true:=by rfl)
  (cO:(apos.endLine==aM.line)=true:=by rfl) (hs:L9 (e::es) X.env =(false,eval e X.env)::L9 es X.env:=by rfl) (c7:(backTo aM (L9 es X.env)).any (·.1)=false:=by rfl) :
  PE X (.Call (.Attribute o name apos) (e::es) [] aM) (tBM X.K T r to t):=by
 intro j0 s σ H Q I h;refine wpAny_Call_method_late cP k7 cO rfl (thn (ho j0 s σ H _ I h) fun v s1 hPP=>?_)
 obtain⟨x,H1,I1,r1,ty,q1⟩:=hPP;obtain⟨h1,h2⟩:=B0 I1 r1 ty;refine⟨T,id,pa,slot,hty,h1,h2,?_⟩;have hA:=ha aM j0 s1 σ H1 _ I1 q1;rw[hs]at hA ⊢;refine Calls.callWith_builtin (by show(false ||(backTo aM (L9 es X.env)).any (·.1))=false;rw[c7] <;> rfl) (Calls.evalArgs_plain ?_)
 refine thn hA fun us s2 hPP=>?_
 obtain⟨vs,H2,I2,r2,q2⟩:=hPP;exact hm j0 s2 σ H2 x vs v us Q I2 r1 r2 q2
end
def MtM(X:Cx)(id:String)(r:V->List V->Hp->VK->Prop):Prop :=
 ∀(j0:List (Addr×Obj))(s:Shared)(σ:St)(H:Hp)(x:V)(xs:List V)(v:Value)(us:List Value)(Q:VK),Inv X j0 σ H s->RelV x v->Vals xs us->r x xs H Q ->
  wpAny (model X.prog X.w) X.A (call (.builtin id) (v::us)) (EP X j0 σ Q) X.xe s
theorem Vals.one:∀{x:V}{us:List Value},Vals [x] us->∃ u,us = [u]/\RelV x u:=by
 intro x us h;cases h with
 | cons r t=>cases t;exact⟨_,rfl,r⟩
theorem Vals.zero:∀{us:List Value},Vals [] us->us = []
 | _,.nil=>rfl
theorem Vals.dropLast{xs:List V}{us:List Value}(h:Vals xs us):Vals xs.dropLast us.dropLast:=by
 induction h with
 | nil=>exact .nil
 | cons r t ih =>
  cases t with
  | nil=>exact .nil
  | cons q t'=>exact .cons r ih
theorem Vals.reverse{xs:List V}{us:List Value}(h:Vals xs us):Vals xs.reverse us.reverse:=by
 induction h with
 | nil=>exact .nil
 | cons r t ih=>rw[Sw,Sw];exact Vals.append ih (.cons r .nil)
theorem x9{α:Type}(l:List α):l.eraseIdx (l.length - 1)=l.dropLast:=by
 induction l with
 | nil=>rfl
 | cons a r ih =>
  cases r with
  | nil=>rfl
  | cons b r =>
   have e:(a::b::r).length - 1 =((b::r).length - 1)+1:=by
    rfl
   rw[e,List.eraseIdx_cons_succ,ih]
   all_goals rfl
variable{t':Nat}
section
variable{X:Cx}{σ:St}{s:Shared}{l b:Addr}{ys zs:List V}
theorem Inv.Hr{its':List Value}{f:Array Value->Array Value}{t':Nat}(I:Inv X j0 σ H s)(hH:H l=some (.lst xs))
  (e:s.heap.get? l=some { cls:=.type "list",data:=.seq its.toArray n }) (hf:f its.toArray=its'.toArray) (hv:Vals ys its') (hz:ys.length<=QD) :
  Inv X j0 σ (upd H l (.lst ys)) { s with heap:=s.heap.update l (R0 f),toks:=t' }:=by
 have q:=PySem.IsL.update e f;rw[hf]at q;refine I.write (x:=l) (e:=l) (by rw[hH];exact trivial) (.inl rfl) (fun b' u hb hu=>(Rc s.heap (R0 f) (Ne.symm hb)).trans hu) ⟨_,q⟩ ?_
 exact⟨hz,its',_,hv,q⟩
theorem Inv.PQ(I:Inv X j0 σ H s)(hv:Vals ys its)(hz:ys.length<=QD) :
  Inv X j0 σ (upd H s.heap.objs.size (.lst ys)) { s with heap:=s.heap.push { cls:=.type "list",data:=.seq its.toArray },toks:=t' } :=
 I.laid (fun _ _ q=>j3 _ q) (QX _) ⟨hz,its,0,hv,QV _ rfl⟩
theorem Inv.fresh(I:Inv X j0 σ H s):H s.heap.objs.size=none:=I.hok.fresh (QX _)
theorem Inv.xJ(I:Inv X j0 σ H s)(hH:H l=some (.lst xs)):xs.length<=QD/\∃(its:List Value)(n:Nat),Vals xs its/\xs.length=its.length/\s.heap.get? l=some { cls:=.type "list",data:=.seq its.toArray n }:=by
 obtain⟨z,its,n,r,e⟩:=I.hok l _ hH;exact⟨z,its,n,r,r.length,e⟩
theorem vt(h:n<=QD):Builtin.List.listTooLong n=false:=by
 unfold Builtin.List.listTooLong;exact decide_eq_false (by omega)
end
section
variable{X:Cx}
def lR:V->List V->Hp->VK->Prop:=fun x vs H Q=>∃ l xs y,x = .ref l/\vs = [y]/\H l=some (.lst xs)/\xs.length<QD/\Q .non (upd H l (.lst (xs ++ [y])))
theorem rH:MtM X "list.append" lR:=by
 intro j0 s σ H x vs v us Q I rx rv h;obtain⟨l,xs,y,rfl,rfl,hH,hz,q⟩:=h;cases rx;obtain⟨u,rfl,ru⟩:=rv.one;obtain⟨z,its,n,r,hl,e⟩:=I.xJ hH;refine call_meets F.slot_list_append ⟨_,e,rfl⟩ F.entry_list_append (F.args_list_append_2 _ _) (PySem.list_append l its.toArray n u (by rw[P2];omega)) ⟨e,?_⟩
 refine⟨.non,_,I.Hr (its':=its ++ [u]) hH e (by simp) (r.append (.cons ru .nil)) ?_,rfl,q⟩
 rw[Q9,List.length_singleton];omega
def ot:V->List V->Hp->VK->Prop:=fun x vs H Q=>∃ l b xs zs,x = .ref l/\vs = [.ref b]/\H l=some (.lst xs)/\H b=some (.lst zs)/\xs.length+zs.length<=QD/\Q .non (upd H l (.lst (xs++zs)))
theorem AJ:MtM X "list.extend" ot:=by
 intro j0 s σ H x vs v us Q I rx rv h;obtain⟨l,b,xs,zs,rfl,rfl,hH,hB,hz,q⟩:=h;cases rx;obtain⟨u,rfl,ru⟩:=rv.one;cases ru;obtain⟨z,its,n,r,hl,e⟩:=I.xJ hH;obtain⟨z2,bK,n2,r2,hl2,e2⟩:=I.xJ hB;have hsz:its.toArray.size+bK.toArray.size<=QD:=by rw[P2,P2];omega
 have DT:¬(!its.toArray.isEmpty&&Builtin.List.listTooLong (its.toArray.size+bK.toArray.size))=true:=by
  rw[vt hsz,SK];exact QF
 refine call_meets F.slot_list_extend ⟨_,e,rfl⟩ F.entry_list_extend (F.args_list_extend_2 _ _)
  (AutoSeq1.list_extend_list_list_0 l its.toArray n b bK.toArray n2 DT (by rw[P2];omega) (by omega)) ⟨e,e2,?_⟩
 refine⟨.non,_,I.Hr (its':=its++bK) hH e (by simp) (r.append r2) ?_,rfl,q⟩
 rw[Q9];omega
def Ge:V->List V->Hp->VK->Prop:=fun x vs H Q=>∃ l xs y,x = .ref l/\vs = []/\H l=some (.lst xs)/\xs[xs.length - 1]? = some y/\Q y (upd H l (.lst xs.dropLast))
theorem xB:MtM X "list.pop" Ge:=by
 intro j0 s σ H x vs v us Q I rx rv h;obtain⟨l,xs,y,rfl,rfl,hH,hy,q⟩:=h;cases rx;have hus:=rv.zero;subst hus;obtain⟨z,its,n,r,hl,e⟩:=I.xJ hH;obtain⟨u,hu,ru⟩:=r.get hy;have hy':its.toArray[its.toArray.size - 1]? = some u:=by
  show its.toArray[its.length - 1]? = some u;rw[<- S5,<- hl];exact hu
 refine call_meets F.slot_list_pop ⟨_,e,rfl⟩ F.entry_list_pop (F.args_list_pop_1 _) (MeetsSeq.list_pop_last l its.toArray n u hy' (by rw[P2];omega)) ⟨e,?_⟩
 refine⟨y,_,I.Hr (its':=its.dropLast) hH e ?_ r.dropLast ?_,ru,q⟩
 ·show its.toArray.eraseIdxIfInBounds (its.toArray.size - 1)=its.dropLast.toArray;rw[P2,List.eraseIdxIfInBounds_toArray,x9]
 ·rw[List.length_dropLast];omega
def Mu:R2:=fun x y H Q=>∃ l b xs zs,x = .ref l/\y = .ref b/\H l=some (.lst xs)/\H b=some (.lst zs)/\xs.length+zs.length<=QD/\∀ p,H p=none->Q (.ref p) (upd H p (.lst (xs++zs)))
theorem KL:OpR X (binaryOp .Add) Mu:=by
 intro j0 s σ H x y v u Q I rx ry h;obtain⟨l,b,xs,zs,rfl,rfl,hH,hB,hz,q⟩:=h;cases rx;cases ry;obtain⟨z,its,n,r,hl,e⟩:=I.xJ hH;obtain⟨z2,bK,n2,r2,hl2,e2⟩:=I.xJ hB;refine PySem.P.add_list e e2 ?_ (by rw[P2,P2];omega)
 have ea:its.toArray++bK.toArray =(its++bK).toArray:=by simp
 rw[ea];exact⟨.ref _,_,I.PQ (t':=s.toks) (r.append r2) (by rw[Q9];omega),rfl,q _ I.fresh⟩
end
end L2
namespace Att
open PySem PySem.W PySem.Calls PyProof.Rows
theorem nX{P:Params}{h:Heap}:∀(ns:List Int)(vs:List Value),WellAll P h vs (ns.map WData.int)->IntsAre vs ns:=by
 intro ns
 induction ns with
 | nil =>
  intro vs w;rw[SX]at w;cases w;exact .nil
 | cons n ns ih =>
  intro vs w;rw[Rt]at w;cases w with
  | cons a b =>
   cases a;exact .cons _ _ (ih _ b)
theorem Ab{l:OpenLaw}{n:Nat}(hn:l.most=some n){P:Params}{h:Heap}{args:List WData}{vals:List Value}
  (hpre:l.row.toRowW.claim.pre args=true) (hwl:WellAll P h vals args) :
  ∃ a vs ns,vals = [Value.ref a]/\args = [WData.list (ns.map WData.int)]/\h.get? a=some { cls:=.type "list",data:=.seq vs.toArray }/\IntsAre vs ns/\ns.length<=n:=by
 have hsh:WShape.hasAll [] args [.list .int]=true:=(pre_splitW hpre).1;have hc:l.pre.holds [] { args:=args }=true:=(pre_splitW hpre).2;obtain⟨d,r,rfl,h1,h2⟩:=hasAllW_cons hsh;obtain rfl:=hasAllW_nil h2;obtain⟨xs,rfl,h3⟩:=hasW_list h1;obtain⟨ns,rfl⟩:=items_int h3;have hlen:ns.length<=n:=by
  unfold OpenLaw.pre at hc;have h4:(WTm.not (.lt (.lit (.int (n:Int))) (.len (.arg 0)))).holds [] { args:=[.list (ns.map .int)] }=true:=by
   have h4:=(holds_andW hc).1;rw[hn]at h4;exact h4
  have h5:=condW_of h4 (w_not (w_lt w_lit (w_len_list (w_arg rfl))));rw[QR]at h5;refine Nat.le_of_not_lt fun q=>?_
  have q':(n:Int)<((ns.length:Nat):Int):=by omega
  first
   | (rw[decide_eq_true q']at h5;exact absurd h5 (by decide))
   | (simp at h5;omega)
 cases hwl with
 | cons w1 w2 =>
  cases w2;cases w1 with
  | list ho Li=>exact⟨_,_,ns,rfl,rfl,ho,nX ns _ Li,hlen⟩
theorem An(l:OpenLaw)(args:List WData):l.row.toRowW.claim.post args (.bool true) args=true :=
 postW_of (r:=l.row.toRowW) (X:=(true==true))
  (show WShape.has [] (.bool true) .bool=true by first|rfl|decide|simp[WShape.has,WShape.arms,WShape.armsAll])
  (show(WTm.eq .res (.lit (.bool true))).value [] { args:=args,res:=some (.bool true),after:=args }=some (.bool (true==true))from w_eq_bool (w_res rfl) w_lit) rfl
theorem vV{l:OpenLaw}{n:Nat}{q:Program}{loose:List Str}{XP:(Str->Option Value)->Heap->Prop}{YP:World->Heap->Prop}{d:DefRec}
  (hn:l.most=some n) (hdf:d.params.defaults = [])
  (call:∀(w:World)(s₀ s₁:Shared)(mg mb:Str->Option Value)(fa:Addr)(o:Obj)(pm cd doc:Value)(a:Addr)(vs:List Value)(ns:List Int),
   Ground q loose [] XP w s₀ mg mb s₁.heap->YP w s₁.heap ->
   s₁.heap.get? fa=some o->o.data = .func (docDef d.name d.params d.body d.scope pm cd doc)->s₁.heap.CodeRec cd d.name->mg d.name=some (.ref fa) ->
   s₁.heap.get? a=some { cls:=.type "list",data:=.seq vs.toArray }->IntsAre vs ns->ns.length<=n->s₁.gens = #[] ->
   codeAny (model l.prog w) callerA (.call (.ref fa) ⟨[.ref a],[]⟩) (fun r s'=>r = .ok (.ret (.bool true))/\OldK s₁.heap s'.heap/\s'.os=s₁.os/\AllBare s'.gens) s₁) :
  WalkO q loose XP YP l.row.toRowW d [] (fun f vs=>PySem.call f vs):=by
 intro w s₀ s₁ mg mb G Y fa o pm cd doc dV kV ho hd hcd hD hmg hg args vals as hpre QM hrd hwl hlo;obtain rfl:dV = .none:=Dflts.none hD hdf;obtain rfl:kV = .none:=Dflts.noKw hD;obtain⟨a,vs,ns,rfl,rfl,Le,hints,hlen⟩:=Ab hn hpre hwl;refine enter_call (codeAny_mono (call w s₀ s₁ mg mb fa o pm cd doc a vs ns G Y ho (fd_plain hd) hcd hmg Le hints hlen hg) fun r s' hq=>?_)
 obtain⟨rfl,h2,h3,h4⟩:=hq;exact⟨.inl ⟨.bool true,.bool true,[],rfl,fun _=>rfl,.bool true,An l _,fun _=>⟨List.Pairwise.nil,fun _ hm=>(nomatch hm)⟩⟩,h2,h3,h4⟩
section
variable{prog:Program}{w:World}{A:Around}{E:Value->Shared->Prop}{s:Shared}{K:Frag}
def ledger(h:Heap)(L d:Addr):List (Addr×Obj):=(Rf h.objs.size).filterMap fun a=>if a=L\/a=d then none else(h.get? a).map fun o=>(a,o)
end
end Att
namespace L2
open PySem PySem.Spec PyProof.Rows
theorem rn:∀{vs:List Value}{ns:List Int},IntsAre vs ns->Vals (ns.map V.int) vs
 | _,_,.nil=>.nil
 | _,_,.cons n t h=>.cons ⟨t,rfl⟩ (rn h)
def IC(H:Hp):Prop:=∀ b,H b=none\/∃ o xs,H b=some (.frz o (.lst xs))
variable{mg:Str->Option Value}{a:Addr}{x:Str}
theorem DA{P:Program}{w:World}{K:W.Frag}{mb:Str->Option Value}{CX:CXT}{k:Nat}{fa:Addr}{fd:FuncData}{sp:Sp}{s₁:Shared}{vs:List Value}{ns:List Int}
  (KX:K.In s₁.heap) (hns:s₁.heap.Ns mainGlobals mg) (hb:s₁.heap.Ns builtinsNs mb) (hbb:∀ x:Str,x ≠ "__name__" -> mb x=bootBuiltins x) (P7:s₁.heap.NoLimit) (hg:s₁.gens = #[])
  (ha:s₁.heap.get? a=some { cls:=.type "list",data:=.seq vs.toArray }) (hi:IntsAre vs ns) (hl:ns.length<=QD) (hr:bT k callerA)
  (F:∀ base:Heap,K.In base->base.Ns mainGlobals mg->aQ P w K mg base CX k fa fd [x] sp) (NA:∀(s:Shared)(u:Value),BindsTo s fd ⟨[u],[]⟩ [(x,u)])
  (hsp:∀ H:Hp,IC H->SqL K H a (ns.map V.int)->sp [.ref a] H (fun v _=>v = .bl true) fun _ _ _=>False)
  (hCX:∀ H e s',CX [] H s₁ (fun _ _ _=>False) e s'->False) :
  codeAny (model P w) callerA (.call (.ref fa) ⟨[.ref a],[]⟩) (fun r s'=>r = .ok (.ret (.bool true))/\OldK s₁.heap s'.heap/\s'.os=s₁.os/\AllBare s'.gens) s₁:=by
 have rv:=rn hi;have PR:=hi.length;have core:∀ H:Hp,IC H->SqL K H a (ns.map V.int)->HOk P w H s₁.heap ->(∀ b,H b≠none->b=a) ->(H a≠none->K.lookup a=none) ->
   codeAny (model P w) callerA (.call (.ref fa) ⟨[.ref a],[]⟩) (fun r s'=>r = .ok (.ret (.bool true))/\OldK s₁.heap s'.heap/\s'.os=s₁.os/\AllBare s'.gens) s₁:=by
  intro H hO hS hok hA hK;have zI:∀{b:Addr}{o:Obj},s₁.heap.get? b=some o->H b=none ->(t6 s₁.heap H).get? b=some o:=fun e n=>DX e n
  have noA:∀{b:Addr}{o:Obj}{es:Array DictEntry}{ep:Nat},s₁.heap.get? b=some o->o.data = .dict es ep->H b=none:=fun{b o es ep} e d=>by
   cases q:H b with
   | none=>rfl
   | some u =>
    have e':b=a:=hA b (by rw[q];simp)
    subst e';rw[ha]at e;cases e;have d':Data.seq vs.toArray _=Data.dict es ep:=d;cases d'
  have nsK:∀{b:Addr}{m:Str->Option Value},s₁.heap.Ns b m ->(t6 s₁.heap H).Ns b m:=fun{b m} ⟨o,es,ep,e,d,r⟩=>⟨o,es,ep,zI e (noA e d),d,r⟩
  have hKb:K.In (t6 s₁.heap H):=fun b o e=>zI (KX b o e) (by
   cases q:H b with
   | none=>rfl
   | some u =>
    have e':b=a:=hA b (by rw[q];simp)
    subst e';rw[hK (by rw[q];simp)]at e;cases e)
  have hM:Mod K mg (t6 s₁.heap H):=⟨hKb,nsK hns,⟨mb,nsK hb,hbb⟩,let⟨mc,h1,h2⟩:=P7;⟨mc,nsK h1,h2⟩⟩
  have e0:yD P w K mg (t6 s₁.heap H) callerA [] s₁ H:=⟨rfl,hM,fun b o e=>Hc e,Nat.le_of_eq (A0 _ _),trivial,fun b hb=>absurd (show b∈([]:List Addr)from hb) (by simp),hok,.of_eq hg⟩
  refine codeAny_mono ((F _ hKb (nsK hns)).run callerA [] s₁ H ⟨[.ref a],[]⟩ [.ref a] [.ref a] _ _ hr e0 (NA s₁ (.ref a)) (.cons rfl .nil) (hsp H hO hS)) fun r s' h=>?_
  cases r with
  | error e=>exact(hCX H e s' h).elim
  | ok fl =>
   cases fl with
   | next=>exact False.elim h
   | brk=>exact False.elim h
   | cont=>exact False.elim h
   | ret u =>
    obtain⟨v,H',os,bare,un,P5,r',q⟩:=h;have q':v = .bl true:=q;subst q';obtain rfl:u=Value.bool true:=r';refine⟨rfl,OldK.of_keep fun b o e=>?_,os,bare⟩
    cases q:H b with
    | none=>exact un.keep b o e q (by intro z;exact absurd (show b∈([]:List Addr)from z) (by simp)) (by simp)
    | some u =>
     rcases hO b with z |⟨ob,xs,z⟩
     ·rw[q]at z;cases z
     ·have z2:=un.mY b ob _ z;obtain⟨e1,_⟩:=hok b _ z;obtain⟨e2,_⟩:=P5 b _ z2;rw[e]at e1;cases e1;exact e2
 cases hk:K.lookup a with
 | some o =>
  have e:=KX a o hk;rw[ha]at e;cases e;refine core (fun _=>none) (fun _=>.inl rfl) (.inr ⟨_,vs.toArray,_,hk,rfl,rfl,rfl,by rw[P2,PR];exact hl,by simpa using rv⟩) (fun b u z=>by have z':(none:Option HO)=some u:=z;cases z') (fun b z=>absurd rfl z) fun z=>absurd rfl z
 | none =>
  refine core (fun b=>if b=a then some (.frz { cls:=.type "list",data:=.seq vs.toArray } (.lst (ns.map V.int)))else none) (fun b=>?_) (.inl (.inr ⟨{ cls:=.type "list",data:=.seq vs.toArray },if_pos rfl⟩)) (fun b u z=>?_) (fun b z=>?_) fun _=>hk
  ·by_cases hb:b=a
   ·exact .inr ⟨_,_,if_pos hb⟩
   ·exact .inl (if_neg hb)
  ·by_cases hb:b=a
   ·have z':=(if_pos hb).symm.trans z;cases z';subst hb;exact⟨ha,by rw[QR];exact hl,vs,_,rv,ha⟩
   ·have z':=(if_neg hb).symm.trans z;cases z'
  ·by_cases hb:b=a
   ·exact hb
   ·exact absurd (if_neg hb) z
variable{n:Nat}
theorem FF{l:W.OpenLaw}{k:Nat}{q:Program}{loose:List Str}{XP:(Str->Option Value)->Heap->Prop}{YP:World->Heap->Prop}{d:DefRec}{K:Params->W.Frag}{CX:World->CXT}{sp:World->Sp}
  (hn:l.most=some n) (hn2:n<=QD) (hdf:d.params.defaults = []) (hr:bT k callerA)
  (hY:∀(w:World)(h:Heap),YP w h ->(K w.params).In h)
  (F:∀(w:World)(mg:Str->Option Value)(fa:Addr)(h:Heap),(K w.params).In h->h.Ns mainGlobals mg->mg d.name=some (.ref fa) ->
   ∃ fd:FuncData,(∀(s:Shared)(u:Value),BindsTo s fd ⟨[u],[]⟩ [(x,u)]) /\
    ∀ base:Heap,(K w.params).In base->base.Ns mainGlobals mg->aQ l.prog w (K w.params) mg base (CX w) k fa fd [x] (sp w))
  (hsp:∀(w:World)(H:Hp)(a:Addr)(ns:List Int),ns.length<=n->IC H->SqL (K w.params) H a (ns.map V.int)->sp w [.ref a] H (fun v _=>v = .bl true) fun _ _ _=>False)
  (hCX:∀(w:World)(H:Hp)(s:Shared)(e:Value)(s':Shared),CX w [] H s (fun _ _ _=>False) e s'->False) :
  W.WalkO q loose XP YP l.row.toRowW d [] (fun f vs=>PySem.call f vs):=by
 refine Att.vV hn hdf fun w s₀ s₁ mg mb fa o pm cd doc a vs ns G Y ho hd hcd hmg Le hints hlen hg=>?_
 have KX:=hY w _ Y;obtain⟨fd,hb,hF⟩:=F w mg fa _ KX G.T.g hmg;exact DA KX G.T.g G.T.b G.T.builtins G.T.nolimit hg Le hints (Ra hlen hn2) hr hF hb (fun H hO hS=>hsp w H a ns hlen hO hS) fun H e s'=>hCX w H s₁ e s'
def inClass(s:Stmt)(j:Nat):Stmt:=match s with
 | .ClassDef _ _ _ body _ _ _ _ _ _ _=>body.getD j (.Pass ⟨0,0,0,0⟩)
 | _=>.Pass ⟨0,0,0,0⟩
def dD(s:Stmt):Arguments:=match s with
 | .FunctionDef _ a _ _ _ _ _ _ _ _=>a
 | _=>{ posonlyargs:=[],args:=[],vararg:=none,kwonlyargs:=[],kw_defaults:=[],kwarg:=none,defaults:=[] }
def bH(s:Stmt):List Stmt:=match s with
 | .FunctionDef _ _ b _ _ _ _ _ _ _=>b
 | _=>[]
def ak(s:Stmt):Scope:=match s with
 | .FunctionDef _ _ _ _ _ _ sc _ _ _=>sc
 | _=>{ kind:=.function,names:=[],isGenerator:=false,isCoroutine:=false }
abbrev CX0:CXT:=fun _ _ _ _ _ _=>False
abbrev E0:XK:=fun _ _ _=>False
variable{X:Cx}
theorem l6:Passes CX0 X E0:=fun _ _ _ _ _ _ _ h=>h.elim
structure Fun(K:W.Frag)(x qual:Str)(st:Stmt)(f:Addr)(fd:FuncData):Prop where
 ex:∃(oc:Value)(od:Option Addr)(kV doc pm:Value)(an:Option Addr)(cdv ct:Value)(osl:Array (Option Value)),
  fd=W.fnOf x qual (dD st) (bH st) (ak st) .none kV doc pm an cdv ct/\K.lookup f=some ⟨oc,od,.func fd,osl⟩/\W.codeIn K cdv qual=true
 kp:W.keepIn K (.ref f)=true
variable{qual:Str}{st:Stmt}{fd:FuncData}{N:List Str}{ps:List Str}{sp:Sp}{oc:Value}{od:Option Addr}{an:Option Addr}{pm:Value}{ct:Value}
section
variable{P:Program}{w:World}{K:W.Frag}{base:Heap}
theorem Fun.ok{f:Addr}{k:Nat}(F:Fun K x qual st f fd)(S:aA N ps (ak st))(len:∀ vs H Q E,sp vs H Q E->vs.length=ps.length)
  (ma:∀(cdv:Value)(A:Around)(outer:List Env)(s:Shared)(H:Hp)(vs:List V)(Q:VK)(E:XK),bT k (A.deeper (envOfC qual (ak st) s.heap.objs.size f cdv))->sp vs H Q E ->
   ∃ t,PSs (qW CX0 P w K mg base N qual (ak st) f cdv A outer s H E).nox (bH st) t/\t { nx:=fun _ H'=>Q .non H',rt:=Q } (start N vs) H):aQ P w K mg base CX0 (k+1) f fd ps sp:=by
 obtain⟨oc,od,kV,doc,pm,an,cdv,ct,osl,rfl,lk,hcd⟩:=F.ex;refine NF lk hcd S len fun A outer s H vs Q E hr hsp=>?_
 obtain⟨t,h,q⟩:=ma cdv A outer s H vs Q E hr hsp;exact⟨t,h.nox,q⟩
theorem Fun.binds{f:Addr}(F:Fun K x qual st f fd)
  (h:∀(kV doc pm:Value)(an:Option Addr)(cdv ct:Value)(us:List Value),us.length=ps.length->bindArgs (W.fnOf x qual (dD st) (bH st) (ak st) .none kV doc pm an cdv ct) ⟨us,[]⟩=pure (ps.zip us)):Binds K fd ps []:=by
 obtain⟨oc,od,kV,doc,pm,an,cdv,ct,osl,rfl,lk,hcd⟩:=F.ex;exact .all (h kV doc pm an cdv ct)
theorem aK{f:Addr}{osl:Array (Option Value)}{kV doc cdv:Value}(l:K.lookup f=some ⟨oc,od,.func (W.fnOf x qual (dD st) (bH st) (ak st) .none kV doc pm an cdv ct),osl⟩)
  (c:W.codeIn K cdv qual=true) (k:W.keepIn K (.ref f)=true):Fun K x qual st f (W.fnOf x qual (dD st) (bH st) (ak st) .none kV doc pm an cdv ct):=⟨⟨oc,od,kV,doc,pm,an,cdv,ct,osl,rfl,l,c⟩,k⟩
end
variable{A:Around}
theorem bC{k:Nat}(hr:bT k A):A.units+1<cLine:=SM (Nat.add_le_add_left (by decide:1<=64) _) hr.units
theorem de(h:n<=1000):n<QD:=SM h (by decide)
section
theorem pv(i:Nat){pos:Pos}(hN:X.N[i]? = some x:=by rfl)(hv:Vis X.env.scope x:=by first|exact Or.inl rfl|exact Or.inr (Or.inl rfl)|exact Or.inr (Or.inr rfl))(hd:(x ==("__debug__":Str))=false:=by decide)
  (hcd:(x ==("__classdict__":Str))=false:=by decide):PE X (.Name x pos) (di i):=sS hN hv hd hcd
end
theorem P1{A B:Prop}(h:B):if false=true then A else B:=by
 rw[if_neg QF];exact h
theorem gG{c A B:Prop}[Decidable c](h1:c->A)(h2:¬ c->B):if c then A else B:=by
 by_cases h:c
 ·rw[if_pos h];exact h1 h
 ·rw[if_neg h];exact h2 h
def lA(H H':Hp):Prop:=∀ b o,H b=some o->H' b=some o
theorem lA.refl(H:Hp):lA H H:=fun _ _ h=>h
variable{H:Hp}{H':Hp}{l:Addr}
theorem lA.free(e:lA H H')(h:H' l=Option.none):H l=Option.none:=by
 cases q:H l with
 | none=>rfl
 | some o =>
  rw[e l o q]at h;cases h
variable{y:V}{u:Value}
section
variable{κ:Type}[DecidableEq κ]
def fQ(kvs:List (κ×V))(k:κ):Option V:=(kvs.find? fun kv=>decide (kv.1=k)).map (·.2)
def putK(kvs:List (κ×V))(k:κ)(v:V):List (κ×V) :=
 if(kvs.any fun kv=>decide (kv.1=k))=true then kvs.map (fun kv=>if kv.1=k then(kv.1,v)else kv)else kvs ++ [(k,v)]
theorem oH{p:κ×V}{r:List (κ×V)}{k:κ}(e:p.1=k):fQ (p::r) k=some p.2:=by simp[fQ,Rk,e]
theorem oI{p:κ×V}{r:List (κ×V)}{k:κ}(e:¬ p.1=k):fQ (p::r) k=fQ r k:=by simp[fQ,Rk,e]
theorem uO(k:κ):∀ kvs:List (κ×V),(kvs.any fun kv=>decide (kv.1=k)) =(fQ kvs k).isSome
 | []=>rfl
 | p::r=>by
  rw[R1];by_cases e:p.1=k
  ·simp only[oH e,decide_eq_true e,Tp,Option.isSome_some]
  ·rw[oI e,decide_eq_false e,SE];exact uO k r
theorem jQ(kvs:List (κ×V))(k:κ)(v:V):(putK kvs k v).length<=kvs.length+1:=by
 unfold putK
 split
 ·rw[QR];omega
 ·rw[Q9,Rj,SH];omega
theorem jt.AX{o:Option V}{u:Option Value}(r:jt o u):o.isSome=u.isSome:=by
 cases o with
 | none=>cases u with
  | none=>rfl
  | some _=>exact(show False from r).elim
 | some _=>cases u with
  | none=>exact(show False from r).elim
  | some _=>rfl
theorem KV.val{kvs:List (κ×V)}{vs:List (κ×Value)}(r:KV kvs vs)(k:κ):jt (fQ kvs k) (valueAt vs k):=by
 unfold KV at r
 induction r with
 | nil=>exact True.intro
 | @cons p q ps qs h t ih =>
  obtain⟨h1,h2⟩:=h;by_cases e:p.1=k
  ·have e':q.1=k:=h1.symm.trans e;have b:valueAt (q::qs) k=some q.2:=by simp[valueAt,Rk,e']
   rw[oH e,b];exact h2
  ·have e':¬ q.1=k:=fun z=>e (h1.trans z)
   have b:valueAt (q::qs) k=valueAt qs k:=by simp[valueAt,Rk,e']
   rw[oI e,b];exact ih
theorem KV.any{kvs:List (κ×V)}{vs:List (κ×Value)}(r:KV kvs vs)(k:κ):(kvs.any fun kv=>decide (kv.1=k))=vs.any fun kv=>decide (kv.1=k):=by
 unfold KV at r
 induction r with
 | nil=>rfl
 | cons h t ih=>rw[R1,R1,ih,h.1]
theorem KV.J3{kvs:List (κ×V)}{vs:List (κ×Value)}(r:KV kvs vs)(k:κ)(ry:RelV y u) :
  KV (kvs.map fun kv=>if kv.1=k then(kv.1,y)else kv) (vs.map fun kv=>if kv.1=k then(kv.1,u)else kv):=by
 unfold KV at r ⊢
 induction r with
 | nil=>exact .nil
 | @cons p q ps qs h t ih =>
  rw[Rt,Rt];refine .cons ?_ ih;obtain⟨h1,h2⟩:=h;by_cases e:p.1=k
  ·rw[if_pos e,if_pos (h1.symm.trans e)];exact⟨h1,ry⟩
  ·rw[if_neg e,if_neg (fun z=>e (h1.trans z))];exact⟨h1,h2⟩
theorem KV.put{kvs:List (κ×V)}{vs:List (κ×Value)}(r:KV kvs vs)(k:κ)(ry:RelV y u):KV (putK kvs k y) (stored vs k u):=by
 unfold putK stored;rw[r.any k];by_cases e:(vs.any fun kv=>decide (kv.1=k))=true
 ·rw[if_pos e,if_pos e];exact r.J3 k ry
 ·rw[if_neg e,if_neg e];exact Paired.snoc r ⟨rfl,ry⟩
theorem KV.length{kvs:List (κ×V)}{vs:List (κ×Value)}(r:KV kvs vs):kvs.length=vs.length:=Paired.length r
end
variable{P:Program}
theorem rL{w:World}{k:Key}(r:RelV (kV k) u):(br P w).is k u=true:=by
 cases k with
 | inl i=>obtain⟨t,e⟩:=(show ∃ t,u=Value.int i t from r);subst e;exact vA P w i t
 | inr x=>obtain⟨t,e⟩:=(show ∃ t,u=Value.str x t from r);subst e;exact vz P w x t
theorem rM{P:Program}{w:World}:∀{ks:List Key}{us:List Value},Vals (ks.map kV) us->ItemsAre (br P w) ks us
 | [],_,r=>by rw[SX]at r;cases r;exact .nil
 | k::ks,_,r=>by
  rw[Rt]at r;cases r with
  | cons h t=>exact .cons (rL h) (rM t)
abbrev KT(H:Hp):List (List Key×V)->List (List Key×Addr×Value)->Prop:=Paired fun p q=>p.1=q.1/\H q.2.1=some (.tup (p.1.map kV))/\RelV p.2 q.2.2
variable{kvs:List (List Key×V)}
theorem KT.val{xs:List (List Key×Addr×Value)}(r:KT H kvs xs)(k:List Key):jt (fQ kvs k) ((atKey xs k).map (·.2)):=by
 induction r with
 | nil=>exact True.intro
 | @cons p q ps qs h t ih =>
  obtain⟨h1,_,h2⟩:=h;by_cases e:p.1=k
  ·have e':q.1=k:=h1.symm.trans e;have b:atKey (q::qs) k=some q.2:=by simp[atKey,Rk,e']
   rw[oH e,b];exact h2
  ·have e':¬ q.1=k:=fun z=>e (h1.trans z)
   have b:atKey (q::qs) k=atKey qs k:=by simp[atKey,Rk,e']
   rw[oI e,b];exact ih
theorem KT.J3{xs:List (List Key×Addr×Value)}(r:KT H kvs xs)(k:List Key)(ry:RelV y u) :
  KT H (kvs.map fun kv=>if kv.1=k then(kv.1,y)else kv) (xs.map (putAt k u)):=by
 induction r with
 | nil=>exact .nil
 | @cons p q ps qs h t ih =>
  rw[Rt,Rt];refine .cons ?_ ih;obtain⟨h1,h2,h3⟩:=h;unfold putAt;by_cases e:p.1=k
  ·rw[if_pos e,if_pos (h1.symm.trans e)];exact⟨h1,h2,ry⟩
  ·rw[if_neg e,if_neg (fun z=>e (h1.trans z))];exact⟨h1,h2,h3⟩
theorem KT.put{xs:List (List Key×Addr×Value)}(r:KT H kvs xs)(k:List Key){b:Addr}(hb:H b=some (.tup (k.map kV)))(ry:RelV y u) :
  KT H (putK kvs k y) (storedH xs k b u):=by
 have e:(kvs.any fun kv=>decide (kv.1=k)) =(atKey xs k).isSome:=by
  rw[uO,(r.val k).AX,Option.isSome_map]
 unfold putK storedH;rw[e];by_cases q:(atKey xs k).isSome=true
 ·rw[if_pos q,if_pos q];exact r.J3 k ry
 ·rw[if_neg q,if_neg q];exact Paired.snoc r ⟨rfl,hb,ry⟩
theorem KT.keeps{xs:List (List Key×Addr×Value)}(r:KT H kvs xs)(ht:∀ b ys,H b=some (.tup ys)->H' b=some (.tup ys)):KT H' kvs xs :=
 Paired.KY r fun _ _ z=>⟨z.1,ht _ _ z.2.1,z.2.2⟩
section
variable{w:World}{h:Heap}
theorem IQ{u:HO}(ok:HOk P w H h)(e:Rd H a u):bO P w H h a u:=e.ok ok
theorem vL{kvs:List (Key×V)}(ok:HOk P w H h)(e:Rd H a (.dK kvs)):kvs.length<=QD/\(a==sysModules)=false/\∃ vs,KV kvs vs/\h.DictOf (br P w) a vs :=
 show bO P w H h a (.dK kvs)from IQ ok e
theorem Jt{kvs:List (Key×V)}(ok:HOk P w H h)(e:H a=some (.dK kvs)):kvs.length<=QD/\(a==sysModules)=false/\∃ vs,KV kvs vs/\h.DictOf (br P w) a vs:=vL ok (.inl e)
theorem xR{ks:List Key}(ok:HOk P w H h)(e:H a=some (.tup (ks.map kV))):(tupleKind (br P w)).is h ks a:=by
 obtain⟨_,its,r,⟨o,h1,h2,n,h3⟩,_⟩:=(show bO P w H h a (.tup (ks.map kV))from ok a _ e);exact⟨o,its.toArray,n,h1,h2,h3,by simpa using rM r⟩
theorem Ea(ok:HOk P w H h)(e:Rd H a (.dT kvs)):kvs.length<=QD/\(a==sysModules)=false /\
  ∃ xs,KT H kvs xs/\h.DictOfH (tupleKind (br P w)) a xs:=by
 obtain⟨z,y,xs,r,o,es,ep,h1,h2,h3,h4,h5⟩:=(show bO P w H h a (.dT kvs)from IQ ok e);refine⟨z,y,xs,r,o,es,ep,h1,h2,h3,h4,fun x hx=>?_,h5⟩
 have all:∀{l:List (List Key×V)}{m:List (List Key×Addr×Value)},KT H l m->∀ x∈m,(tupleKind (br P w)).is h x.1 x.2.1:=by
  intro l m q
  induction q with
  | nil=>intro x hx;exact nomatch hx
  | @cons p q ps qs hq t ih =>
   intro x hx;rcases QH.mp hx with e|hx
   ·subst e;exact xR ok (by rw[<- hq.1];exact hq.2.1)
   ·exact ih x hx
 exact all r x hx
theorem NH(ok:HOk P w H h)(e:H a=some (.dT kvs)):kvs.length<=QD/\(a==sysModules)=false /\
  ∃ xs,KT H kvs xs/\h.DictOfH (tupleKind (br P w)) a xs:=Ea ok (.inl e)
end
def qz(H:Hp)(a:Addr)(y:V)(r:Option V):Prop :=
 (∃ kvs k,Rd H a (.dK kvs)/\y=kV k/\r=fQ kvs k)\/∃ kvs k b,Rd H a (.dT kvs)/\y = .ref b/\H b=some (.tup (k.map kV))/\r=fQ kvs k
def uC(H:Hp)(a:Addr)(y v:V)(H':Hp):Prop :=
 (∃ kvs k,H a=some (.dK kvs)/\y=kV k/\kvs.length<QD/\H'=upd H a (.dK (putK kvs k v))) \/
 ∃ kvs k b,H a=some (.dT kvs)/\y = .ref b/\H b=some (.tup (k.map kV))/\kvs.length<QD/\H'=upd H a (.dT (putK kvs k v))
theorem qz.k{H:Hp}{a:Addr}{kvs:List (Key×V)}{k:Key}(e:H a=some (.dK kvs)):qz H a (kV k) (fQ kvs k):=.inl ⟨kvs,k,.inl e,rfl,rfl⟩
theorem uC.k{H:Hp}{a:Addr}{kvs:List (Key×V)}{k:Key}{v:V}(e:H a=some (.dK kvs))(hl:kvs.length<QD):uC H a (kV k) v (upd H a (.dK (putK kvs k v))):=.inl ⟨kvs,k,e,rfl,hl,rfl⟩
variable{Q:Value->Shared->Prop}{h':Heap}{t':Nat}
section
variable{j0:List (Addr×Obj)}{σ:St}{s:Shared}{v:V}{r:Value}{o:Option V}{E:Value->Shared->Prop}
theorem Inv.big(I:Inv X j0 σ H s):sysModules<s.heap.objs.size:=by
 have h:mainGlobals<s.heap.objs.size:=(I.mod.glob.keeps I.bk).lt;exact Nat.lt_trans (by decide) h
theorem A7(hu:A.units+1<cLine)(I:Inv X j0 σ H s)(g:qz H a y (some v))(ry:RelV y u)(h:∀ w' s',Inv X j0 σ H s'->RelV v w'->Q w' s') :
  wpAny (model X.prog X.w) A (getItem (.ref a) u) Q E s:=by
 rcases g with⟨kvs,k,e,ey,l⟩ |⟨kvs,k,b,e,ey,eb,l⟩
 ·subst ey;obtain⟨z,hd,vs,rel,dd⟩:=vL I.hok e;obtain⟨w',hw,rw'⟩:=jt.some_of (v:=v) (o:=valueAt vs k) (by rw[l];exact rel.val k)
  exact wpAny_getItem_of (rL ry) dd.mapOf hw (h w' _ (I.tok _) rw')
 ·subst ey
  cases(show u=Value.ref b from ry)
  obtain⟨z,hd,xs,rel,dd⟩:=Ea I.hok e;obtain⟨w',hw,rw'⟩:=jt.some_of (v:=v) (o:=(atKey xs k).map (·.2)) (by rw[l];exact rel.val k)
  obtain⟨p,hp,hp2⟩:=Rh.mp hw;refine wpAny_getItem_heap (tupleKind_room_in1 hu) (xR I.hok eb) dd hp ?_;rw[hp2];exact h w' _ (I.tok _) rw'
theorem t8{ob:HO}(I:Inv X j0 σ H s)(mu:Mut (H a))(hs:R8 a s.heap h')(he:∃ q,h'.get? a=some q)(new:bO X.prog X.w (upd H a ob) h' a ob) :
  Inv X j0 σ (upd H a ob) { s with heap:=h',toks:=t' } :=
 I.write (x:=a) (e:=a) mu (.inl rfl) (fun b q hb z=>(hs.2 b hb).trans z) he new
theorem ya{w:World}{kvs:List (Key×V)}{vs:List (Key×Value)}(z:kvs.length<=QD)(hd:(a==sysModules)=false)(rel:KV kvs vs)(dd:h'.DictOf (br P w) a vs) :
  bO P w H' h' a (.dK kvs):=⟨z,hd,vs,rel,dd⟩
theorem A6{Q:Unit->Shared->Prop}(hu:A.units+1<cLine)(I:Inv X j0 σ H s)(g:uC H a y v H')(ry:RelV y u)(rv:RelV v r)(h:∀ s',Inv X j0 σ H' s'->Q () s') :
  wpAny (model X.prog X.w) A (setItem (.ref a) u r) Q E s:=by
 rcases g with⟨kvs,k,e,ey,l,eH⟩ |⟨kvs,k,b,e,ey,eb,l,eH⟩
 ·subst ey eH;obtain⟨z,hd,vs,rel,dd⟩:=Jt I.hok e;have hz:vs.length<=QD:=by rw[<- rel.length];exact z
  have hl:(putK kvs k v).length<=QD:=by have:=jQ kvs k v;omega
  refine wpAny_setItem_pairs (hsz:=hz) (rL ry) dd fun h' dd' hs=>h _ ?_
  have he:∃ q,h'.get? a=some q:=let⟨q,_,_,hq,_⟩:=dd';⟨q,hq⟩
  exact t8 I (by rw[e];exact True.intro) hs he (ya hl hd (rel.put k rv) dd')
 ·subst ey eH
  cases(show u=Value.ref b from ry)
  obtain⟨z,hd,xs,rel,dd⟩:=NH I.hok e;have hz:xs.length<=QD:=by rw[<- Paired.length rel];exact z
  have hl:(putK kvs k v).length<=QD:=by have:=jQ kvs k v;omega
  refine wpAny_setItem_heap (hsz:=hz) (tupleKind_room_in1 hu) (xR I.hok eb) dd fun h' dd' hs=>h _ ?_
  obtain⟨q,es,ep,hq,h2,h3,h4,_,h5⟩:=dd';refine t8 I (by rw[e];exact True.intro) hs ⟨q,hq⟩ ⟨hl,hd,_,(rel.put k eb rv).keeps fun c ys ec=>?_,q,es,ep,hq,h2,h3,h4,h5⟩
  rw[ah (jL ec e (fun z=>nomatch z))]
  exact ec
end
section
variable{j0:List (Addr×Obj)}{σ:St}{s:Shared}{kvs:List (Key×V)}{k:Key}{E:Value->Shared->Prop}
theorem NN(I:Inv X j0 σ H s)(e:Rd H a (.dK kvs))(h:∀ t s',Inv X j0 σ H s'->Q (.int kvs.length t) s'):wpAny (model X.prog X.w) A (call (.builtin "len") [.ref a]) Q E s:=by
 obtain⟨z,hd,vs,rel,dd⟩:=vL I.hok e;refine call_len_dict hd dd (by rw[<- rel.length];rw[Sv]at z;omega) ?_
 rw[<- rel.length];exact h _ _ (I.tok _)
end
def N9(i:Expr):Prop:=∀ ov iv,subscripted i false ov iv=operate [ov,iv] (getItem ov iv)
variable{prog:Program}{E:Value->Shared->Prop}{env:Env}{value:Expr}{pos:Pos}
theorem FK{w:World}{s:Shared}{slice:Expr}{T id:String}
  (hl:typeLookup (.type T) "__getitem__" = pure (some (.builtin id))) (hs:N9 slice)
  (h:wpAny (model prog w) A (eval value env) (fun o s₁=>wpAny (model prog w) A (eval slice env) (fun i s₂=>s₂.TypeIs o T/\wpAny (model prog w) A (getItem o i) Q E s₂) E s₁) E s) :
  wpAny (model prog w) A (eval (.Subscript value slice pos) env) Q E s:=by
 refine Subscript_ (RD h (fun o s₁ h₁=>RD h₁ (fun i s₂ h₂=>?_) fun _ _ x=>x) fun _ _ x=>x)
 obtain⟨hT,h₂⟩:=h₂;unfold subscriptTail;refine j2 ?_;rw[getitemInPython_of_ne hT.not_modules];refine j2 (RM hT hl ?_);have fin:wpAny (model prog w) A (subscripted slice false o i) (fun r s₃=>wpAny (model prog w) A (letTemporaryGo value o r >>= fun _=>pure r) Q E s₃) E s₂:=by
  rw[hs o i];exact wpAny_operating (RD h₂ (fun r s₃ h₃=>j2 (wpAny_letTemporaryGo (Lb h₃))) fun _ _ x=>x)
 first
  | exact Lb (j2 fin)
  | exact j2 (Lb (j2 fin))
  | exact j2 fin
variable{j0:List (Addr×Obj)}
theorem vM{σ:St}{s:Shared}{o:Option V}(I:Inv X j0 σ H s)(g:qz H a y o):s.TypeIs (.ref a) "dict":=by
 rcases g with⟨kvs,k,e,_,_⟩ |⟨kvs,k,b,e,_,_,_⟩
 ·obtain⟨_,_,vs,_,dd⟩:=vL I.hok e;exact dd.typeIs
 ·obtain⟨_,_,xs,_,dd⟩:=Ea I.hok e;exact dd.typeIs
def L7(td ty:TE):TE:=fun σ H Q=>td σ H fun x H1=>ty σ H1 fun y H2=>∃ a v,x = .ref a/\qz H2 a y (some v)/\Q v H2
def IP(td ty tv:TE):TS:=fun D σ H=>tv σ H fun v H1=>td σ H1 fun x H2=>ty σ H2 fun y H3=>∃ a H4,x = .ref a/\uC H3 a y v H4/\D.nx σ H4
section
variable{o i e:Expr}{pos' B1:Pos}{td ty tv:TE}
theorem iV(hu:X.A.units+1<cLine)(ho:PE X o td)(hi:PE X i ty)(hs:N9 i):PE X (.Subscript o i pos) (L7 td ty):=by
 intro j0 s σ H Q I h;refine FK PySem.F.slot_dict_getitem.lookup hs (thn (ho j0 s σ H _ I h) fun u s1 ⟨x,H1,I1,rx,q1⟩=>thn (hi j0 s1 σ H1 _ I1 q1) fun iv s2 hPP=>?_)
 obtain⟨y,H2,I2,ry,a,v,ex,g,q2⟩:=hPP;subst ex;obtain rfl:u=Value.ref a:=rx;exact⟨vM I2 g,A7 hu I2 g ry fun w' s3 I3 rw'=>⟨v,H2,I3,rw',q2⟩⟩
theorem oA(hu:X.A.units+1<cLine)(ho:PE X o td)(hi:PE X i ty)(hv:PE X value tv)(hs:swapsWith value (some (.Subscript o i pos')) pos.line X.env=pure false) :
  PS X (.Assign [.Subscript o i pos'] value pos) (IP td ty tv):=by
 intro j0 s σ H D I h;refine wpAny_Assign_Subscript (thn (hv j0 s σ H _ I h) fun r s1 ⟨v,H1,I1,rv,q1⟩=>thn (ho j0 s1 σ H1 _ I1 q1) fun u s2 ⟨x,H2,I2,rx,q2⟩=>thn (hi j0 s2 σ H2 _ I2 q2) fun iv s3 hPP=>?_) hs
 obtain⟨y,H3,I3,ry,a,H4,ex,g,q3⟩:=hPP;subst ex;obtain rfl:u=Value.ref a:=rx;exact A6 hu I3 g ry rv fun s4 I4=>⟨σ,H4,I4,q3⟩
end
theorem Ec{w:World}(h:Heap)(hb:sysModules<h.objs.size):bO P w H (h.push { cls:=.type "dict",data:=.dict #[] }) h.objs.size (.dK []) :=
 ⟨RE _,beq_eq_false_iff_ne.mpr (Ne.symm (Rg hb)),[],.nil,Heap.DictOf.new h⟩
def wF:List (TE×TE)->St->Hp ->(List (V×V)->Hp->Prop)->Prop
 | [],_,H,Q=>Q [] H
 | (tk,tv)::r,σ,H,Q=>tk σ H fun x H1=>tv σ H1 fun y H2=>wF r σ H2 fun ps H3=>Q ((x,y)::ps) H3
abbrev VV:List (V×V)->List (Value×Value)->Prop:=Paired fun p q=>RelV p.1 q.1/\RelV p.2 q.2
def PPs(X:Cx)(pos:Pos)(keys:List (Option Expr))(values:List Expr)(trs:List (TE×TE)):Prop :=
 ∀(j0:List (Addr×Obj))(s:Shared)(σ:St)(H:Hp)(Q:List (V×V)->Hp->Prop),Inv X j0 σ H s->wF trs σ H Q ->
  wpAny (model X.prog X.w) X.A (evalPairs (pairTrees keys values X.env pos)) (fun vs s'=>∃ ps H',Inv X j0 σ H' s'/\VV ps vs/\Q ps H') X.xe s
theorem GH:PPs X pos [] [] []:=fun j0 s σ H Q I h=>pairTrees_nil_walk ⟨[],H,I,.nil,h⟩
variable{tk:TE}{tv:TE}
theorem ph{k v:Expr}{ks:List (Option Expr)}{vs:List Expr}{trs:List (TE×TE)}(hk:PE X k tk)(hv:PE X v tv)(hr:PPs X pos ks vs trs) :
  PPs X pos (some k::ks) (v::vs) ((tk,tv)::trs):=fun j0 s σ H Q I h =>
 pairTrees_cons_walk (thn (hk j0 s σ H _ I h) fun u s1 ⟨x,H1,I1,rx,q1⟩=>thn (hv j0 s1 σ H1 _ I1 q1) fun w2 s2 ⟨y,H2,I2,ry,q2⟩ =>
  thn (hr j0 s2 σ H2 _ I2 q2) fun ws s3 ⟨ps,H3,I3,rel,q3⟩=>⟨(x,y)::ps,H3,I3,.cons ⟨rx,ry⟩ rel,q3⟩)
def d7(kvs more:List (Key×V)):List (Key×V):=more.foldl (fun acc kv=>putK acc kv.1 kv.2) kvs
theorem KV.merge:∀{more:List (Key×V)}{rs:List (Key×Value)}{kvs:List (Key×V)}{vs:List (Key×Value)},KV more rs->KV kvs vs->KV (d7 kvs more) (merged vs rs):=by
 intro more rs kvs vs r;unfold KV at r
 induction r generalizing kvs vs with
 | nil=>intro q;exact q
 | @cons p q ps qs h t ih =>
  intro r0;have e:KV (putK kvs p.1 p.2) (stored vs q.1 q.2):=by
   have:=r0.put p.1 h.2
   rw[<- h.1];exact this
  exact ih e
theorem ie:∀(more kvs:List (Key×V)),(d7 kvs more).length<=kvs.length+more.length
 | [],kvs=>by show kvs.length<=kvs.length+0;omega
 | p::r,kvs=>by
  have h1:=ie r (putK kvs p.1 p.2);have h2:=jQ kvs p.1 p.2;show(d7 (putK kvs p.1 p.2) r).length<=_;rw[Rj];omega
theorem p6{P:Program}{w:World}:∀{kvs:List (Key×V)}{ws:List (Value×Value)},VV (kvs.map fun kv=>(kV kv.1,kv.2)) ws->∃ rs,Carries (br P w) ws rs/\KV kvs rs
 | [],_,r=>by rw[SX]at r;cases r;exact⟨[],True.intro,.nil⟩
 | p::kvs,_,r=>by
  rw[Rt]at r;cases r with
  | @cons a b as bs h t =>
   obtain⟨rs,c,q⟩:=p6 (P:=P) (w:=w) t;obtain⟨b1,b2⟩:=b;exact⟨(p.1,b2)::rs,⟨rL h.1,rfl,c⟩,.cons ⟨rfl,h.2⟩ q⟩
def L6(trs:List (TE×TE)):TE:=fun σ H Q=>∀ p,H p=none->wF trs σ (upd H p (.dK [])) fun ps H2=>H2 p=some (.dK [])/\∃ kvs:List (Key×V),ps=kvs.map (fun kv=>(kV kv.1,kv.2))/\kvs.length<=15/\Q (.ref p) (upd H2 p (.dK (d7 [] kvs)))
theorem GX{keys:List (Option Expr)}{values:List Expr}{trs:List (TE×TE)}(h:PPs X pos keys values trs)(Li:keys.all (·.isSome)=true)(hl:keys.length=values.length)(h0:keys ≠ [])
  (h15:keys.length<=15):PE X (.Dict keys values pos) (L6 trs):=by
 intro j0 s σ H Q I q;have hn:=I.hok.fresh (QX s.heap.objs.size);have I1:=I.laid (a:=s.heap.objs.size) (o:=.dK []) (h':=s.heap.push { cls:=.type "dict",data:=.dict #[] }) (t':=s.toks) (fun _ _ q=>j3 _ q) (QX _) (Ec s.heap I.big)
 refine wpAny_Dict_walk (knd:=br X.prog X.w) Li hl h0 h15 (thn (h j0 _ σ _ _ I1 (q _ hn)) fun ws s2 hPP=>?_)
 obtain⟨ps,H2,I2,rel,e,kvs,ep,lk,q2⟩:=hPP;subst ep;obtain⟨rs,c,rk⟩:=p6 (P:=X.prog) (w:=X.w) rel;obtain⟨z,hd,vs0,r0,dd⟩:=Jt I2.hok e;cases r0;refine⟨rs,c,dd,fun h' dd' hs=>⟨.ref s.heap.objs.size,_,?_,rfl,q2⟩⟩
 have hz:(d7 [] kvs).length<=QD:=by
  have h1:=ie kvs [];rw[SH]at h1;rw[Sv];omega
 have he:∃ q,h'.get? s.heap.objs.size=some q:=let⟨q,_,_,hq,_⟩:=dd';⟨q,hq⟩
 exact t8 I2 (by rw[e];exact True.intro) hs he (ya hz hd (rk.merge .nil) dd')
section
theorem Bi:dJ X (.builtin "len") (fun xs H Q=>∃ a kvs,xs = [V.ref a]/\H a=some (.dK kvs)/\Q (.int kvs.length) H):=by
 intro j0 s σ H xs us Q I r h;obtain⟨a,kvs,rfl,ha,q⟩:=h;obtain⟨u,rfl,ru⟩:=vals1 r;cases ru;exact NN I (.inl ha) fun t s' I'=>⟨.int kvs.length,H,I',⟨t,rfl⟩,q⟩
end
end L2
set_option maxHeartbeats 4000000
namespace L2
open PySem PySem.Spec PyProof.Rows
theorem pK{h:Heap}{a:Nat}{o:Obj}(e:h.get? a=some o):@LT.lt Nat _ a h.objs.size:=QW e
theorem zH{h:Heap}{a:Nat}{v:Option Value}(e:h.IsCell a v):@LT.lt Nat _ a h.objs.size:=e.lt
theorem l7{a b:Nat}(h:a<b):@Ne Addr a b:=Rg h
theorem Nj{a b:Nat}(h:b<a):@Ne Addr a b:=RI h
theorem j4{env:Env}{body:Str×NameKind->List (Str×Addr)->Sem (ForInStep (List (Str×Addr)))}
  (hb:∀ n k c,body (n,k) c=if(k==NameKind.free)=true then(cellOf env n >>= fun a=>pure (.yield ((n,a)::c)))else pure (.yield c)) :
  ∀(l:List (Str×NameKind))(cs:List (Str×Addr)),(∀ p∈l,p.2=NameKind.free->∃ c,env.cells.lookup p.1=some c) ->
   ∃ cl,forIn l cs body=pure cl/\(∀ x c,cl.lookup x=some c->env.cells.lookup x=some c\/cs.lookup x=some c)/\(∀ x,(x,NameKind.free)∈l->∃ c,cl.lookup x=some c)/\∀ x c,cs.lookup x=some c->∃ c',cl.lookup x=some c'
 | [],cs,_=>⟨cs,rfl,fun _ _ h=>.inr h,fun _ h=>(nomatch h),fun _ c h=>⟨c,h⟩⟩
 | (n,k)::r,cs,h=>by
  have hr:∀ p∈r,p.2=NameKind.free->∃ c,env.cells.lookup p.1=some c:=fun p hp=>h p (j5 _ hp)
  rw[Sk,hb];by_cases hk:(k==NameKind.free)=true
  ·rw[if_pos hk];have hk':k = .free:=by simpa using hk
   obtain⟨c,hc⟩:=h (n,k) qr hk';have e1:cellOf env n=pure c:=by unfold cellOf;rw[hc]
   rw[e1];obtain⟨cl,e,h1,h2,h3⟩:=j4 hb r ((n,c)::cs) hr;refine⟨cl,e,fun x c' hx=>?_,fun x hx=>?_,fun x c' hx=>?_⟩
   ·rcases h1 x c' hx with z|z
    ·exact .inl z
    ·by_cases e2:(x==n)=true
     ·have e3:x=n:=by simpa using e2
      subst e3;rw[QZ,e2]at z;cases z;exact .inl hc
     ·rw[QZ,Tq.mpr e2]at z;exact .inr z
   ·rcases QH.mp hx with z|z
    ·have e2:x=n:=congrArg Prod.fst z;exact h3 x c (by rw[QZ,e2,beq_self_eq_true])
    ·exact h2 x z
   ·by_cases e2:(x==n)=true
    ·exact h3 x c (by rw[QZ,e2])
    ·exact h3 x c' (by rw[QZ,Tq.mpr e2];exact hx)
  ·rw[if_neg hk];obtain⟨cl,e,h1,h2,h3⟩:=j4 hb r cs hr;refine⟨cl,e,h1,fun x hx=>?_,h3⟩
   rcases QH.mp hx with z|z
   ·cases z;exact absurd rfl hk
   ·exact h2 x z
variable{scope:Scope}{env:Env}
theorem yd(h:∀ p∈scope.names,p.2=NameKind.free->∃ c,env.cells.lookup p.1=some c) :
  ∃ cl:List (Str×Addr),closureFor scope env=pure cl/\(∀ x c,cl.lookup x=some c->env.cells.lookup x=some c)/\∀ x,(x,NameKind.free)∈scope.names->∃ c,cl.lookup x=some c:=by
 obtain⟨cl,e,h1,h2,_⟩:=j4 (env:=env) (body:=fun x c=>if(x.2==NameKind.free)=true then(cellOf env x.1 >>= fun a=>pure (.yield ((x.1,a)::c)))else pure (.yield c)) (fun _ _ _=>rfl) scope.names [] h
 refine⟨cl,?_,fun x c hx=>(h1 x c hx).elim id fun z=>by simp at z,h2⟩
 have e2:closureFor scope env =(forIn scope.names ([]:List (Str×Addr)) (fun x c=>if(x.2==NameKind.free)=true then(cellOf env x.1 >>= fun a=>pure (.yield ((x.1,a)::c)))else pure (.yield c)) >>= fun r=>pure r):=by
  simp only[closureFor]
 rw[e2,e];rfl
theorem gX{env:Env}:∀{names:List (Str×NameKind)}{x:Str}{k:NameKind},
  (names.map fun(n,k)=>if(k==NameKind.free&&env.scope.kind == .function&&env.kindOf n==some .cell)then(n,NameKind.cell)else(n,k)).lookup x=some k ->
   names.lookup x=some k\/(names.lookup x=some .free/\k = .cell)
 | [],_,_,h=>by simp at h
 | (n,k0)::r,x,k,h=>by
  have ih:=@gX env r x k
  replace h:RS x ((if(k0==NameKind.free&&env.scope.kind == .function&&env.kindOf n==some .cell)=true then(n,NameKind.cell)else(n,k0)) ::(r.map fun(n,k)=>if(k==NameKind.free&&env.scope.kind == .function&&env.kindOf n==some .cell)then(n,NameKind.cell)else(n,k)))=some k:=h
  cases hx:x==n with
  | true =>
   by_cases hc:(k0==NameKind.free&&env.scope.kind == .function&&env.kindOf n==some .cell)=true
   ·rw[if_pos hc]at h;simp only[QZ,hx]at h;cases h
    have:k0 = .free:=by
     simp only[QY]at hc;simpa using hc.1.1
    subst this;exact .inr ⟨by simp only[QZ,hx],rfl⟩
   ·rw[if_neg hc]at h;simp only[QZ,hx]at h;exact .inl (by simp only[QZ,hx];exact h)
  | false =>
   have h':(r.map fun(n,k)=>if(k==NameKind.free&&env.scope.kind == .function&&env.kindOf n==some .cell)then(n,NameKind.cell)else(n,k)).lookup x=some k:=by
    by_cases hc:(k0==NameKind.free&&env.scope.kind == .function&&env.kindOf n==some .cell)=true
    ·rw[if_pos hc]at h;simpa only[QZ,hx]using h
    ·rw[if_neg hc]at h;simpa only[QZ,hx]using h
   rcases ih h' with z|z
   ·exact .inl (by simp only[QZ,hx];exact z)
   ·exact .inr (by simp only[QZ,hx];exact z)
theorem lQ{env:Env}:∀{names:List (Str×NameKind)}{x:Str},names.lookup x=some .free ->
  (names.map fun(n,k)=>if(k==NameKind.free&&env.scope.kind == .function&&env.kindOf n==some .cell)then(n,NameKind.cell)else(n,k)).lookup x=some .free \/
  (names.map fun(n,k)=>if(k==NameKind.free&&env.scope.kind == .function&&env.kindOf n==some .cell)then(n,NameKind.cell)else(n,k)).lookup x=some .cell
 | [],_,h=>by simp at h
 | (n,k0)::r,x,h=>by
  have ih:=@lQ env r x;show RS x ((if(k0==NameKind.free&&env.scope.kind == .function&&env.kindOf n==some .cell)=true then(n,NameKind.cell)else(n,k0))::_)=_\/RS x ((if(k0==NameKind.free&&env.scope.kind == .function&&env.kindOf n==some .cell)=true then(n,NameKind.cell)else(n,k0))::_)=_
  cases hx:x==n with
  | true =>
   simp only[QZ,hx]at h;cases h;by_cases hc:(NameKind.free==NameKind.free&&env.scope.kind == .function&&env.kindOf n==some .cell)=true
   ·rw[if_pos hc];simp only[QZ,hx];exact .inr trivial
   ·rw[if_neg hc];simp only[QZ,hx];exact .inl trivial
  | false =>
   simp only[QZ,hx]at h;by_cases hc:(k0==NameKind.free&&env.scope.kind == .function&&env.kindOf n==some .cell)=true
   ·rw[if_pos hc];simp only[QZ,hx];exact ih h
   ·rw[if_neg hc];simp only[QZ,hx];exact ih h
inductive mB(X:Cx)(sc:Scope):List Str->List (Option Nat)->Prop
 | nil:mB X sc [] []
 | own{x:Str}{N:List Str}{c:List (Option Nat)}:sc.names.lookup x=some .local->mB X sc N c->mB X sc (x::N) (none::c)
 | got{x:Str}{i:Nat}{N:List Str}{c:List (Option Nat)}:X.N[i]? = some x->sc.names.lookup x=some .free ->(X.env.kindOf x=some .cell\/X.env.kindOf x=some .free)->mB X sc N c->mB X sc (x::N) (some i::c)
def ml(c:List (Option Nat))(σ:St):St:=c.map fun o=>o.bind fun(i:Nat)=>(σ[i]?).join
variable{X:Cx}{sc:Scope}{N:List Str}
theorem mB.len{c:List (Option Nat)}{σ:St}(h:mB X sc N c):(ml c σ).length=N.length:=by
 unfold ml;rw[QR]
 induction h with
 | nil=>rfl
 | own _ _ ih=>simp[ih]
 | got _ _ _ _ ih=>simp[ih]
theorem mB.at{X:Cx}{sc:Scope}{N:List Str}{c:List (Option Nat)}{σ:St}(h:mB X sc N c):∀{j:Nat}{x:Str}{v:V},N[j]? = some x ->(ml c σ)[j]? = some (some v) ->
  ∃ i:Nat,X.N[i]? = some x/\σ[i]? = some (some v)/\sc.names.lookup x=some .free/\(X.env.kindOf x=some .cell\/X.env.kindOf x=some .free):=by
 induction h with
 | nil=>intro j x v h1;simp at h1
 | own _ _ ih =>
  intro j x v h1 h2;cases j with
  | zero=>simp[ml]at h2
  | succ j=>exact ih (by simpa using h1) (by simpa [ml]using h2)
 | @got y i N c g1 g2 g3 _ ih =>
  intro j x v h1 h2;cases j with
  | zero =>
   have e:y=x:=by simpa using h1
   subst e;refine⟨i,g1,?_,g2,g3⟩;have h2':(σ[i]?).join=some v:=by simpa [ml]using h2
   cases q:σ[i]? with
   | none=>rw[q]at h2';cases h2'
   | some o =>
    rw[q]at h2'
    have:o=some v:=h2'
    rw[this]
  | succ j=>exact ih (by simpa using h1) (by simpa [ml]using h2)
def blk(X:Cx)(N':List Str)(sc:Scope)(cl:List (Str×Addr))(C:Addr)(s₂:Shared)(H₂:Hp)(fp:List Addr):Cx :=
 { X with N:=N',s₀:=s₂,H₀:=H₂,env:=compEnvC sc cl C X.env,outer:=X.stack,ex:=fp,fn:=fun _=>false,pn:=[],xe:=fun _ _=>False }
def PTs(X:Cx)(ifs:List Expr)(t:TT):Prop :=
 ∀(j0:List (Addr×Obj))(s:Shared)(σ:St)(H:Hp)(Q:Bool->Hp->Prop),Inv X j0 σ H s->t σ H Q ->
  wpAny (model X.prog X.w) X.A (forIn ifs true fun c r=>if r=true then do let ok <- isTrue c X.env (eval c X.env);pure (ForInStep.yield ok)else pure (ForInStep.yield r)) (TP X j0 σ Q) X.xe s
def yH:TT:=fun _ H Q=>Q true H
theorem yZ:PTs X [] yH:=fun _ _ _ H _ I h=>wpAny_tests_nil ⟨H,I,h⟩
theorem yY{c:Expr}{t:TT}(h:PT X c t):PTs X [c] t:=fun j0 s σ H Q I q=>wpAny_tests_one (h j0 s σ H Q I q)
def JM(g:TG)(tst:TT)(te:TE)(σ0:St)(Q:VK)(J:It)(H1:Hp):Prop :=
 ∃ W:Nat->Nat->List V->St->Hp->Prop,(∃ m,W 0 m [] σ0 H1)/\∀ i m ys σ' H',W i m ys σ' H' ->
  (J.stop i H'/\ys.length<=QD/\∀ D,H' D=none->Q (.ref D) (upd H' D (.lst ys))) \/
  (J.go i H'/\ys.length<QD/\∃ N:List V->St->Hp->Prop,(∀ ys2 σ2 H2,N ys2 σ2 H2->∃ m',m'<m/\W (i+1) m' ys2 σ2 H2)/\∀ x H2,J.yld i H' x H2->g x σ' H2 fun σ2 H3=>tst σ2 H3 fun b H4 =>
   if b=true then te σ2 H4 fun y H5=>N (ys ++ [y]) σ2 H5 else N ys σ2 H4)
def rA(cap:List (Option Nat))(wi:TI)(g:TG)(tst:TT)(te:TE):TE:=fun σ H Q=>wi σ H (JM g tst te (ml cap σ) Q)
variable{prog:Program}{A:Around}{R:Result->Shared->Prop}{elt:Expr}{iter:Expr}{ifs:List Expr}{pos:Pos}
theorem Bc{w:World}{s:Shared}{target:Expr}{it acc:Value}(I:Nat->Shared->Prop)
  (turn:∀ n s,I n s->wpAny (model prog w) A (pyNext it) (fun r s₁=>match r with
   | none=>R (.ok .next) s₁
   | some v=>wpAny (model prog w) A (letOwnedTupleGo target it v) (fun _ s₁'=>wpAny (model prog w) A (assign target env v) (fun _ s₂ =>
     wpAny (model prog w) A (forIn ifs true fun c r=>if r=true then do let ok <- isTrue c env (eval c env);pure (ForInStep.yield ok)else pure (ForInStep.yield r)) (fun ok s₃ =>
      if ok=true then wpAny (model prog w) A (eval elt env) (fun x s₄ =>
       wpAny (model prog w) A (call (.builtin "list.append") [acc,x]) (fun _ s₅=>∃ m,m<n/\I m s₅) (fun _ _=>False) s₄) (fun _ _=>False) s₃
      else ∃ m,m<n/\I m s₃) (fun _ _=>False) s₂) (fun _ _=>False) s₁') (fun _ _=>False) s₁) (fun _ _=>False) s)
  (n:Nat) (h:I n s) :
  codeAny (model prog w) A (.compLoop (.ListComp elt [⟨target,iter,ifs,0⟩] scope pos) 0 it acc env) R s:=by
 refine codeAny_loop rfl I (fun n s hI=>?_) n h
 show wpAny _ A ((compTurn (.ListComp elt [⟨target,iter,ifs,0⟩] scope pos) 0 it acc env).onRaise (fun x=>do noteFrame x env;theTreesLotGoes x)) _ _ s
 refine wpAny_noted ?_;rw[compTurn_list];refine j2 (wpAny_standAt (j2 (RD (turn n s hI) (fun r s₁ h₁=>?_) fun _ _ h'=>h'.elim)))
 cases r with
 | none=>exact Lb h₁
 | some v =>
  refine j2 (RD h₁ (fun _ s₁' h₁'=>?_) fun _ _ h'=>h'.elim)
  refine j2 (RD h₁' (fun _ s₂ h₂=>j2 (RD h₂ (fun ok s₃ h₃=>?_) fun _ _ h'=>h'.elim)) fun _ _ h'=>h'.elim)
  cases ok with
  | false=>exact Lb ⟨rfl,h₃⟩
  | true =>
   exact j2 (j2 (RD h₃ (fun x s₄ h₄=>j2 (RD h₄ (fun _ s₅ h₅=>Lb (Lb ⟨rfl,h₅⟩)) fun _ _ h'=>h'.elim)) fun _ _ h'=>h'.elim))
variable{j0:List (Addr×Obj)}{H:Hp}{tg:Expr}{p:Pos}{N':List Str}{cap:List (Option Nat)}{tst:TT}{te:TE}
theorem vO{σ:St}{s:Shared}{Q:VK}{wi:TI}{g:TG}{use:Option (Value->Sem Unit)}{Q':Value->Shared->Prop}
  (hc:X.calm=true) (hi:PI X tg iter wi) (iB:sc.kind = .function) (gu:∀ y∈sc.names,y.2 ≠ .cell) (jb:∀ y∈sc.names,y.2 = .local->sc.names.lookup y.1=some .local)
  (jl:∀ y∈sc.names,y.2 = .free->X.env.kindOf y.1=some .cell\/X.env.kindOf y.1=some .free) (qV:mB X sc N' cap)
  (hb:∀ cl C s₂ H₂ fp,PG (blk X N' sc cl C s₂ H₂ fp) tg g/\PTs (blk X N' sc cl C s₂ H₂ fp) ifs tst/\PE (blk X N' sc cl C s₂ H₂ fp) elt te)
  (I:Inv X j0 σ H s) (h:rA cap wi g tst te σ H Q)
  (fin:∀ D C m H' s',Inv X j0 σ H' s'->v7 X j0 H' C->s'.heap.Ns C m->Q (.ref D) H'->compPost (model X.prog X.w) X.A X.xe use Q' (.ref D) C (.ok .next) s')
  (hs:∀ x,foldedSetIterable iter X.env x=pure x) :
  wpAny (model X.prog X.w) X.A (comprehension (.ListComp elt [⟨tg,iter,ifs,0⟩] sc pos) sc X.env p (newList []) false (eval iter X.env) use) Q' X.xe s:=by
 obtain⟨cl,Ny,vI,Nz⟩:=yd (scope:=sc) (env:=X.env) fun q hq e=>I.ok.has q.1 (jl q hq e)
 refine wpAny_comprehension_free rfl hs Ny iB jb (thn (hi j0 s σ H _ I h) fun v s1 h1=>thn h1 fun itv s2 h2=>?_)
 obtain⟨it,fp,tn,J,H2,e,I2,T,st2,f2,W,⟨m0,w0⟩,turn⟩:=h2;subst e;refine Ro (wpAny_newFunctionEnv gu (by intro y hy;simp at hy) (fun h₁ HG DS=>?_) iB)
 dsimp only at HG DS ⊢
 generalize hHP:s2.heap.push { cls:=.type "list",dict:=none,data:=.seq ([]:List Value).toArray }=HP at HG DS ⊢
 have hC:HP.objs.size=s2.heap.objs.size+1:=by rw[<- hHP,Rb]
 obtain⟨D,hDn⟩:∃ D:Nat,s2.heap.objs.size=D:=⟨_,rfl⟩
 obtain⟨C,hCn⟩:∃ C:Nat,HP.objs.size=C:=⟨_,rfl⟩
 rw[hDn]at hC;rw[hCn]at hC HG DS ⊢;rw[hDn];have hDC:@Ne Addr D C:=l7 (by omega)
 have old:∀ b o,s2.heap.get? b=some o->h₁.get? b=some o:=fun b o e =>
  DS.extBut b o (l7 (by have:=pK e;omega)) (j3 _ (hHP▸j3 _ e))
 have k8:h₁.get? D=some { cls:=.type "list",data:=.seq ([]:List Value).toArray 0 } :=
  DS.extBut _ _ hDC (j3 _ (by rw[<- hHP,<- hDn];exact QV _ rfl))
 have okB:(blk X N' sc cl C s2 H2 fp).Ok:=by
  refine⟨I.ok.mod,iB,I.ok.glob,I.ok.blt,(by show s2.heap.objs.size<=C;omega),fun x y c h1 h2=>I.ok.inj x y c (vI x c h1) (vI y c h2),fun x hx=>?_,fun x c hx=>(nomatch hx),I.ok.hd,I.ok.frames,.inl rfl,fun b hb=>?_,
   fun b o e=>I2.bs b o e,Ra I2.ok.bsz I2.sz,fun b o e hb=>?_,fun b hb=>?_,I2.stack,I2.yM⟩
  ·have hx':sc.names.lookup x=some .free:=by
    rcases hx with hx|hx
    ·rcases gX hx with z|z
     ·exact absurd rfl (gu _ (PySem.mem_of_lookup z))
     ·exact z.1
    ·rcases gX hx with z|z
     ·exact z
     ·exact z.1
   exact Nz x (PySem.mem_of_lookup hx')
  ·obtain⟨o,ho,_⟩:=T.obj _ _ st2 b hb;refine⟨?_,fun x c e=>(f2 b hb).2.2.2.2.1 x c (vI x c e)⟩
   show @Ne Addr b C
   have:=pK ho
   exact l7 (by omega)
  ·obtain⟨_,_,_,z,_⟩:=f2 b hb;rcases z with z|z
   ·exact I2.ok.Dt b o e z
   ·have:=pK (show X.base.get? b=some o from e)
    have:=I2.ok.bsz
    omega
  ·intro hb';rcases QH.mp (I2.sg b hb')with z|z
   ·exact(f2 b hb).2.1 z
   ·exact(f2 b hb).2.2.1 z
 have nD:H2 D=none:=I2.hok.fresh (by rw[hDn];exact QX _)
 have hb0:=hb cl C s2 H2 fp
 generalize hXB:blk X N' sc cl C s2 H2 fp=XB at okB hb0
 have eP:XB.prog=X.prog:=by rw[<- hXB];rfl
 have eW:XB.w=X.w:=by rw[<- hXB];rfl
 have eK:XB.K=X.K:=by rw[<- hXB];rfl
 have eA:XB.A=X.A:=by rw[<- hXB];rfl
 have eE:XB.env=compEnvC sc cl C X.env:=by rw[<- hXB];rfl
 have eX:XB.xe=fun _ _=>False:=by rw[<- hXB];rfl
 have eFs:XB.fs=frs X.stack:=by rw[<- hXB];rfl
 have eEx:XB.ex=fp:=by rw[<- hXB];rfl
 have eS:XB.s₀=s2:=by rw[<- hXB];rfl
 have eH:XB.H₀=H2:=by rw[<- hXB];rfl
 have ePn:XB.pn = []:=by rw[<- hXB];rfl
 have eCa:XB.calm=true:=by rw[<- hXB];exact hc
 have eN:XB.N=N':=by rw[<- hXB];rfl
 have eL:XB.env.locals=C:=by rw[eE];rfl
 have eCl:XB.env.cells=cl:=by rw[eE];rfl
 have Qo:∀(x:Str)(c:Nat),cl.lookup x=some c->c<D:=fun x c e=>by
  obtain⟨v,z⟩:=I2.cell x c (vI x c e)
  have:=zH z
  omega
 have nfs:∀(b:Nat),D<=b->b ∉ XB.fs:=fun b hb z=>by
  rw[eFs]at z;obtain⟨_,o,ho,_⟩:=I2.stack.mem z
  have:=pK ho
  omega
 have fpD:∀(b:Nat),b∈fp->b<D:=fun b hb=>by
  obtain⟨o,ho,_⟩:=T.obj _ _ st2 b hb
  have:=pK ho
  omega
 have loop:∀ s3:Shared,s3 ={ s2 with heap:=h₁,toks:=s2.toks+([]:List (Str×Value)).length } ->
   codeAny (model X.prog X.w) X.A (.compLoop (.ListComp elt [⟨tg,iter,ifs,0⟩] sc pos) 0 (.ref it) (.ref D) (compEnvC sc cl C X.env)) (compPost (model X.prog X.w) X.A X.xe use Q' (.ref D) C) s3:=by
  rintro s3 rfl
  refine Bc (fun n s'=>∃ i ys σ' H' its k,Inv XB [] σ' H' s'/\tn i s'.heap/\(∀ b∈fp,H' b=none)/\H' D=none/\s'.heap.get? D=some { cls:=.type "list",data:=.seq (its:List Value).toArray k }/\Vals ys its/\W i n ys σ' H') ?_ m0
   ⟨0,[],ml cap σ,H2,[],0,?_,T.keep _ _ _ st2 fun b hb o e=>old b o e,fun b hb=>(f2 b hb).1,nD,k8,.nil,w0⟩
  ·rintro n s4 ⟨i,ys,σ4,H4,its,k,I4,st4,fr4,d4,o4,v4,w4⟩
   have fpk:∀{H':Hp}{pl:List (Addr×Obj)},(∀ b∈fp,H' b=none) ->(∀ q∈pl,q.1 ∉ fp)->∀ b∈fp,v7 XB pl H' b:=fun{H' pl} hn hpl b hb=>by
    refine⟨hn b hb,?_,?_,.inl (by rw[eEx];exact hb),fun x c e=>?_,fun q hq=>?_⟩
    ·rw[eL];have:=fpD b hb;exact l7 (by omega)
    ·rw[eFs];intro z;rcases QH.mp (I2.sg b z)with z|z
     ·exact(f2 b hb).2.1 z
     ·exact(f2 b hb).2.2.1 z
    ·rw[eCl]at e;exact(f2 b hb).2.2.2.2.1 x c (vI x c e)
    ·rw[ePn]at hq;intro z;exact hpl q (by simpa using hq) (z▸hb)
   have pD:∀ q ∈ [(D,({ cls:=.type "list",data:=.seq its.toArray k }:Obj))],q.1 ∉ fp:=fun q hq=>by
    have e:q=_:=Es.mp hq;subst e;intro z
    have:=fpD _ z
    omega
   have I4':Inv XB [(D,{ cls:=.type "list",data:=.seq its.toArray k })] σ4 H4 s4:=I4.lZ fun q hq=>by
    have e:q=_:=Es.mp hq;subst e;refine⟨o4,d4,?_,nfs _ (QX _),fun v=>by simp⟩
    rw[eL];exact hDC
   have QQ:=I4';rw[<- eA,<- eP,<- eW];rcases turn i n ys σ4 H4 w4 with⟨stop,hz,qn⟩ |⟨go,hz,N,hN,step⟩
   ·rw[<- eP,<- eW,<- eK]at T;refine RD (T.done XB rfl rfl rfl eCa i _ s4 σ4 H4 (fun _ _=>False) I4' (fpk fr4 pD) st4 stop) (fun r s5 ⟨hr,I5⟩=>?_) fun _ _ z=>z
    subst hr;rw[eP,eW,eA];obtain⟨o5,n5,_⟩:=I5.pin (D,{ cls:=.type "list",data:=.seq its.toArray k }) (PJ _ (Es.mpr rfl));have u5:Un (frs X.stack) fp H2 H4 s2.heap s5.heap:=by
     have z:=I5.base;rw[eFs,eEx,eH,eS]at z;exact z
    have lt2:∀ b o,s2.heap.get? b=some o -> @Ne Addr b D:=fun b o e=>l7 (by have:=pK e;omega)
    have ne5:∀ b u,H4 b=some u->b≠D:=fun b u e z=>by rw[z,d4]at e;cases e
    have hk5:HOk X.prog X.w H4 s5.heap:=by
     have z:=I5.hok;rw[eP,eW]at z;exact z
    have Qh:=fin D C;obtain⟨mC,hNs,_⟩:=id I5.loc;rw[eL]at hNs;have IX:Inv X j0 σ (upd H4 D (.lst ys)) s5:=by
     refine I2.NV (s':=s5) (ch:=fp) ?_ ⟨u5.keep,u5.slot,fun b o e n hx=>?_,u5.there,fun b xs e=>?_,fun b o u e=>?_,fun b ps e=>?_⟩ ?_ I5.bare fun b hb=>⟨(f2 b hb).2.2.2.1,(f2 b hb).2.1,(f2 b hb).2.2.2.2.1,(f2 b hb).2.2.2.2.2⟩
     ·have z:=I5.os;rw[eS]at z;exact z
     ·rw[ah (lt2 b o e)];exact u5.free b o e n hx
     ·have z:=u5.oJ b xs e;rw[ah (ne5 b _ z)];exact z
     ·have z:=u5.mY b o u e;rw[ah (ne5 b _ z)];exact z
     ·obtain⟨more,z⟩:=u5.oK b ps e;exact⟨more,by rw[ah (ne5 b _ z)];exact z⟩
     ·intro a o e;by_cases ha:a=D
      ·subst ha;rw[ar]at e;cases e;exact⟨hz,its,k,v4,o5⟩
      ·rw[ah ha]at e;exact(hk5 a o e).cL (fun _ _ _ q=>q) (fun b q=>by rw[ah (ne5 b _ q)];exact q) fun b xs q=>by rw[ah (ne5 b _ q)];exact q
    refine Qh mC _ s5 IX ?_ hNs (qn D d4);have hCN:H4 C=none:=by
     have z:=I5.free;rw[eL]at z;exact z
    refine⟨by rw[ah (Ne.symm hDC)];exact hCN,?_,?_,.inr ?_,fun x c e=>?_,fun q hq=>?_⟩
    ·have:@LT.lt Nat _ X.env.locals s2.heap.objs.size:=I2.lt
     exact Nj (by omega)
    ·exact I2.Ni (by rw[hDn];omega)
    ·have:=I2.sz;omega
    ·obtain⟨v,z⟩:=I2.cell x c e
     have:=zH z
     exact l7 (by omega)
    ·have:=pK (I2.pin q hq).1
     exact l7 (by omega)
   ·have T':=T;rw[<- eP,<- eW,<- eK]at T';refine RD (T'.item XB rfl rfl rfl eCa i _ s4 σ4 H4 (fun _ _=>False) I4' (fpk fr4 pD) st4 go) (fun r s5 ⟨u,hr,h5⟩=>?_) fun _ _ z=>z
    subst hr;refine thn h5 fun _ s6 hPP=>?_
    obtain⟨x,H6,I6,r6,y6,st6,fr6⟩:=hPP;have I6':=I6.pinned (fpk fr6 pD) (T.obj _ _ st6);obtain⟨hg0,ht0,he0⟩:=hb0;rw[<- eE];have hgo:=hg0 _ s6 σ4 H6 x u _ I6' r6 (step x H6 y6);rw[eX]at hgo;refine thn hgo fun _ s7 hPP=>?_
    obtain⟨σ7,H7,I7,q7⟩:=hPP;have hto:=ht0 _ s7 σ7 H7 _ I7 q7;rw[eX]at hto;refine thn hto fun b s8 hPP=>?_
    obtain⟨H8,I8,q8⟩:=hPP;have back:∀{σ9:St}{H9:Hp}{s9:Shared},Inv XB ([(D,{ cls:=.type "list",data:=.seq its.toArray k })]++pj fp s6.heap) σ9 H9 s9->tn (i+1) s9.heap/\(∀ b∈fp,H9 b=none)/\H9 D=none/\s9.heap.get? D=some { cls:=.type "list",data:=.seq its.toArray k }:=fun{σ9 H9 s9} I9=>by
     have z:=I9.pin (D,{ cls:=.type "list",data:=.seq its.toArray k }) (PJ _ (QP _ (Es.mpr rfl)));refine⟨T.keep _ _ _ st6 fun b hb o e=>(I9.pin (b,o) (PJ _ (PJ _ (gk hb e)))).1,fun b hb=>?_,z.2.1,z.1⟩
     obtain⟨o,e,_⟩:=T.obj _ _ st6 b hb;exact(I9.pin (b,o) (PJ _ (PJ _ (gk hb e)))).2.1
    cases b with
    | false =>
     rw[if_neg QF]at q8 ⊢;obtain⟨m',hm,w8⟩:=hN _ _ _ q8;obtain⟨t1,t2,t3,t4⟩:=back I8;exact⟨m',hm,i+1,ys,σ7,H8,its,k,I8.lZ (fun q hq=>nomatch hq),t1,t2,t3,t4,v4,w8⟩
    | true =>
     rw[if_pos rfl]at q8 ⊢;have heo:=he0 _ s8 σ7 H8 _ I8 q8;rw[eX]at heo;refine thn heo fun yv s9 hPP=>?_
     obtain⟨y,H9,I9,r9,n9⟩:=hPP;obtain⟨m',hm,w9⟩:=hN _ _ _ n9;obtain⟨t1,t2,t3,t4⟩:=back I9;have hsz:its.toArray.size<=QD:=by
      have e:=v4.length;have e2:its.toArray.size=its.length:=by simp
      omega
     refine append_at (hsz:=hsz) t4 fun h' hs' hD'=>?_
     ·refine⟨m',hm,i+1,ys ++ [y],σ7,H9,its ++ [yv],k+1,?_,T.keep _ _ _ t1 fun b hb o e=>hs'.extBut b o (l7 (fpD b hb)) e,t2,t3,?_,v4.append (.cons r9 .nil),w9⟩
      ·refine(I9.lZ (pins':=[]) (fun q hq=>nomatch hq)).turned (t':=s9.toks) (it:=D) (fun b o hb e=>hs'.extBut b o hb e) t3 ?_ (.inr ?_) (fun x c e=>?_) fun q hq=>?_
       ·rw[eL];exact hDC
       ·rw[eS];omega
       ·rw[eCl]at e;exact l7 (Qo x c e)
       ·rw[ePn]at hq;exact nomatch hq
      ·rw[hD'];simp
  ·
   refine⟨okB,by rw[eS],I2.bare,by rw[eFs,eEx,eH,eS];exact Un.kept old,⟨_,by rw[eL];exact HG,fun j x v h1 h2 h3=>?_⟩,fun x c e=>?_,?_,fun x c e=>?_,fun q hq=>?_,by rw[eP,eW];exact I2.hok.kept old,by rw[eN];exact qV.len⟩
   ·rw[eN]at h1;obtain⟨i,g1,g2,g3,g4⟩:=qV.at h1 h2;obtain⟨m,hn,hl⟩:=I2.loc;have hv:Vis X.env.scope x:=by
     rcases g4 with z|z
     ·exact .inr (.inl z)
     ·exact .inr (.inr z)
    obtain⟨u,r,l⟩:=hl i x v g1 g2 hv;refine⟨u,r,.inr ⟨?_,?_⟩⟩
    ·rw[eE];exact(lQ g3).symm
    ·rcases l with⟨hk,_⟩ |⟨_,c,e,z⟩
     ·rcases g4 with y|y
      ·rw[y]at hk;cases hk
      ·rw[y]at hk;cases hk
     ·obtain⟨c',e'⟩:=Nz x (PySem.mem_of_lookup g3)
      have:=vI x c' e'
      rw[e]at this;cases this;obtain⟨o,ho,hd⟩:=z;exact⟨c,by rw[eCl];exact e',o,old c o ho,hd⟩
   ·rw[eCl]at e;obtain⟨v,o,ho,hd⟩:=I2.cell x c (vI x c e);exact⟨v,o,old c o ho,hd⟩
   ·rw[eL];exact I2.hok.fresh (by rw[hDn];omega)
   ·rw[eCl]at e;exact I2.gx x c (vI x c e)
   ·rw[ePn]at hq;exact nomatch hq
 exact codeAny_compStart_list (loop _ rfl) (T.self X.A 0 _ _ _ (T.keep _ _ _ st2 fun b hb o e=>old b o e) (loop _ rfl))
theorem zu(h:(sc.names.all fun y=>y.2 != .free ||(X.env.kindOf y.1==some .cell||X.env.kindOf y.1==some .free))=true) :
  ∀ y∈sc.names,y.2 = .free->X.env.kindOf y.1=some .cell\/X.env.kindOf y.1=some .free:=fun y hy e=>by
 have z:=RG.mp h y hy;rw[e]at z;simpa using z
theorem zb{pos:Pos}{wi:TI}{g:TG}
  (hc:X.calm=true) (hi:PI X tg iter wi) (qV:mB X sc N' cap)
  (hb:∀ cl C s₂ H₂ fp,PG (blk X N' sc cl C s₂ H₂ fp) tg g/\PTs (blk X N' sc cl C s₂ H₂ fp) ifs tst/\PE (blk X N' sc cl C s₂ H₂ fp) elt te)
  (iB:sc.kind = .function:=by rfl) (gu:∀ y∈sc.names,y.2 ≠ .cell:=by decide) (jb:∀ y∈sc.names,y.2 = .local->sc.names.lookup y.1=some .local:=by decide)
  (jl:(sc.names.all fun y=>y.2 != .free ||(X.env.kindOf y.1==some .cell||X.env.kindOf y.1==some .free))=true:=by rfl)
  (hs:∀ x,foldedSetIterable iter X.env x=pure x:=by intro _;rfl):PE X (.ListComp elt [⟨tg,iter,ifs,0⟩] sc pos) (rA cap wi g tst te):=by
 intro j0 s σ H Q I h;rw[eval_ListComp];refine vO (use:=none) hc hi iB gu jb (zu jl) qV hb I h (fun D C m H' s' I' f' hn q=>?_) hs
 refine⟨m,hn,fun h' hs'=>⟨.ref D,H',?_,rfl,q⟩⟩
 exact I'.turned (t':=s'.toks) (it:=C) (fun b o hb e=>hs'.extBut b o hb e) f'.1 f'.2.1.symm.symm f'.2.2.2.1 f'.2.2.2.2.1 f'.2.2.2.2.2
variable{dq:Pos}
theorem y3{i:Nat}{y:Str}{py:Pos}{wi:TI}{g:TG}
  (hN:X.N.Nodup) (hi':X.N[i]? = some y) (hy:Loc X.env.scope y)
  (hc:X.calm=true) (hi:PI X tg iter wi) (qV:mB X sc N' cap)
  (hb:∀ cl C s₂ H₂ fp,PG (blk X N' sc cl C s₂ H₂ fp) tg g/\PTs (blk X N' sc cl C s₂ H₂ fp) ifs tst/\PE (blk X N' sc cl C s₂ H₂ fp) elt te)
  (hsw:swapsWith (.ListComp elt [⟨tg,iter,ifs,0⟩] sc pos) (some (.Name y py)) dq.line X.env=pure true:=by rfl)
  (hf:X.fn y=true\/X.env.scope.names.lookup y=some .local:=by first|exact .inl rfl|exact .inr rfl|assumption)
  (iB:sc.kind = .function:=by rfl) (gu:∀ y∈sc.names,y.2 ≠ .cell:=by decide) (jb:∀ y∈sc.names,y.2 = .local->sc.names.lookup y.1=some .local:=by decide)
  (jl:(sc.names.all fun y=>y.2 != .free ||(X.env.kindOf y.1==some .cell||X.env.kindOf y.1==some .free))=true:=by rfl)
  (hs:∀ x,foldedSetIterable iter X.env x=pure x:=by intro _;rfl):PS X (.Assign [.Name y py] (.ListComp elt [⟨tg,iter,ifs,0⟩] sc pos) dq) (ku (rA cap wi g tst te) (gw i)):=by
 intro j0 s σ H Dn I h;rw[exec_Assign_Name_used _ _ _ _ hsw];refine j2 (wpAny_standAt (j2 ?_));show wpAny _ X.A (do let _ <- comprehension (.ListComp elt [⟨tg,iter,ifs,0⟩] sc pos) sc X.env _ (newList []) false (eval iter X.env) (some (assign (.Name y py) X.env))) _ _ s
 refine j2 (RD (vO (use:=some (assign (.Name y py) X.env)) (Q:=fun x H1=>Dn.nx (σ.set i (some x)) H1) (Q':=fun _ s'=>SP X j0 Dn .next s') hc hi iB gu jb (zu jl) qV hb I h (fun D C m H' s' I' f' hn q=>?_) hs)
  (fun _ s' hq=>Lb (Lb hq)) fun _ _ e=>e)
 obtain⟨o,es,ep,ho,hd,hr⟩:=id hn;have I2:=I'.pinned (fp:=[C]) (fun b hb=>by rw[Es.mp hb];exact f') fun b hb=>by
  rw[Es.mp hb];exact⟨o,ho,fun v=>by rw[hd];simp⟩
 refine wpAny_assign_Name (lF I2 hN hi' hy (v:=.ref D) rfl (fun s2 I3=>?_) hf)
 have z:=(I3.pin (C,o) (PJ _ (PJ _ (gk (Es.mpr rfl) ho)))).1;refine⟨m,⟨o,es,ep,z,hd,hr⟩,fun h' hs'=>⟨_,H',?_,q⟩⟩
 exact I3.lD.turned (t':=s2.toks) (it:=C) (fun b o hb e=>hs'.extBut b o hb e) f'.1 f'.2.1 f'.2.2.2.1 f'.2.2.2.2.1 f'.2.2.2.2.2
variable{a:Addr}{xs:List V}
section
theorem rR{K:W.Frag}{g:TG}{σ:St}{Q:VK}(Pv:Nat->List V->St->Hp->Prop)(h0:Pv 0 [] σ H)
  (hl:∀ i ys σ H,i<=xs.length->Pv i ys σ H->SqL K H a xs/\ys.length<QD)
  (hs:∀ i x ys σ H,xs[i]? = some x->Pv i ys σ H->g x σ H fun σ2 H3=>tst σ2 H3 fun b H4=>if b=true then te σ2 H4 fun y H5=>Pv (i+1) (ys ++ [y]) σ2 H5 else Pv (i+1) ys σ2 H4)
  (hd:∀ ys σ H,Pv xs.length ys σ H->∀ D,H D=none->Q (.ref D) (upd H D (.lst ys))) :
  JM g tst te σ Q (Itl K a) H:=by
 refine⟨fun i m ys σ H=>m=xs.length - i/\i<=xs.length/\Pv i ys σ H,⟨xs.length,by simp,RE _,h0⟩,?_⟩
 rintro i m ys σ H ⟨rfl,hi,p⟩
 obtain⟨q,hz⟩:=hl i ys σ H hi p;by_cases hlt:i<xs.length
 ·refine .inr ⟨⟨xs,xs[i],q,by simp[hlt]⟩,hz,Pv (i+1),fun ys' σ' H' p'=>⟨xs.length - (i+1),by omega,rfl,hlt,p'⟩,fun x H' y=>?_⟩
  obtain⟨e,y⟩:=y;subst e;exact hs i x ys σ _ (y xs q) p
 ·have e:i=xs.length:=by omega
  subst e;exact .inl ⟨⟨xs,q,QX _⟩,RB hz,hd ys σ H p⟩
def Mj:V->Option Int->Option Int->Hp->VK->Prop:=fun x lo hi H Q=>∃ z,x = .str z/\z.length<=QD/\Q (.str (Txt.slice z lo hi)) H
theorem JV:SlR X Mj:=by
 intro j0 s σ H x v vl vu lo hi sl Q I rx hs pl pu h;obtain⟨z,rfl,hz,q⟩:=h;obtain⟨t,rfl⟩:=rx;refine⟨"str",_,PySem.F.slot_str_getitem.lookup,typeIs_str s z t,?_⟩;obtain⟨o,h1,h2,h3⟩:=hs;have fin:∀(y:Str)(t' k:Nat),y=Txt.slice z lo hi->EP X j0 σ Q (.str y t') { s with toks:=k }:=fun y t' k e=>by subst e;exact⟨.str _,H,I.tok k,⟨_,rfl⟩,q⟩
 cases pl with
 | none =>
  cases pu with
  | none=>exact wpAny_getItem_str_slice (l:=none) (u:=none) (st:=none) ⟨o,h1,h2,h3⟩ rfl (post_val_or_str ⟨Ra (Txt.slice_le z _ _) hz,fun t' k=>fin _ t' k rfl⟩)
  | int j uj=>exact wpAny_getItem_str_slice (l:=none) (u:=some (j,uj)) (st:=none) ⟨o,h1,h2,h3⟩ rfl (post_val_or_str ⟨Ra (Txt.slice_le z _ _) hz,fun t' k=>fin _ t' k rfl⟩)
 | int i ui =>
  cases pu with
  | none=>exact wpAny_getItem_str_slice (l:=some (i,ui)) (u:=none) (st:=none) ⟨o,h1,h2,h3⟩ rfl (post_val_or_str ⟨Ra (Txt.slice_le z _ _) hz,fun t' k=>fin _ t' k rfl⟩)
  | int j uj=>exact wpAny_getItem_str_slice (l:=some (i,ui)) (u:=some (j,uj)) (st:=none) ⟨o,h1,h2,h3⟩ rfl (post_val_or_str ⟨Ra (Txt.slice_le z _ _) hz,fun t' k=>fin _ t' k rfl⟩)
theorem wG{ys:List Str}:∀{us:List Value},Vals (ys.map V.str) us->StrsAre us ys:=by
 induction ys with
 | nil=>intro us r;rw[SX]at r;cases r;exact .nil
 | cons n ns ih =>
  intro us r;rw[Rt]at r;cases r with
  | cons r1 r2 =>
   obtain⟨t,e⟩:=r1;subst e;exact .cons n t (ih r2)
def rJoin(K:W.Frag):V->List V->Hp->VK->Prop:=fun x xs H Q=>∃ sep l ys,x = .str sep/\xs = [.ref l]/\SqL K H l (ys.map V.str)/\(ys.map (·.length)).sum+ys.length*sep.length<=16777216/\Q (.str (Txt.join sep ys)) H
theorem Hn:MtR X "str.join" (rJoin X.K):=by
 intro j0 s σ H x xs v us Q I rx rs h;obtain⟨sep,l,ys,rfl,rfl,hl,hw,q⟩:=h;obtain⟨t,rfl⟩:=rx;obtain⟨u,rfl,ru⟩:=Vals.one rs;cases ru;obtain⟨its,r,pl,hz⟩:=I.list hl;exact join_list pl.isList (by simpa using wG r) hw fun t' k=>⟨.str _,H,I.tok k,⟨_,rfl⟩,q⟩
end
variable{I:Addr}{fp:List Addr}{wr:List Addr}{n:Nat}
section
variable{w:World}{E:Value->Shared->Prop}{s:Shared}
theorem AH:typeLookup (.type "list_reverseiterator") "__len__" = pure none:=by rw[typeLookup_type,builtinLookup_eq_fast];kernel_rfl
theorem DW:typeLookup (.type "list_reverseiterator") "__length_hint__" = pure (some (.builtin "list_reverseiterator.__length_hint__")):=by rw[typeLookup_type,builtinLookup_eq_fast];kernel_rfl
theorem x8{R:Result->Shared->Prop}{P:Nat->Value->Prop}{St:Nat->Heap->Prop}(W:Walks prog w A.in1 I fp wr n P St)(hT:∀ i (s:Shared),St i s.heap->s.TypeIs (.ref I) "list_reverseiterator")(S:Addr)(res:Value)(c₀:Nat)(hst:St 0 s.heap)(hSf:S ∉ fp)(hI:I∈fp)
  (hS:s.heap.get? S=some { cls:=.type "list",data:=.seq #[] c₀ })
  (hR:∀ s' dn c',Moved (S::wr) (fun g g'=>g'=g) s s'->s'.heap.get? S=some { cls:=.type "list",dict:=none,data:=.seq dn c',slots:=#[] }->ItemsOf P dn n->R (.ok (.ret res)) s') (hn:n<=QD) :
  wpAny (model prog w) A.in1 (Builtin.List.listExtendWith (.ref S) (.ref I) res)
   (fun fin s'=>match fin with | .done f=>R (.ok f) s' | .again c'=>c'.quiet=true/\codeAny (model prog w) A c' R s') (fun e s'=>R (.error e) s') s:=by
 have hSI:S≠I:=fun e=>hSf (e▸hI)
 have h1:Builtin.List.listSameRef (.ref S) (.ref I)=false:=by simp[Builtin.List.listSameRef,hSI]
 unfold Builtin.List.listExtendWith;refine j2 (RY (hT 0 _ hst) ?_);rw[if_neg (by rw[h1];decide)]
 refine j2 (W.self 0 _ _ _ hst ?_);refine j2 (Rn ?_);unfold Builtin.List.listLengthHint;refine j2 (RM (hT 0 _ hst) AH ?_);show wpAny _ A.in1 (specialOf (Value.ref I) (Str.ofString "__length_hint__") >>= _) _ _ _;refine j2 (RM (hT 0 _ hst) DW ?_)
 generalize hid:("list_reverseiterator.__length_hint__":String)=id0
 wp_delta
 rw[show splitId id0=some ("list_reverseiterator","__length_hint__")from by subst hid;decide +kernel]
 subst hid;refine j2 (R7 (b:=true) (hT 0 _ hst) (by rw[RQ];kernel_rfl) ?_)
 refine Lb ?_;rw[if_neg (by decide)]
 exact Lb ⟨R4 F.plain_extend_loop _,codeAny_extend_loopS W.toS hn _ hSf _ n 0 _ _ _ rfl (RE _) hst hS (ItemsOf.nil P) fun s' dn c' hm hS' k8=>hR s' dn c' hm hS' k8⟩
theorem DO{R:Result->Shared->Prop}{P:Nat->Value->Prop}{St:Nat->Heap->Prop}(W:Walks prog w A.in1 I fp wr n P St)(hT:∀ i (s:Shared),St i s.heap->s.TypeIs (.ref I) "list_reverseiterator")(S:Addr)(hst:St 0 s.heap)(hSf:S ∉ fp)(hI:I∈fp)
  (hS:s.heap.get? S=some { cls:=.type "list",data:=.seq #[] })
  (hR:∀ s' dn c',Moved (S::wr) (fun g g'=>g'=g) s s'->s'.heap.get? S=some { cls:=.type "list",dict:=none,data:=.seq dn c',slots:=#[] }->ItemsOf P dn n->R (.ok (.ret .none)) s') (hn:n<=QD) :
  wpAny (model prog w) A.in1 (Builtin.«list.__init__» ⟨[.ref S,.ref I],[]⟩)
   (fun fin s'=>match fin with | .done f=>R (.ok f) s' | .again c'=>c'.quiet=true/\codeAny (model prog w) A c' R s') (fun e s'=>R (.error e) s') s:=by
 show wpAny _ A.in1 (do let old <- Builtin.List.listItems (.ref S);Builtin.List.listUpdate (.ref S) (fun _=>#[]);letGo old.toList.reverse;Builtin.List.listExtendWith (.ref S) (.ref I) .none) _ _ s
 refine j2 ?_;unfold Builtin.List.listItems;refine j2 (wpAny_seqItems hS rfl (Lb ?_));show wpAny _ A.in1 (updateSeq S (fun _=>#[]) >>= fun _=>letGo (#[]:Array Value).toList.reverse >>= fun _=>Builtin.List.listExtendWith (.ref S) (.ref I) .none) _ _ s
 refine j2 (RR hS rfl ?_);have hS₂:=Rv (R0 (fun _=>(#[]:Array Value))) hS rfl
 have oth:∀ b o,b≠S->s.heap.get? b=some o ->(s.heap.update S (R0 (fun _=>(#[]:Array Value)))).get? b=some o :=
  fun b o hb e=>(Rc _ _ (Ne.symm hb)).trans e
 refine j2 (wpAny_letGo ?_);refine x8 (hn:=hn) W hT S .none _ (W.frame 0 s.heap _ hst fun b hb o e=>oth b o (fun h=>hSf (h▸hb)) e) hSf hI hS₂ fun s' dn c' hm hS' k8=>?_
 exact hR s' dn c' (Moved.trans (fun _ _ _ h1 h2=>h2.trans h1) ((Moved.refl (wr:=S::wr) (G:=fun g g'=>g'=g) (fun _=>rfl)).then_heap (QX _) fun b o hb e=>oth b o (fun h=>hb (by rw[h];exact qr)) e) hm) hS' k8
theorem q9{Q:Value->Shared->Prop}{P:Nat->Value->Prop}{St:Nat->Heap->Prop}(W:Walks prog w A.in1.in1 I fp wr n P St)(hT:∀ i (s:Shared),St i s.heap->s.TypeIs (.ref I) "list_reverseiterator")(hst:St 0 s.heap)(hfp:∀ b∈fp,b<s.heap.objs.size)(hI:I∈fp)
  (hQ:∀ s' dn c',Moved (s.heap.objs.size::wr) (fun g g'=>g'=g) { s with heap:=s.heap.push { cls:=.type "list",data:=.seq #[] } } s' ->
   s'.heap.get? s.heap.objs.size=some { cls:=.type "list",dict:=none,data:=.seq dn c',slots:=#[] }->ItemsOf P dn n->Q (.ref s.heap.objs.size) s') (hn:n<=QD) :
  wpAny (model prog w) A (call (.type "list") [.ref I]) Q E s:=by
 have hSf:s.heap.objs.size ∉ fp:=fun hm=>RZ _ (hfp _ hm)
 refine callType_codes (Q₁:=fun obj s₁=>obj = .ref s.heap.objs.size/\s₁ ={ s with heap:=s.heap.push { cls:=.type "list",data:=.seq #[] } }) F.called_list (F.typeCall_list_1 _) F.entry_list_init
  (code_list_new _ ⟨rfl,rfl⟩) fun obj s₁ h₁=>?_
 obtain⟨rfl,rfl⟩:=h₁;have hS:(s.heap.push { cls:=.type "list",data:=.seq #[] }).get? s.heap.objs.size=some { cls:=.type "list",data:=.seq #[] }:=QV _ rfl;refine⟨⟨_,hS,rfl⟩,F.args_list_init_2 _ _,DO (hn:=hn) W hT _ (W.frame 0 s.heap _ hst fun b _ o e=>j3 _ e) hSf hI hS fun s' dn c' hm hS' k8=>?_⟩
 exact⟨rfl,hQ s' dn c' hm hS' k8⟩
end
def oM(K:W.Frag)(te:TE):TE:=fun σ H Q=>te σ H fun x H1=>∃ l ys,x = .ref l/\SqL K H1 l ys/\∀ q,H1 q=none->Q (.ref q) (upd H1 q (.lst ys.reverse))
theorem uN{its:Array Value}{acc:Array Value}{ys:List V}(r:Vals ys its.toList)(h:ItemsOf (fun i v=>its[its.size - 1 - i]? = some v) acc its.size):Vals ys.reverse acc.toList:=by
 have e:acc.toList=its.toList.reverse:=by
  apply List.ext_getElem?
  intro i;by_cases hi:i<its.size
  ·have h1:i<acc.size:=by rw[h.1];exact hi
   have h2:=h.2 i acc[i] (by simp[h1])
   rw[List.getElem?_reverse (by simpa using hi)]
   simp only[Si,S5];rw[h2];simp[h1]
  ·have h1:¬ i<acc.size:=by rw[h.1];exact hi
   rw[Sx (by simpa using h1),Sx (by simpa using hi)]
 rw[e];exact Vals.reverse r
variable{e:Expr}
theorem pw{p1 p2 bP pos:Pos}(hc:X.calm=true)(hg1:Gl X "list")(hm1:X.mg "list" = none)(hg2:Gl X "reversed")(hm2:X.mg "reversed" = none)(he:PE X e te)
  (hs1:L9 [e] X.env = [(false,eval e X.env)]:=by rfl) (hs2:L9 [.Call (.Name "reversed" p2) [e] [] bP] X.env = [(false,eval (.Call (.Name "reversed" p2) [e] [] bP) X.env)]:=by rfl) :
  PE X (.Call (.Name "list" p1) [.Call (.Name "reversed" p2) [e] [] bP] [] pos) (oM X.K te):=by
 intro j0 s σ H Q I h;refine Rr (gp I hg1 hm1 boot_list ?_);refine PyProof.Rows.callWith_type1 ?_ hs2 rfl;rw[hs2];show wpAny _ _ (spliced ((false,eval (.Call (.Name "reversed" p2) [e] [] bP) X.env)::backTo pos (L9 [] X.env))) _ _ s;refine Calls.spliced_cons ?_;refine Rr (gp I hg2 hm2 boot_reversed ?_);refine PyProof.Rows.callWith_type1 ?_ hs1 rfl;rw[hs1];show wpAny _ _ (spliced ((false,eval e X.env)::backTo bP (L9 [] X.env))) _ _ s;refine Calls.spliced_cons (thn (he j0 s σ H _ I h) fun u s1 hPP=>?_)
 obtain⟨x,H1,I1,r1,l,ys,ex,hl,q⟩:=hPP;subst ex;cases r1;refine Calls.spliced_nil ?_;obtain⟨its,rv,pl,hz⟩:=I1.list hl;have hlt:l<s1.heap.objs.size:=by obtain⟨_,e,_⟩:=pl.isList;exact QW e
 refine call_reversed_list pl.isList (Calls.spliced_nil ?_);have W:=Walks.listRev (prog:=X.prog) (w:=X.w) (A:=X.A.in1.in1) (show X.A.in1.in1.handled=none from I.ok.hd hc) s1.heap.objs.size l (Rg hlt) its.toArray;refine q9 (s:={ s1 with heap:=s1.heap.push (revObj l ((its.toArray.size:Int) - 1)) }) W (fun i s' st=>st.2.1.typeIs) ⟨RE _,⟨_,QV _ rfl,rfl,by simp[revObj]⟩,pl.isList.push _⟩ (fun b hb=>?_) (by simp) (fun s' dn c' hm hS' k8=>?_) ?_
 ·show b<(s1.heap.push _).objs.size;rw[Rb];rcases QH.mp hb with z|z
  ·rw[z];exact R5 _
  ·rw[Es.mp z];exact Sb hlt
 ·rw[Moved.eq_with hm];have kp:∀ b o,s1.heap.get? b=some o->s'.heap.get? b=some o:=fun b o e=>hm.heap b o (fun z=>by
   have hb:@LT.lt Nat _ b s1.heap.objs.size:=QW e;rcases QH.mp z with z|z
   ·rw[z]at hb;simp only[Rb]at hb;omega
   ·rw[Es.mp z]at hb;omega) (j3 _ (j3 _ e))
  have hv:Vals ys.reverse dn.toList:=uN (its:=its.toArray) (by simpa using rv) k8
  have hf:H1 ((s1.heap.push (revObj l ((its.toArray.size:Int) - 1))).objs.size)=none:=I1.hok.fresh (by rw[Rb];omega)
  refine⟨.ref _,_,I1.laid (t':=s'.toks) (h':=s'.heap) (o:=.lst ys.reverse) kp (by rw[Rb];omega) ⟨by rw[S9];exact hz,dn.toList,c',hv,by simpa using hS'⟩,rfl,q _ hf⟩
 ·have e:=rv.length;rw[P2];omega
variable{x:Str}
section
theorem C8{y:Int}(hg:Gl X x)(hm:∃ t,X.mg x=some (.int y t))(hd:(x ==("__debug__":Str))=false:=by decide):PE X (.Name x pos) (tC (.int y)):=by
 obtain⟨t,e⟩:=hm;exact GU hg e ⟨t,rfl⟩ hd
def EU(_ j:Int):Prop:=0<j/\j<18446744073709551616
theorem vp:OpR X (binaryOp .FloorDiv) (rI EU fun i j=>.int (i / j)):=opI fun i j _ _ _ _ _ hc q=>by
 obtain⟨h1,h2⟩:=hc;have e:i.fdiv j=i / j:=Int.fdiv_eq_ediv_of_nonneg _ (by omega)
 refine floordiv_int (by omega) (by rw[e];exact q) (.inl (PyProof.noPylong_of_log2 ?_))
 have h3:j.natAbs<2 ^ 64:=by omega
 have h4:j.natAbs≠0:=by omega
 exact Nat.lt_trans ((Nat.log2_lt h4).mpr h3) (by decide)
end
def dk(s n:Int)(l:Addr):List (Key×V):=[(.inr "seed",.int s),(.inr "number",.int n),(.inr "left",.ref l)]
variable{l:Addr}
theorem HS{s n:Int}:fQ (dk s n l) (.inr "seed":Key)=some (.int s):=by kernel_rfl
theorem A2{s n:Int}:fQ (dk s n l) (.inr "number":Key)=some (.int n):=by kernel_rfl
theorem zy{s n:Int}:fQ (dk s n l) (.inr "left":Key)=some (.ref l):=by kernel_rfl
variable{m:Int}
theorem xg{s n:Int}:putK (dk s n l) (.inr "number":Key) (.int m)=dk s m l:=by kernel_rfl
theorem CT{s n:Int}:putK (dk s n l) (.inr "seed":Key) (.int m)=dk m n l:=by kernel_rfl
structure ck(H:Hp)(d l:Addr)(s n:Int)(ls:List Int):Prop where
 hd:H d=some (.dK (dk s n l))
 hl:H l=some (.lst (ls.map V.int))
 s0:0<=s
 s1:s<2147483647
 n0:0<=n
 l0:∀ x∈ls,0<=x
def mz(H:Hp)(d l:Addr):Prop:=∃ s n ls,ck H d l s n ls
def Kp(d l:Addr)(H H':Hp):Prop:=∀ b o,H b=some o->b≠d->b≠l->H' b=some o
variable{d:Addr}
theorem Kp.refl:Kp d l H H:=fun _ _ h _ _=>h
variable{ls:List Int}
theorem ck.ne{s n:Int}(D:ck H d l s n ls):d≠l:=jL D.hd D.hl (by intro z;cases z)
theorem ck.num{s n:Int}(D:ck H d l s n ls)(h:0<=m):ck (upd H d (.dK (putK (dk s n l) (.inr "number":Key) (.int m)))) d l s m ls :=
 ⟨by rw[ar,xg],by rw[ah D.ne.symm];exact D.hl,D.s0,D.s1,h,D.l0⟩
theorem ck.Pd{s n:Int}(D:ck H d l s n ls)(h:0<=m)(h2:m<2147483647):ck (upd H d (.dK (putK (dk s n l) (.inr "seed":Key) (.int m)))) d l m n ls :=
 ⟨by rw[ar,CT],by rw[ah D.ne.symm];exact D.hl,h,h2,D.n0,D.l0⟩
theorem ck.list{s n:Int}{ls':List Int}(D:ck H d l s n ls)(h:∀ x∈ls',0<=x):ck (upd H l (.lst (ls'.map V.int))) d l s n ls' :=
 ⟨by rw[ah D.ne];exact D.hd,ar,D.s0,D.s1,D.n0,h⟩
variable{H1:Hp}
theorem Kp.JN{o:HO}(a:Kp d l H H1):Kp d l H (upd H1 d o):=fun c u h h1 h2=>by rw[ah h1];exact a c u h h1 h2
theorem Kp.O8{o:HO}(a:Kp d l H H1):Kp d l H (upd H1 l o):=fun c u h h1 h2=>by rw[ah h2];exact a c u h h1 h2
theorem lA.new{p:Addr}{o:HO}(a:lA H H1)(hp:H1 p=none):lA H (upd H1 p o):=fun c u h=>by
 have z:=a c u h;rw[ah (aH z hp)];exact z
theorem mz.new{p:Addr}{o:HO}(D:mz H d l)(hp:H p=none):mz (upd H p o) d l:=by
 obtain⟨s,n,ls,D⟩:=D;exact⟨s,n,ls,by rw[ah (aH D.hd hp)];exact D.hd,by rw[ah (aH D.hl hp)];exact D.hl,D.s0,D.s1,D.n0,D.l0⟩
def B5:Sp:=fun vs H Q _=>∃(d l:Addr)(m:Int),vs = [.ref d,.int m]/\mz H d l/\0<m/\m<18446744073709551616 /\
 ∀(r:Int)(H':Hp),0<=r->r<m->mz H' d l->Kp d l H H'->Q (.int r) H'
def JT(K:W.Frag):Sp:=fun vs H Q _=>∃(a:Addr)(ns:List Int)(b:Int),vs = [.ref a,.int b]/\SqL K H a (ns.map V.int)/\ns.length<=63/\0<=b/\b<=63 /\
 ∀(d l:Addr)(H':Hp),H d=none->H l=none->mz H' d l->lA H H'->Q (.ref d) H'
variable{D:Ends}
theorem zW{c:TT}{tb:TS}{σ:St}(I:Nat->St->Hp->Prop){m:Nat}(h0:I m σ H)(vG:∀ m σ H,I m σ H->D.nx σ H)
  (hs:∀ m σ H,I m σ H->D.nx σ H->c σ H fun b H1=>if b=true then ∃ N:St->Hp->Prop,(∀ σ' H',N σ' H'->∃ m',m'<m/\I m' σ' H')/\tb { D with nx:=N,ct:=N,bk:=D.nx } σ H1 else D.nx σ H1):se c tb D σ H :=
 ⟨I,⟨m,h0⟩,fun m σ H h=>hs m σ H h (vG m σ H h)⟩
theorem ck.DZ{s n:Int}(D:ck H d l s n ls):qz H d (.str "seed") (some (.int s)):=by
 have z:=qz.k (k:=(Sum.inr "seed":Key)) D.hd;rw[HS]at z;exact z
theorem ck.NC{s n:Int}(D:ck H d l s n ls):qz H d (.str "number") (some (.int n)):=by
 have z:=qz.k (k:=(Sum.inr "number":Key)) D.hd;rw[A2]at z;exact z
theorem ck.Js{s n:Int}(D:ck H d l s n ls):qz H d (.str "left") (some (.ref l)):=by
 have z:=qz.k (k:=(Sum.inr "left":Key)) D.hd;rw[zy]at z;exact z
theorem ck.MX{s n:Int}(D:ck H d l s n ls):uC H d (.str "number") (.int m) (upd H d (.dK (putK (dk s n l) (.inr "number":Key) (.int m)))) :=
 uC.k (k:=(Sum.inr "number":Key)) D.hd (de (by show 3<=1000;decide))
theorem ck.MS{s n:Int}(D:ck H d l s n ls):uC H d (.str "seed") (.int m) (upd H d (.dK (putK (dk s n l) (.inr "seed":Key) (.int m)))) :=
 uC.k (k:=(Sum.inr "seed":Key)) D.hd (de (by show 3<=1000;decide))
theorem mod_lt{x:Int}(h:0<m):0<=x % m/\x % m<m:=⟨Int.emod_nonneg _ (by omega),Int.emod_lt_of_pos _ h⟩
end L2
namespace L2
theorem Em(ns:List Int)(lo hi:Option Int):∃ cs:List Int,kA (ns.map V.int) lo hi=cs.map V.int/\cs.length<=ns.length:=by
 refine⟨(ns.drop (HT.sIx ns.length 0 lo)).take (HT.sIx ns.length ns.length hi - HT.sIx ns.length 0 lo),?_,?_⟩
 ·unfold kA;rw[QR,<- Tb,<- Tc]
 ·rw[RP,Sz];exact Ra (Se _ _) (Td _ _)
theorem int_at{ns:List Int}{i:Nat}{x:V}(h:(ns.map V.int)[i]? = some x):∃ z,x = .int z:=by
 rw[Q0]at h;cases e:ns[i]? with
 | none=>rw[e]at h;cases h
 | some z=>rw[e]at h;exact⟨z,(Option.some.inj h).symm⟩
theorem HA{ns:List Int}{i:Nat}{x:V}(h:(ns.map V.int)[i]? = some x):∃ z,x = .int z/\z∈ns:=by
 rw[Q0]at h;cases e:ns[i]? with
 | none=>rw[e]at h;cases h
 | some z=>rw[e]at h;exact⟨z,(Option.some.inj h).symm,RK e⟩
end L2
namespace L2
open PySem
theorem EA{α:Type}{xs:List α}{i:Int}(h0:0<=i)(h1:i<xs.length):∃ v,atI xs i=some v/\v∈xs:=by
 obtain⟨n,rfl⟩:∃ n:Nat,i=n:=⟨i.toNat,by omega⟩
 have h2:n<xs.length:=by omega
 refine⟨xs[n],?_,Ru h2⟩;unfold atI ixN;rw[if_pos h0,if_pos h1];simp[h2]
variable{n:Nat}
theorem cM(h:n<=10000):n<=QD:=by
 have:(10000:Nat)<=QD:=by decide
 omega
end L2
namespace L2
end L2
namespace L2
open PySem PySem.Spec PyProof.Rows
def strsOf:List Expr->Option (List Str)
 | []=>some []
 | .Constant (.str x) _ _::r=>(strsOf r).map (x :: ·)
 | _=>none
theorem zd{X:Cx}:∀{es:List Expr}{ws:List Str},strsOf es=some ws->PA X es (fun _ H Q=>Q (ws.map V.str) H)
 | [],ws,h=>by
  cases h;exact h8
 | e::es,ws,h=>by
  unfold strsOf at h
  split at h
  ·rename_i h1;cases h1
  ·rename_i x j pos r h1;cases h1;cases e1:strsOf es with
   | none=>rw[e1]at h;cases h
   | some ws' =>
    rw[e1]at h;cases h;exact cC c5 (zd e1)
  ·cases h
end L2
namespace L2
variable{H:Hp}
theorem HL{i:Nat}{x:V}{σ:St}{A B:St->Hp->Prop}(h:A (σ.set i (some x)) H):gw i x σ H fun σ2 H3=>yH σ2 H3 fun b H4=>if b=true then A σ2 H4 else B σ2 H4:=by
 show if true=true then A (σ.set i (some x)) H else B (σ.set i (some x)) H
 rw[if_pos rfl];exact h
end L2
namespace L2
end L2
namespace L2
open PySem PySem.Spec PyProof.Rows
section
variable{X:Cx}
def jB(z:Str)(n:Nat):Str:=⟨(Ri n z.cps).foldl (· ++ ·) #[]⟩
theorem u0(c:Array Nat):∀(n:Nat)(acc:Array Nat),((Ri n c).foldl (· ++ ·) acc).size=acc.size+n*c.size
 | 0,acc=>by simp
 | n+1,acc=>by
  rw[List.replicate_succ,List.foldl_cons,u0 c n,Tr,Nat.add_mul];omega
theorem iz(z:Str)(n:Nat):(jB z n).length=n*z.length:=by
 have h:=u0 z.cps n #[];simpa [jB,Str.length]using h
theorem xr:OpR X (binaryOp .Mult) (fun x y H Q=>∃ z n,x = .str z/\y = .int n/\0<=n/\n<=1000/\z.length<=1000/\Q (.str (jB z n.toNat)) H):=by
 intro j0 s σ H x y v u Q I rx ry h;obtain⟨z,n,rfl,rfl,n0,n1,hz,q⟩:=h;obtain⟨t,rfl⟩:=rx;obtain⟨t',rfl⟩:=ry;have fin:∀(y:Str)(t' k:Nat),y=jB z n.toNat->EP X j0 σ Q (.str y t') { s with toks:=k }:=fun y t' k e=>by subst e;exact⟨.str _,H,I.tok k,⟨_,rfl⟩,q⟩
 have hp:((z.length:Int)*n)<=1000000:=by
  have h1:(z.length:Int)*n<=1000*n:=SA (by omega) n0
  omega
 refine P.mul_str ?_ (fun h1 _=>?_) (fun h1 _=>?_) ?_
 ·rw[decide_eq_false (by omega),decide_eq_false (by omega)];rfl
 ·have h2:(1000:Int) <=(2 ^ 63 - 1) / n:=by
   rw[Int.le_ediv_iff_mul_le (by omega)]
   omega
  omega
 ·unfold Builtin.Str.tooLong;have h2:z.length*n.toNat<=1000000:=by
   have e:((z.length*n.toNat:Nat):Int) =(z.length:Int)*n:=by rw[S3,Sj n0]
   omega
  have:QD=16777216:=Sv
  exact decide_eq_false (by omega)
 ·by_cases h1:n<1
  ·rw[if_pos h1];have e:n.toNat=0:=by omega
   exact⟨by decide,fin _ _ _ (by rw[e];rfl)⟩
  ·rw[if_neg h1];by_cases h2:(n==1||z.length==0)=true
   ·rw[if_pos h2];refine fin z t s.toks ?_;have h3:n=1\/z.length=0:=by simpa using h2
    rcases h3 with h3|h3
    ·subst h3;show z =⟨#[]++z.cps⟩;simp
    ·have e1:z.cps = #[]:=by simpa [Str.length]using h3
     have e2:=iz z n.toNat;rw[h3]at e2;have e3:(jB z n.toNat).cps = #[]:=by simpa [Str.length]using e2
     exact Str.ext' (by rw[e1,e3])
   ·rw[if_neg h2];refine⟨?_,fin _ _ _ rfl⟩;have e:=iz z n.toNat;have h3:n.toNat*z.length<=1000000:=by
     have e:((n.toNat*z.length:Nat):Int) =(z.length:Int)*n:=by rw[S3,Sj n0,Int.mul_comm]
     omega
    have:QD=16777216:=Sv
    show(jB z n.toNat).length<=QD;omega
end
end L2
namespace L2
open PySem
def nW(n:Nat):Nat:=97+n % 26
def cf(c1 c2:Str)(turn k:Nat):Str:=c1++⟨#[nW (turn+7*k)]⟩++c2++jB "x" (k % 2)++jB "y" (k / 26)
theorem p9(c1 c2:Str)(turn k:Nat):(cf c1 c2 turn k).cps.toList=c1.cps.toList++nW (turn+7*k) ::(c2.cps.toList++(jB "x" (k % 2)).cps.toList++(jB "y" (k / 26)).cps.toList):=by
 simp[cf,Str.cps_append]
theorem kq(c1 c2:Str)(turn k:Nat):(cf c1 c2 turn k).length=c1.length+1+c2.length+k % 2+k / 26:=by
 unfold cf;rw[Str.length_append,Str.length_append,Str.length_append,Str.length_append,iz,iz,show(⟨#[nW (turn+7*k)]⟩:Str).length=1 from rfl,show(Str.ofString "x").length=1 from by decide +kernel,show(Str.ofString "y").length=1 from by decide +kernel]
 omega
theorem NY{a:List Nat}{x y:Nat}{b c:List Nat}(h:a++x::b=a++y::c):x=y:=by
 have:=R6 h
 exact(List.cons.inj this).1
variable{turn:Nat}{j:Nat}
theorem AO{k:Nat}(hk:k<52)(hj:j<52)(h:nW (turn+7*k)=nW (turn+7*j)):k % 26=j % 26:=by
 unfold nW at h;omega
theorem yS:(jB "y" 1).cps.toList = [121]:=by decide +kernel
theorem uZ(z:Str):(jB z 0).cps.toList = []:=by simp[jB]
variable{c1:Str}{c2:Str}
theorem rZ{k:Nat}(hk:k<52)(hj:j<52)(hne:k≠j){e f:Str}(he:e=Str.empty\/e = "q")(hf:f=Str.empty\/f = "q"):cf c1 c2 turn k++e≠cf c1 c2 turn j++f:=by
 intro h;have hc:(cf c1 c2 turn k).cps.toList++e.cps.toList =(cf c1 c2 turn j).cps.toList++f.cps.toList:=by
  have:=congrArg (fun z:Str=>z.cps.toList) h
  simpa [Str.cps_append]using this
 have hl:(cf c1 c2 turn k).length+e.length =(cf c1 c2 turn j).length+f.length:=by
  rw[<- Str.length_append,h,Str.length_append]
 rw[p9,p9]at hc;simp only[RT,List.cons_append]at hc;have hm:=AO hk hj (NY hc);have h1:k % 2=j % 2:=by rw[<- Te k (by decide:2∣26),hm,Te j (by decide:2∣26)]
 have hd:(k / 26=0/\j / 26=1)\/(k / 26=1/\j / 26=0):=by omega
 rw[kq,kq]at hl;have l0:Str.empty.length=0:=rfl;have lq:(Str.ofString "q").length=1:=by decide +kernel
 have tail:=(List.cons.inj (R6 hc)).2;rw[h1]at tail;have kD:=R6 (R6 tail);have eq:(Str.ofString "q").cps.toList = [113]:=by decide +kernel
 have ee:Str.empty.cps.toList = []:=rfl;rcases hd with⟨d1,d2⟩ |⟨d1,d2⟩
 ·rw[d1,d2,uZ,yS]at kD;rcases he with rfl|rfl
  ·rw[ee]at kD;simp at kD
  ·rw[eq]at kD
   have:=congrArg List.head? kD
   simp at this
 ·rw[d1,d2,uZ,yS]at kD;rcases hf with rfl|rfl
  ·rw[ee]at kD;simp at kD
  ·rw[eq]at kD
   have:=congrArg List.head? kD
   simp at this
theorem nodup_range{f:Nat->Str}{n:Nat}(h:∀ i j,i<n->j<n->i≠j->f i≠f j):((Rf n).map f).Nodup:=by
 rw[SN,List.pairwise_map];refine List.Pairwise.imp_of_mem ?_ (SN.mp List.nodup_range);intro i j hi hj hne;exact h i j (Sd.mp hi) (Sd.mp hj) hne
variable{ws:List Str}
theorem AI{i:Nat}{w:Str}(h:ws.Nodup)(hw:w ∉ ws):(ws.set i w).Nodup:=by
 induction ws generalizing i with
 | nil=>simp
 | cons a r ih =>
  obtain⟨h1,h2⟩:=Q5.mp h;have hw1:w≠a:=fun z=>hw (by simp[z])
  have hw2:w ∉ r:=fun z=>hw (j5 _ z)
  cases i with
  | zero=>exact Q5.mpr ⟨hw2,h2⟩
  | succ i =>
   refine Q5.mpr ⟨fun z=>?_,ih h2 hw2⟩
   rcases SQ z with z|z
   ·exact h1 z
   ·exact hw1 z.symm
end L2
namespace L2
open PySem
variable{ws:List Str}
theorem HB{w:Str}(h:inV (.str w) (ws.map V.str)=false):w ∉ ws:=fun hm=>by
 unfold inV at h;rw[Tj]at h;exact h (.str w) (RJ.mpr ⟨w,hm,rfl⟩) (show(w==w)=true from beq_self_eq_true w)
def wordOf(kept:List Str)(c1 c2:Str)(turn k:Nat):Str:=cf c1 c2 turn k++(if inV (.str (cf c1 c2 turn k)) (kept.map V.str)=true then("q":Str)else Str.empty)
variable{c1:Str}{c2:Str}{turn:Nat}{j:Nat}
theorem zV{kept:List Str}{k:Nat}(hk:k<52)(hj:j<52)(hne:k≠j):wordOf kept c1 c2 turn k≠wordOf kept c1 c2 turn j:=by
 unfold wordOf;refine rZ hk hj hne ?_ ?_
 ·split
  ·exact .inr rfl
  ·exact .inl rfl
 ·split
  ·exact .inr rfl
  ·exact .inl rfl
theorem wx{kept:List Str}{k:Nat}(h1:c1.length<=5)(h2:c2.length<=5)(hk:k<52):1 <=(wordOf kept c1 c2 turn k).length/\(wordOf kept c1 c2 turn k).length<=20:=by
 unfold wordOf;rw[Str.length_append,kq];have l0:Str.empty.length=0:=rfl;have lq:(Str.ofString "q").length=1:=by decide +kernel
 split <;> omega
end L2
namespace L2
open PySem PySem.Spec PyProof.Rows
variable{it:Addr}{items:Array Value}{Q:Value->Shared->Prop}{h':Heap}{tp:Bool}{l:Addr}{z:Addr}{i1:Addr}{i2:Addr}{l1:Addr}{l2:Addr}{t1:Bool}{t2:Bool}{k1:Nat}{k2:Nat}{ys:Array Value}
section
variable{prog:Program}{w:World}{A:Around}{E:Value->Shared->Prop}{s:Shared}
theorem qO{t:Addr}{i:Nat}{x:Value}(hit:s.heap.IsTupleIter it t i)(ht:s.heap.IsTuple t items)(hx:items[i]? = some x)
  (hQ:∀ h',h'.IsTupleIter it t (i+1)->R8 it s.heap h'->Q x { s with heap:=h' }):wpAny (model prog w) A (Builtin.SmallTypes.nextOf (.ref it)) Q E s:=by
 obtain⟨o,ho,hc,hd⟩:=id hit;obtain⟨ol,hol,_,nl,hdl⟩:=ht;unfold Builtin.SmallTypes.nextOf;refine j2 (wpAny_callSpecial?_slot (name:=Str.ofString "__next__") hit.typeIs F.slot_tuple_iterator_next
  (Rl F.slot_tuple_iterator_next hit.typeIs F.entry_tuple_iterator_next ?_ (F.args_tuple_iterator_next_1 _)))
 show wpAny _ _ (field (.ref it) 0 >>= _) _ _ s;refine j2 (wpAny_field ho hd (x:=.ref t) rfl ?_);show wpAny _ _ (if(Value.ref t==Value.none)=true then _ else _) _ _ s
 rw[if_neg (show ¬((Value.ref t==Value.none)=true)from QF)];show wpAny _ _ (field (.ref it) 1 >>= _) _ _ s;refine j2 (wpAny_field ho hd (x:=.int i 0) rfl ?_);show wpAny _ _ (seqItems? (.ref t) >>= _) _ _ s;refine j2 (wpAny_seqItems hol hdl ?_);simp only[SS,hx];refine j2 (wpAny_setField ho hd (by simp) (Lb ⟨x,rfl,Lb (hQ _ ?_ (Heap.SameBut.update ..))⟩))
 exact⟨_,Rv _ ho (Obj.isFreed_of_fields (Tf hd _)),(Obj.cls_mapFields ..).trans hc,by
  rw[Tf hd];simp[rawInt]⟩
theorem tL{t:Addr}{i:Nat}(hh:A.handled=none)(hit:s.heap.IsTupleIter it t i)(ht:s.heap.IsTuple t items)(hx:items[i]? = none)
  (hE:∀ h' e,TL it s.heap h' ->(∃ o,h'.get? e=some o/\o.cls = .type "StopIteration")->E (.ref e) { s with heap:=h' }):wpAny (model prog w) A (Builtin.SmallTypes.nextOf (.ref it)) Q E s:=by
 obtain⟨o,ho,hc,hd⟩:=id hit;obtain⟨ol,hol,_,nl,hdl⟩:=ht;unfold Builtin.SmallTypes.nextOf;refine j2 (wpAny_callSpecial?_slot (name:=Str.ofString "__next__") hit.typeIs F.slot_tuple_iterator_next
  (Rl F.slot_tuple_iterator_next hit.typeIs F.entry_tuple_iterator_next ?_ (F.args_tuple_iterator_next_1 _)))
 show wpAny _ _ (field (.ref it) 0 >>= _) _ _ s;refine j2 (wpAny_field ho hd (x:=.ref t) rfl ?_);show wpAny _ _ (if(Value.ref t==Value.none)=true then _ else _) _ _ s
 rw[if_neg (show ¬((Value.ref t==Value.none)=true)from QF)];show wpAny _ _ (field (.ref it) 1 >>= _) _ _ s;refine j2 (wpAny_field ho hd (x:=.int i 0) rfl ?_);show wpAny _ _ (seqItems? (.ref t) >>= _) _ _ s;refine j2 (wpAny_seqItems hol hdl ?_);simp only[SS,hx];refine j2 (R9 (j2 (wpAny_setField ho hd (by simp) ?_)))
 show wpAny _ _ (newExc (.type "StopIteration") [] >>= _) _ _ _;refine j2 ?_;simp only[newExc,newTuple];refine j2 (Ro ?_ (by size_fits))
 refine j2 (m:=firstArgMember _ _) (RX (a:=Value.none) (by first|rfl |(simp only[firstArgMember];rfl)) ?_)
 refine Ro ?_ (by size_fits)
 simp only[raiseNew];refine j2 (wpAny_handled ?_)
 first|rw[show A.in1.handled=none from hh]|rw[hh]
 refine j2 (Lb (wpAny_throw ?_));exact hE _ _ (((Heap.SameBut.update ..).extBut.push _).push _) ⟨_,QV _ rfl,rfl⟩
def aP(h:Heap)(tp:Bool)(it l:Addr)(k:Nat):Prop:=if tp=true then h.IsTupleIter it l k else h.IsListIter it l k
def aX(h:Heap)(tp:Bool)(l:Addr)(items:Array Value):Prop:=if tp=true then h.IsTuple l items else h.IsList l items
theorem aP.at{h:Heap}{k:Nat}(x:aP h tp it l k)(e:∀ o,h.get? it=some o->h'.get? it=some o):aP h' tp it l k:=by
 cases tp with
 | true=>obtain⟨o,ho,r⟩:=(show h.IsTupleIter it l k from x);exact(show h'.IsTupleIter it l k from⟨o,e o ho,r⟩)
 | false=>obtain⟨o,ho,r⟩:=(show h.IsListIter it l k from x);exact(show h'.IsListIter it l k from⟨o,e o ho,r⟩)
theorem aX.at{h:Heap}(x:aX h tp l items)(e:∀ o,h.get? l=some o->h'.get? l=some o):aX h' tp l items:=by
 cases tp with
 | true=>obtain⟨o,ho,r⟩:=(show h.IsTuple l items from x);exact(show h'.IsTuple l items from⟨o,e o ho,r⟩)
 | false=>obtain⟨o,ho,r⟩:=(show h.IsList l items from x);exact(show h'.IsList l items from⟨o,e o ho,r⟩)
theorem aP.obj{h:Heap}{k:Nat}(x:aP h tp it l k):∃ o,h.get? it=some o/\∀ v,o.data ≠ .cell v:=by
 cases tp with
 | true=>obtain⟨o,ho,_,hd⟩:=(show h.IsTupleIter it l k from x);exact⟨o,ho,fun v=>by rw[hd];simp⟩
 | false=>obtain⟨o,ho,_,hd⟩:=(show h.IsListIter it l k from x);exact⟨o,ho,fun v=>by rw[hd];simp⟩
theorem next_item{i:Nat}{x:Value}(hit:aP s.heap tp it l i)(hl:aX s.heap tp l items)(hx:items[i]? = some x)
  (hQ:∀ h',aP h' tp it l (i+1)->R8 it s.heap h'->Q x { s with heap:=h' }):wpAny (model prog w) A (Builtin.SmallTypes.nextOf (.ref it)) Q E s:=by
 cases tp with
 | true=>exact qO hit hl hx hQ
 | false=>exact wpAny_nextOf_list_item hit hl hx hQ
theorem next_end{i:Nat}(hh:A.handled=none)(hit:aP s.heap tp it l i)(hl:aX s.heap tp l items)(hx:items[i]? = none)
  (hE:∀ h' e,TL it s.heap h' ->(∃ o,h'.get? e=some o/\o.cls = .type "StopIteration")->E (.ref e) { s with heap:=h' }):wpAny (model prog w) A (Builtin.SmallTypes.nextOf (.ref it)) Q E s:=by
 cases tp with
 | true=>exact tL hh hit hl hx hE
 | false=>exact wpAny_nextOf_list_end hh hit hl hx hE
theorem BR{TI TO:Addr}{xs:Array Value}{x y a b:Value}{Q:Option Value->Shared->Prop}(D:ZipApart z TI TO i1 i2 l1 l2)
  (hz:IsZip s.heap z TI TO .none) (hTI:IsPair s.heap TI (.ref i1) (.ref i2)) (hTO:IsPair s.heap TO a b)
  (h1:aP s.heap t1 i1 l1 k1) (h2:aP s.heap t2 i2 l2 k2) (hl1:aX s.heap t1 l1 xs) (hl2:aX s.heap t2 l2 ys) (hx:xs[k1]? = some x) (hy:ys[k2]? = some y)
  (hQ:∀ h',IsZip h' z TI TO (rawInt s.heap.objs.size)->IsPair h' TO x y->aP h' t1 i1 l1 (k1+1)->aP h' t2 i2 l2 (k2+1)->IsPair h' s.heap.objs.size x y->h'.objs.size=s.heap.objs.size+1 ->
   (∀ c o,c≠z->c≠TO->c≠i1->c≠i2->s.heap.get? c=some o->h'.get? c=some o)->Q (some (.ref s.heap.objs.size)) { s with heap:=h' }) :
  wpAny (model prog w) A (pyNext (.ref z)) Q E s:=by
 have hT:s.TypeIs (.ref z) "zip":=⟨_,hz,rfl⟩;unfold pyNext;refine j2 (R3 (wpAny_callSpecial?_slot (name:=Str.ofString "__next__") hT F.slot_zip_next
  (Rl F.slot_zip_next hT F.entry_zip_next ?_ (F.args_zip_next_1 _))))
 show wpAny _ _ (field (.ref z) 2 >>= _) _ _ _;refine j2 (wpAny_field hz rfl (x:=.bool false) rfl ?_);show wpAny _ _ (field (.ref z) 3 >>= _) _ _ _;refine j2 (wpAny_field hz rfl (x:=.ref TI) rfl ?_);refine j2 (wpAny_seqItems hTI rfl ?_);show wpAny _ _ (Builtin.SmallTypes.ownedTupleIsFree (.ref z) >>= _) _ _ _;refine j2 ?_;unfold Builtin.SmallTypes.ownedTupleIsFree;refine j2 (wpAny_field hz rfl (x:=.none) rfl (Lb ?_));simp only[if_true];refine j2 (R9 ?_);refine j2 (wpAny_field hz rfl (x:=.ref TO) rfl ?_);refine j2 (wpAny_setField_rec hz (by simp) fun h₁ hz₁ hs₁=>?_)
 replace hz₁:IsZip h₁ z TI TO .ellipsis:=hz₁
 refine j2 ?_;simp only[Tz,List.zipIdx_nil,Sk,SO];refine j2 (j2 (wpAny_onRaise ?_));show wpAny _ _ (Builtin.SmallTypes.nextOf (.ref i1) >>= _) _ _ _;refine j2 (next_item (h1.at fun o e=>hs₁.extBut _ o D.i1z e) (hl1.at fun o e=>hs₁.extBut _ o D.l1z e) hx fun h₂ h1₂ hs₂=>Lb ?_)
 have DY:IsPair h₂ TO a b:=hs₂.extBut _ _ D.TOi1 (hs₁.extBut _ _ D.TOz hTO);refine j2 (wpAny_seqItems DY rfl ?_);refine j2 (wpAny_updateSeq_pair DY fun h₃ HJ hs₃=>?_)
 replace HJ:IsPair h₃ TO x b:=HJ
 refine j2 (wpAny_letGo (Lb ?_));refine j2 (j2 (wpAny_onRaise ?_));show wpAny _ _ (Builtin.SmallTypes.nextOf (.ref i2) >>= _) _ _ _;refine j2 (next_item (h2.at fun o e=>hs₃.extBut _ o D.TOi2.symm (hs₂.extBut _ o D.i12.symm (hs₁.extBut _ o D.i2z e)))
  (hl2.at fun o e=>hs₃.extBut _ o D.l2TO (hs₂.extBut _ o D.l2i1 (hs₁.extBut _ o D.l2z e))) hy fun h₄ h2₄ hs₄=>Lb ?_)
 have NB:IsPair h₄ TO x b:=hs₄.extBut _ _ D.TOi2 HJ;refine j2 (wpAny_seqItems NB rfl ?_);refine j2 (wpAny_updateSeq_pair NB fun h₅ HI hs₅=>?_)
 replace HI:IsPair h₅ TO x y:=HI
 refine j2 (wpAny_letGo (Lb (Lb ?_)));refine j2 (wpAny_seqItems HI rfl ?_);refine j2 (wpAny_newTuple ?_);have hsz:h₅.objs.size=s.heap.objs.size:=by rw[hs₅.1,hs₄.1,hs₃.1,hs₂.1,hs₁.1]
 have hz₅:IsZip h₅ z TI TO .ellipsis:=hs₅.extBut _ _ D.TOz.symm (hs₄.extBut _ _ D.i2z.symm (hs₃.extBut _ _ D.TOz.symm (hs₂.extBut _ _ D.i1z.symm hz₁)));have hk₅:∀ c o,c≠z->c≠TO->c≠i1->c≠i2->s.heap.get? c=some o->h₅.get? c=some o:=fun c o c1 c2 c3 c4 e =>
  hs₅.extBut _ _ c2 (hs₄.extBut _ _ c4 (hs₃.extBut _ _ c2 (hs₂.extBut _ _ c3 (hs₁.extBut _ _ c1 e))))
 have h1₅:aP h₅ t1 i1 l1 (k1+1):=h1₂.at fun o e=>hs₅.extBut _ o D.TOi1.symm (hs₄.extBut _ o D.i12 (hs₃.extBut _ o D.TOi1.symm e))
 have h2₅:aP h₅ t2 i2 l2 (k2+1):=h2₄.at fun o e=>hs₅.extBut _ o D.TOi2.symm e
 have Nv:z<h₅.objs.size:=QW hz₅;show wpAny _ _ (Builtin.SmallTypes.ownedTupleHandOut (.ref z) (.ref h₅.objs.size) >>= _) _ _ _;refine j2 ?_;unfold Builtin.SmallTypes.ownedTupleHandOut;have hz₆:IsZip (h₅.push { cls:=.type "tuple",data:=.seq #[x,y] }) z TI TO .ellipsis:=j3 _ hz₅;refine j2 (wpAny_setField_rec hz₆ (by simp) fun h₇ hz₇ hs₇=>?_)
 replace hz₇:IsZip h₇ z TI TO (rawInt h₅.objs.size):=hz₇
 refine wpAny_setField_rec hz₇ (by simp) fun h₈ hz₈ hs₈=>?_
 replace hz₈:IsZip h₈ z TI TO (rawInt h₅.objs.size):=hz₈
 have up:∀ c o,c≠z->h₅.get? c=some o->h₈.get? c=some o:=fun c o c1 e=>hs₈.extBut _ _ c1 (hs₇.extBut _ _ c1 (j3 _ e))
 have hT₈:IsPair h₈ h₅.objs.size x y:=hs₈.extBut _ _ (RI Nv) (hs₇.extBut _ _ (RI Nv) (QV _ rfl));have hz8:h₈.objs.size=h₅.objs.size+1:=by rw[hs₈.1,hs₇.1,Rb]
 rw[hsz]at hz₈ hT₈ hz8;refine Lb ⟨_,rfl,Lb ?_⟩;show Q (some (.ref h₅.objs.size)) _;rw[hsz];exact hQ h₈ hz₈ (up _ _ D.TOz HI) (h1₅.at fun o e=>up _ o D.i1z e) (h2₅.at fun o e=>up _ o D.i2z e) hT₈ hz8 fun c o c1 c2 c3 c4 e=>up c o c1 (hk₅ c o c1 c2 c3 c4 e)
theorem FD{TI TO:Addr}{xs:Array Value}{a b:Value}{Q:Option Value->Shared->Prop}(hh:A.handled=none)(D:ZipApart z TI TO i1 i2 l1 l2)
  (hz:IsZip s.heap z TI TO .none) (hTI:IsPair s.heap TI (.ref i1) (.ref i2)) (hTO:IsPair s.heap TO a b)
  (h1:aP s.heap t1 i1 l1 k1) (h2:aP s.heap t2 i2 l2 k2) (hl1:aX s.heap t1 l1 xs) (hl2:aX s.heap t2 l2 ys) (vG:xs[k1]? = none\/ys[k2]? = none)
  (hQ:∀ h',(∀ c o,c≠z->c≠TO->c≠i1->c≠i2->s.heap.get? c=some o->h'.get? c=some o)->Q none { s with heap:=h' }):wpAny (model prog w) A (pyNext (.ref z)) Q E s:=by
 have hT:s.TypeIs (.ref z) "zip":=⟨_,hz,rfl⟩;have fin:∀ h' e,(∀ c o,c≠z->c≠TO->c≠i1->c≠i2->s.heap.get? c=some o->h'.get? c=some o) ->(∃ o,h'.get? e=some o/\o.cls = .type "StopIteration") ->
   wpAny (model prog w) A (do if <- isInstance (.ref e) (.type "StopIteration")then pure none else throw (.ref e)) Q E { s with heap:=h' }:=fun h' e hk he=>by
  obtain⟨o,ho,hc⟩:=he;refine j2 (R7 (T:="StopIteration") (b:=true) ⟨o,ho,hc⟩ isSubtype_stop ?_);exact Lb (hQ _ hk)
 unfold pyNext;refine j2 (R3 (wpAny_callSpecial?_slot (name:=Str.ofString "__next__") hT F.slot_zip_next
  (Rl F.slot_zip_next hT F.entry_zip_next ?_ (F.args_zip_next_1 _))))
 show wpAny _ _ (field (.ref z) 2 >>= _) _ _ _;refine j2 (wpAny_field hz rfl (x:=.bool false) rfl ?_);show wpAny _ _ (field (.ref z) 3 >>= _) _ _ _;refine j2 (wpAny_field hz rfl (x:=.ref TI) rfl ?_);refine j2 (wpAny_seqItems hTI rfl ?_);show wpAny _ _ (Builtin.SmallTypes.ownedTupleIsFree (.ref z) >>= _) _ _ _;refine j2 ?_;unfold Builtin.SmallTypes.ownedTupleIsFree;refine j2 (wpAny_field hz rfl (x:=.none) rfl (Lb ?_));simp only[if_true];refine j2 (R9 ?_);refine j2 (wpAny_field hz rfl (x:=.ref TO) rfl ?_);refine j2 (wpAny_setField_rec hz (by simp) fun h₁ hz₁ hs₁=>?_)
 replace hz₁:IsZip h₁ z TI TO .ellipsis:=hz₁
 refine j2 ?_;simp only[Tz,List.zipIdx_nil,Sk,SO];refine j2 (j2 (wpAny_onRaise ?_));show wpAny _ _ (Builtin.SmallTypes.nextOf (.ref i1) >>= _) _ _ _;cases hx:xs[k1]? with
 | none =>
  refine j2 (next_end hh (h1.at fun o e=>hs₁.extBut _ o D.i1z e) (hl1.at fun o e=>hs₁.extBut _ o D.l1z e) hx fun h₂ e hs₂ he=>?_)
  obtain⟨oe,hoe,hce⟩:=he;have hz₂:IsZip h₂ z TI TO .ellipsis:=hs₂ _ _ D.i1z.symm hz₁;have hez:e≠z:=fun x=>by subst x;rw[hz₂]at hoe;cases hoe;simp at hce
  refine wpAny_setField_rec hz₂ (by simp) fun h₃ _ hs₃=>fin h₃ e (fun c o c1 _ c3 _ x=>hs₃.extBut _ _ c1 (hs₂ _ _ c3 (hs₁.extBut _ _ c1 x))) ⟨oe,hs₃.extBut _ _ hez hoe,hce⟩
 | some x =>
  have hy:ys[k2]? = none:=by rcases vG with h|h;rw[hx]at h;cases h;exact h
  refine j2 (next_item (h1.at fun o e=>hs₁.extBut _ o D.i1z e) (hl1.at fun o e=>hs₁.extBut _ o D.l1z e) hx fun h₂ h1₂ hs₂=>Lb ?_)
  have DY:IsPair h₂ TO a b:=hs₂.extBut _ _ D.TOi1 (hs₁.extBut _ _ D.TOz hTO);refine j2 (wpAny_seqItems DY rfl ?_);refine j2 (wpAny_updateSeq_pair DY fun h₃ HJ hs₃=>?_)
  refine j2 (wpAny_letGo (Lb ?_));refine j2 (j2 (wpAny_onRaise ?_));show wpAny _ _ (Builtin.SmallTypes.nextOf (.ref i2) >>= _) _ _ _;refine j2 (next_end hh (h2.at fun o e=>hs₃.extBut _ o D.TOi2.symm (hs₂.extBut _ o D.i12.symm (hs₁.extBut _ o D.i2z e)))
   (hl2.at fun o e=>hs₃.extBut _ o D.l2TO (hs₂.extBut _ o D.l2i1 (hs₁.extBut _ o D.l2z e))) hy fun h₄ e hs₄ he=>?_)
  obtain⟨oe,hoe,hce⟩:=he;have hz₄:IsZip h₄ z TI TO .ellipsis:=hs₄ _ _ D.i2z.symm (hs₃.extBut _ _ D.TOz.symm (hs₂.extBut _ _ D.i1z.symm hz₁));have hez:e≠z:=fun x=>by subst x;rw[hz₄]at hoe;cases hoe;simp at hce
  refine wpAny_setField_rec hz₄ (by simp) fun h₅ _ hs₅=>fin h₅ e (fun c o c1 c2 c3 c4 x=>hs₅.extBut _ _ c1 (hs₄ _ _ c4 (hs₃.extBut _ _ c2 (hs₂.extBut _ _ c3 (hs₁.extBut _ _ c1 x))))) ⟨oe,hs₅.extBut _ _ hez hoe,hce⟩
end
variable{ws:List Str}
theorem HC{w:Str}:inV (.str w) (ws.map V.str)=true ↔ w∈ws:=by
 constructor
 ·intro h;by_cases hm:w∈ws
  ·exact hm
  ·exfalso
   unfold inV at h;rw[Sf]at h;obtain⟨x,hx,e⟩:=h;obtain⟨z,hz,rfl⟩:=RJ.mp hx
   have:z=w:=eq_of_beq (show(z==w)=true from e)
   exact hm (this▸hz)
 ·intro h;unfold inV;rw[Sf];exact⟨.str w,RJ.mpr ⟨w,h,rfl⟩,show(w==w)=true from beq_self_eq_true w⟩
def marks(rs:List Str):List (Key×V):=rs.map fun s=>(.inr s,.bl true)
def SqB(K:W.Frag)(tp:Bool)(H:Hp)(a:Addr)(xs:List V):Prop:=if tp=true then SqT K H a xs else SqL K H a xs
variable{X:Cx}{j0:List (Addr×Obj)}{H:Hp}{a:Addr}{xs:List V}
theorem Inv.Me{σ:St}{s:Shared}(I:Inv X j0 σ H s)(h:SqB X.K tp H a xs):∃ its:List Value,Vals xs its/\aX s.heap tp a its.toArray/\xs.length<=QD:=by
 cases tp with
 | true =>
  obtain⟨its,r,p,z⟩:=I.tuple (show SqT X.K H a xs from h);exact⟨its,r,(show s.heap.IsTuple a its.toArray from p),z⟩
 | false =>
  obtain⟨its,r,p,z⟩:=I.list (show SqL X.K H a xs from h);exact⟨its,r,p.isList,z⟩
def itc(tp:Bool):String:=if tp=true then "tuple_iterator" else "list_iterator"
variable{prog:Program}{A:Around}{E:Value->Shared->Prop}
theorem vE{w:World}{s:Shared}{xs:Array Value}(h:aX s.heap tp l xs)
  (hQ:Q (.ref s.heap.objs.size) { s with heap:=s.heap.push { cls:=.type (itc tp),data:=.fields #[.ref l,.int 0 0] } }):wpAny (model prog w) A (pyIter (.ref l)) Q E s:=by
 cases tp with
 | true=>exact wpAny_pyIter_tuple (show s.heap.IsTuple l xs from h) hQ
 | false=>exact wpAny_pyIter_list (show s.heap.IsList l xs from h) hQ
abbrev zH1(t1:Bool)(h:Heap)(l1:Addr):Heap:=h.push { cls:=.type (itc t1),data:=.fields #[.ref l1,.int 0 0] }
abbrev zH2(t1 t2:Bool)(h:Heap)(l1 l2:Addr):Heap:=(zH1 t1 h l1).push { cls:=.type (itc t2),data:=.fields #[.ref l2,.int 0 0] }
abbrev zH3(t1 t2:Bool)(h:Heap)(l1 l2:Addr):Heap:=(zH2 t1 t2 h l1 l2).push { cls:=.type "tuple",data:=.seq #[.ref h.objs.size,.ref (zH1 t1 h l1).objs.size] }
abbrev zH4(t1 t2:Bool)(h:Heap)(l1 l2:Addr):Heap:=(zH3 t1 t2 h l1 l2).push { cls:=.type "tuple",data:=.seq #[.none,.none] }
abbrev zH5(t1 t2:Bool)(h:Heap)(l1 l2:Addr):Heap:=(zH4 t1 t2 h l1 l2).push { cls:=.type "zip",data:=.fields #[.none,.bool false,.bool false,.ref (zH2 t1 t2 h l1 l2).objs.size,.ref (zH3 t1 t2 h l1 l2).objs.size] }
theorem qR(t1 t2:Bool)(l1 l2:Addr)(xs ys:Array Value) :
  Meets (Builtin.«zip.__new__» ⟨[.type "zip",.ref l1,.ref l2],[]⟩) (fun _ R s=>aX s.heap t1 l1 xs/\aX s.heap t2 l2 ys /\
   R (.ok (.ret (.ref (zH4 t1 t2 s.heap l1 l2).objs.size))) { s with heap:=zH5 t1 t2 s.heap l1 l2 }) :=
 .of_wp fun prog w A R s h=>by
  obtain⟨hp,g,d,tk,os⟩:=s;obtain⟨hl1,hl2,h⟩:=h;have QK:=sub_zip;have hL1:aX (Shared.heap ⟨hp,g,d,tk,os⟩) t1 l1 xs:=hl1;have hL2:aX (Shared.heap ⟨hp.push { cls:=.type (itc t1),data:=.fields #[.ref l1,.int 0 0] },g,d,tk,os⟩) t2 l2 ys:=hl2.at fun o e=>j3 _ e
  wp_walk using vE hL1,vE hL2
  exact⟨_,rfl,h⟩
theorem nC{h:Heap}(e:h.get? it=some { cls:=.type (itc tp),data:=.fields #[.ref l,.int 0 0] }):aP h tp it l 0:=by
 cases tp with
 | true=>exact(show h.IsTupleIter it l 0 from⟨_,e,rfl,rfl⟩)
 | false=>exact(show h.IsListIter it l 0 from⟨_,e,rfl,rfl⟩)
theorem ug{prog:Program}{w:World}{A:Around}{E:Value->Shared->Prop}{s:Shared}{xs:Array Value}(hl1:aX s.heap t1 l1 xs)(hl2:aX s.heap t2 l2 ys)
  (h:∀ h',IsZip h' (s.heap.objs.size+4) (s.heap.objs.size+2) (s.heap.objs.size+3) .none->IsPair h' (s.heap.objs.size+2) (.ref s.heap.objs.size) (.ref (s.heap.objs.size+1)) ->
   IsPair h' (s.heap.objs.size+3) .none .none->aP h' t1 s.heap.objs.size l1 0->aP h' t2 (s.heap.objs.size+1) l2 0 ->
   (∀ c o,s.heap.get? c=some o->h'.get? c=some o)->Q (.ref (s.heap.objs.size+4)) { s with heap:=h' }) :
  wpAny (model prog w) A (call (.type "zip") [.ref l1,.ref l2]) Q E s:=by
 refine callType_new F.called_zip (by decide) (F.typeCall_zip_2 _ _) (F.newCall_zip_2 _ _) (fun obj=>F.args_object_init_3 obj _ _) F.entry_zip_new
  (qR t1 t2 l1 l2 xs ys) ⟨hl1,hl2,?_⟩
 have z1:(zH1 t1 s.heap l1).objs.size=s.heap.objs.size+1:=Rb ..;have z2:(zH2 t1 t2 s.heap l1 l2).objs.size=s.heap.objs.size+2:=by rw[Rb,z1]
 have z3:(zH3 t1 t2 s.heap l1 l2).objs.size=s.heap.objs.size+3:=by rw[Rb,z2]
 have z4:(zH4 t1 t2 s.heap l1 l2).objs.size=s.heap.objs.size+4:=by rw[Rb,z3]
 have g5:(zH5 t1 t2 s.heap l1 l2).get? (zH4 t1 t2 s.heap l1 l2).objs.size=some _:=QV _ rfl;have g4:(zH5 t1 t2 s.heap l1 l2).get? (zH3 t1 t2 s.heap l1 l2).objs.size=some _:=j3 _ (QV _ rfl);have g3:(zH5 t1 t2 s.heap l1 l2).get? (zH2 t1 t2 s.heap l1 l2).objs.size=some _:=j3 _ (j3 _ (QV _ rfl));have g2:(zH5 t1 t2 s.heap l1 l2).get? (zH1 t1 s.heap l1).objs.size=some _:=j3 _ (j3 _ (j3 _ (QV _ rfl)));have g1:(zH5 t1 t2 s.heap l1 l2).get? s.heap.objs.size=some _:=j3 _ (j3 _ (j3 _ (j3 _ (QV _ rfl))));show _/\_;rw[z2,z3,z4]at g5;rw[z1,z2]at g3;rw[z3]at g4;rw[z1]at g2;rw[z4];exact⟨⟨_,g5,rfl⟩,h _ g5 g3 g4 (nC g1) (nC g2) fun c o x =>
  j3 _ (j3 _ (j3 _ (j3 _ (j3 _ x))))⟩
theorem aX.obj{h:Heap}{xs:Array Value}(x:aX h tp l xs):∃ o,h.get? l=some o:=by
 cases tp with
 | true=>obtain⟨o,ho,_⟩:=(show h.IsTuple l xs from x);exact⟨o,ho⟩
 | false=>obtain⟨o,ho,_⟩:=(show h.IsList l xs from x);exact⟨o,ho⟩
variable{n:Nat}
theorem uM{l1 l2:Nat}(h1:l1<n)(h2:l2<n):ZipApart (n+4) (n+2) (n+3) n (n+1) l1 l2:=by
 constructor <;>(intro z;refine absurd (show @Eq Nat _ _ from z) ?_;omega)
variable{d:Addr}
theorem mz.other{q:Addr}{o:HO}(D:mz H d l)(h1:q≠d)(h2:q≠l):mz (upd H q o) d l:=by
 obtain⟨s,n,ls,D⟩:=D;exact⟨s,n,ls,by rw[ah h1.symm];exact D.hd,by rw[ah h2.symm];exact D.hl,D.s0,D.s1,D.n0,D.l0⟩
variable{es:List Expr}
theorem y8{K:W.Frag}{k:Nat}{pos:Pos}{t:TGs}(hK:X.K=K)(hc:X.calm=true)(h:PGs X es t)
  (hn:(assignEach es X.env).length=n:=by rfl) (hst:(assignEach es X.env).findIdx? (·.1)=none:=by rfl):PG X (.Tuple es k pos) (x5 K n t):=hK▸KA hc h hn hst
abbrev nA(h:Heap)(z TI TO:Addr)(a:Addr)(f:Bool):Prop :=
 h.get? z=some { cls:=.type "zip",dict:=none,data:=.fields #[rawInt a,.bool f,.bool false,.ref TI,.ref TO],slots:=#[] }
variable{oa:Obj}
section
variable{w:World}{s:Shared}
theorem vq{TI TO:Addr}{f:Bool}{Q:Bool->Shared->Prop}(hz:nA s.heap z TI TO a f)(ha:s.heap.get? a=some oa)
  (hQ:∀ h',nA h' z TI TO a true->R8 z s.heap h'->Q false { s with heap:=h' }):wpAny (model prog w) A (Builtin.SmallTypes.ownedTupleIsFree (.ref z)) Q E s:=by
 unfold Builtin.SmallTypes.ownedTupleIsFree;refine j2 (wpAny_field hz rfl (x:=rawInt a) rfl ?_);show wpAny _ _ (loadIfAlive ((a:Int).toNat) >>= _) _ _ _;rw[SS];refine j2 (W.kdx_alive ha ?_);simp only[Option.isNone_some,RH,if_false];refine j2 (wpAny_field hz rfl (x:=.bool f) rfl ?_);cases f with
 | true =>
  rw[if_neg (show ¬((Value.bool true != Value.bool true)=true)from QF)];exact Lb (hQ _ hz (Heap.SameBut.refl _ _))
 | false =>
  rw[if_pos (show(Value.bool false != Value.bool true)=true from rfl)];refine j2 (wpAny_setField_rec hz (by simp) fun h₃ he₃ hs₃=>?_)
  exact Lb (hQ _ he₃ hs₃)
theorem FC{TI TO:Addr}{f:Bool}{xs:Array Value}{x y:Value}{Q:Option Value->Shared->Prop}(D:ZipApart z TI TO i1 i2 l1 l2)
  (hz:nA s.heap z TI TO a f) (ha:s.heap.get? a=some oa) (hTI:IsPair s.heap TI (.ref i1) (.ref i2))
  (h1:aP s.heap t1 i1 l1 k1) (h2:aP s.heap t2 i2 l2 k2) (hl1:aX s.heap t1 l1 xs) (hl2:aX s.heap t2 l2 ys) (hx:xs[k1]? = some x) (hy:ys[k2]? = some y)
  (hQ:∀ h',nA h' z TI TO a true->aP h' t1 i1 l1 (k1+1)->aP h' t2 i2 l2 (k2+1)->IsPair h' s.heap.objs.size x y->h'.objs.size=s.heap.objs.size+1 ->
   (∀ c o,c≠z->c≠i1->c≠i2->s.heap.get? c=some o->h'.get? c=some o)->Q (some (.ref s.heap.objs.size)) { s with heap:=h' }) :
  wpAny (model prog w) A (pyNext (.ref z)) Q E s:=by
 have hT:s.TypeIs (.ref z) "zip":=⟨_,hz,rfl⟩;unfold pyNext;refine j2 (R3 (wpAny_callSpecial?_slot (name:=Str.ofString "__next__") hT F.slot_zip_next
  (Rl F.slot_zip_next hT F.entry_zip_next ?_ (F.args_zip_next_1 _))))
 show wpAny _ _ (field (.ref z) 2 >>= _) _ _ _;refine j2 (wpAny_field hz rfl (x:=.bool false) rfl ?_);show wpAny _ _ (field (.ref z) 3 >>= _) _ _ _;refine j2 (wpAny_field hz rfl (x:=.ref TI) rfl ?_);refine j2 (wpAny_seqItems hTI rfl ?_);show wpAny _ _ (Builtin.SmallTypes.ownedTupleIsFree (.ref z) >>= _) _ _ _;refine j2 (vq hz ha fun h₁ hz₁ hs₁=>?_)
 simp only[RH,if_false];rw[<- Ti];simp only[Sk,SO];refine j2 (j2 (j2 (Rn ?_)));show wpAny _ _ (Builtin.SmallTypes.nextOf (.ref i1) >>= _) _ _ _;refine j2 (next_item (h1.at fun o e=>hs₁.extBut _ o D.i1z e) (hl1.at fun o e=>hs₁.extBut _ o D.l1z e) hx fun h₂ h1₂ hs₂=>Lb (Lb ?_))
 refine j2 (j2 (Rn ?_));show wpAny _ _ (Builtin.SmallTypes.nextOf (.ref i2) >>= _) _ _ _;refine j2 (next_item (h2.at fun o e=>hs₂.extBut _ o D.i12.symm (hs₁.extBut _ o D.i2z e)) (hl2.at fun o e=>hs₂.extBut _ o D.l2i1 (hs₁.extBut _ o D.l2z e)) hy fun h₃ h2₃ hs₃=>Lb (Lb ?_))
 refine Lb ?_;show wpAny _ _ (newTuple [x,y] >>= _) _ _ _;refine j2 (wpAny_newTuple ?_);have hsz:h₃.objs.size=s.heap.objs.size:=by rw[hs₃.1,hs₂.1,hs₁.1]
 have up:∀ c o,c≠z->c≠i1->c≠i2->s.heap.get? c=some o ->(h₃.push { cls:=.type "tuple",data:=.seq #[x,y] }).get? c=some o:=fun c o c1 c2 c3 e =>
  j3 _ (hs₃.extBut _ _ c3 (hs₂.extBut _ _ c2 (hs₁.extBut _ _ c1 e)))
 refine Lb ⟨_,rfl,Lb ?_⟩;show Q (some (.ref h₃.objs.size)) _;rw[hsz];refine hQ _ (j3 _ (hs₃.extBut _ _ D.i2z.symm (hs₂.extBut _ _ D.i1z.symm hz₁))) ?_ ?_ ?_ ?_ up
 ·exact h1₂.at fun o e=>j3 _ (hs₃.extBut _ o D.i12 e)
 ·exact h2₃.at fun o e=>j3 _ e
 ·rw[<- hsz];exact QV _ rfl
 ·rw[Rb,hsz]
theorem uL{TI TO:Addr}{f:Bool}{xs:Array Value}{Q:Option Value->Shared->Prop}(hh:A.handled=none)(D:ZipApart z TI TO i1 i2 l1 l2)
  (hz:nA s.heap z TI TO a f) (ha:s.heap.get? a=some oa) (hTI:IsPair s.heap TI (.ref i1) (.ref i2))
  (h1:aP s.heap t1 i1 l1 k1) (h2:aP s.heap t2 i2 l2 k2) (hl1:aX s.heap t1 l1 xs) (hl2:aX s.heap t2 l2 ys) (vG:xs[k1]? = none\/ys[k2]? = none)
  (hQ:∀ h',(∀ c o,c≠z->c≠i1->c≠i2->s.heap.get? c=some o->h'.get? c=some o)->Q none { s with heap:=h' }) :
  wpAny (model prog w) A (pyNext (.ref z)) Q E s:=by
 have hT:s.TypeIs (.ref z) "zip":=⟨_,hz,rfl⟩;have fin:∀ h' e,(∀ c o,c≠z->c≠i1->c≠i2->s.heap.get? c=some o->h'.get? c=some o) ->(∃ o,h'.get? e=some o/\o.cls = .type "StopIteration") ->
   wpAny (model prog w) A (do if <- isInstance (.ref e) (.type "StopIteration")then pure none else throw (.ref e)) Q E { s with heap:=h' }:=fun h' e hk he=>by
  obtain⟨o,ho,hc⟩:=he;refine j2 (R7 (T:="StopIteration") (b:=true) ⟨o,ho,hc⟩ isSubtype_stop ?_);exact Lb (hQ _ hk)
 unfold pyNext;refine j2 (R3 (wpAny_callSpecial?_slot (name:=Str.ofString "__next__") hT F.slot_zip_next
  (Rl F.slot_zip_next hT F.entry_zip_next ?_ (F.args_zip_next_1 _))))
 show wpAny _ _ (field (.ref z) 2 >>= _) _ _ _;refine j2 (wpAny_field hz rfl (x:=.bool false) rfl ?_);show wpAny _ _ (field (.ref z) 3 >>= _) _ _ _;refine j2 (wpAny_field hz rfl (x:=.ref TI) rfl ?_);refine j2 (wpAny_seqItems hTI rfl ?_);show wpAny _ _ (Builtin.SmallTypes.ownedTupleIsFree (.ref z) >>= _) _ _ _;refine j2 (vq hz ha fun h₁ hz₁ hs₁=>?_)
 simp only[RH,if_false];rw[<- Ti];simp only[Sk,SO];refine j2 (j2 (j2 (Rn ?_)));show wpAny _ _ (Builtin.SmallTypes.nextOf (.ref i1) >>= _) _ _ _;cases hx:xs[k1]? with
 | none =>
  refine j2 (next_end hh (h1.at fun o e=>hs₁.extBut _ o D.i1z e) (hl1.at fun o e=>hs₁.extBut _ o D.l1z e) hx fun h₂ e hs₂ he=>?_)
  exact fin h₂ e (fun c o c1 c2 _ x=>hs₂ _ _ c2 (hs₁.extBut _ _ c1 x)) he
 | some x =>
  have hy:ys[k2]? = none:=by rcases vG with h|h;rw[hx]at h;cases h;exact h
  refine j2 (next_item (h1.at fun o e=>hs₁.extBut _ o D.i1z e) (hl1.at fun o e=>hs₁.extBut _ o D.l1z e) hx fun h₂ h1₂ hs₂=>Lb (Lb ?_))
  refine j2 (j2 (Rn ?_));show wpAny _ _ (Builtin.SmallTypes.nextOf (.ref i2) >>= _) _ _ _;refine j2 (next_end hh (h2.at fun o e=>hs₂.extBut _ o D.i12.symm (hs₁.extBut _ o D.i2z e)) (hl2.at fun o e=>hs₂.extBut _ o D.l2i1 (hs₁.extBut _ o D.l2z e)) hy fun h₃ e hs₃ he=>?_)
  exact fin h₃ e (fun c o c1 c2 c3 x=>hs₃ _ _ c3 (hs₂.extBut _ _ c2 (hs₁.extBut _ _ c1 x))) he
end
structure ZSt(h:Heap)(z TI TO i1 i2 l1 l2 S:Addr)(t1 t2:Bool)(i:Nat):Prop where
 ti:IsPair h TI (.ref i1) (.ref i2)
 s1:aP h t1 i1 l1 i
 s2:aP h t2 i2 l2 i
 st:(IsZip h z TI TO .none/\∃ a b,IsPair h TO a b)\/∃(a:Addr)(f:Bool)(oa:Obj),nA h z TI TO a f/\h.get? a=some oa/\a≠z/\a≠S/\a≠i1/\a≠i2
variable{S:Addr}
theorem ZSt.keep{h:Heap}{TI TO:Addr}{i:Nat}(x:ZSt h z TI TO i1 i2 l1 l2 S t1 t2 i)(k:∀ b o,b≠S->h.get? b=some o->h'.get? b=some o)(hz:z≠S)(hTI:TI≠S)(hTO:TO≠S)(h1:i1≠S)(h2:i2≠S):ZSt h' z TI TO i1 i2 l1 l2 S t1 t2 i :=
 ⟨k _ _ hTI x.ti,x.s1.at fun o e=>k _ o h1 e,x.s2.at fun o e=>k _ o h2 e,by
  rcases x.st with⟨e,a,b,e2⟩ |⟨a,f,oa,e,e2,n1,n2,n3⟩
  ·exact .inl ⟨k _ _ hz e,a,b,k _ _ hTO e2⟩
  ·exact .inr ⟨a,f,oa,k _ _ hz e,k _ _ n2 e2,n1,n2,n3⟩⟩
section
variable{w:World}{s:Shared}
theorem Fx{E:Value->Shared->Prop}{TI TO:Addr}{k:Nat}{xs:Array Value}{x y:Value}{Q:Option Value->Shared->Prop}(D:ZipApart z TI TO i1 i2 l1 l2)
  (st:ZSt s.heap z TI TO i1 i2 l1 l2 S t1 t2 k) (hS:S<s.heap.objs.size) (hl1:aX s.heap t1 l1 xs) (hl2:aX s.heap t2 l2 ys) (hx:xs[k]? = some x) (hy:ys[k]? = some y)
  (hQ:∀ h',ZSt h' z TI TO i1 i2 l1 l2 S t1 t2 (k+1)->IsPair h' s.heap.objs.size x y->h'.objs.size=s.heap.objs.size+1 ->
   (∀ c o,c≠z->c≠TO->c≠i1->c≠i2->s.heap.get? c=some o->h'.get? c=some o)->Q (some (.ref s.heap.objs.size)) { s with heap:=h' }) :
  wpAny (model prog w) A (pyNext (.ref z)) Q E s:=by
 obtain⟨o1,g1,_⟩:=st.s1.obj;obtain⟨o2,g2,_⟩:=st.s2.obj;rcases st.st with⟨hz,a,b,hTO⟩ |⟨a,f,oa,hz,ha,n1,n2,n3,n4⟩
 ·refine BR D hz st.ti hTO st.s1 st.s2 hl1 hl2 hx hy fun h' hz' QN e1 e2 hp hsz hk=>hQ h' ⟨hk _ _ D.TIz D.TITO D.TIi1 D.TIi2 st.ti,e1,e2,.inr ⟨s.heap.objs.size,false,_,hz',hp,?_,?_,?_,?_⟩⟩ hp hsz hk
  ·exact RI (QW hz)
  ·exact RI hS
  ·exact RI (QW g1)
  ·exact RI (QW g2)
 ·exact FC D hz ha st.ti st.s1 st.s2 hl1 hl2 hx hy fun h' hz' e1 e2 hp hsz hk=>hQ h' ⟨hk _ _ D.TIz D.TIi1 D.TIi2 st.ti,e1,e2,.inr ⟨a,true,oa,hz',hk a oa n1 n3 n4 ha,n1,n2,n3,n4⟩⟩ hp hsz fun c o c1 _ c3 c4 e=>hk c o c1 c3 c4 e
theorem FA{TI TO:Addr}{k:Nat}{xs:Array Value}{Q:Option Value->Shared->Prop}(hh:A.handled=none)(D:ZipApart z TI TO i1 i2 l1 l2)
  (st:ZSt s.heap z TI TO i1 i2 l1 l2 S t1 t2 k) (hl1:aX s.heap t1 l1 xs) (hl2:aX s.heap t2 l2 ys) (vG:xs[k]? = none\/ys[k]? = none)
  (hQ:∀ h',(∀ c o,c≠z->c≠TO->c≠i1->c≠i2->s.heap.get? c=some o->h'.get? c=some o)->Q none { s with heap:=h' }):wpAny (model prog w) A (pyNext (.ref z)) Q E s:=by
 rcases st.st with⟨hz,a,b,hTO⟩ |⟨a,f,oa,hz,ha,n1,n2,n3,n4⟩
 ·exact FD hh D hz st.ti hTO st.s1 st.s2 hl1 hl2 vG hQ
 ·exact uL hh D hz ha st.ti st.s1 st.s2 hl1 hl2 vG fun h' hk=>hQ h' fun c o c1 _ c3 c4 e=>hk c o c1 c3 c4 e
end
end L2
namespace PySem
open Sem (wp)
theorem Cq:mroOf (.type "reversed")=pure [.type "reversed",.type "object"]:=by rw[mroOf_type];kernel_rfl
theorem J1:typeLookup (.type "reversed") "__new__" = pure (some (.builtin "reversed.__new__")):=by rw[typeLookup_type,builtinLookup_eq_fast];kernel_rfl
theorem sC:Slot "reversed" "__init__" "object.__init__" :=
 .of (owner:="object") (n:="__init__") (by rw[typeLookup_type,builtinLookup_eq_fast];kernel_rfl) (by decide +kernel) (by decide +kernel) (by decide +kernel) (by first|exact .inl (by decide +kernel)|exact .inr (by decide +kernel)) (by rw[RQ];kernel_rfl)
theorem Cp:isSubtype (.type "reversed") (.type "reversed")=pure true:=by rw[RQ];kernel_rfl
theorem Ae:TypeCalled "reversed" "reversed.__new__" "object.__init__" :=
 ⟨by decide +kernel,by decide +kernel,⟨_,_,Cq⟩,madeBy_type Cq J1 (by decide +kernel),by decide +kernel,by rw[RQ];kernel_rfl,sC⟩
theorem uW(a:Value):checkTypeCall "reversed" ⟨[a],[]⟩=pure ():=by kernel_rfl
theorem wY(a:Value):checkBuiltinCall "reversed.__new__" ⟨[.type "reversed",a],[]⟩=pure ():=by kernel_rfl
theorem sD:entryFor table "reversed.__new__" = some Builtin.«reversed.__new__»:=entryFor_of_tree (by kernel_rfl)
theorem oV:Manifest.owners.lookup (String.ofList ['d','e','s','r','e','v','e','r'].reverse)=some Manifest.sig_reversed:=by kernel_rfl
theorem dr:Slot "reversed" "__next__" "reversed.__next__" :=
 .of (owner:="reversed") (n:="__next__") (by rw[typeLookup_type,builtinLookup_eq_fast];kernel_rfl) (by decide +kernel) (by decide +kernel) (by decide +kernel) (by first|exact .inl (by decide +kernel)|exact .inr (by decide +kernel)) (by rw[RQ];kernel_rfl)
theorem kF:entryFor table "reversed.__next__" = some Builtin.«reversed.__next__»:=entryFor_of_tree (by kernel_rfl)
theorem lO(a:Value):argsOk "reversed.__next__" ⟨[a],[]⟩:=by
 unfold argsOk;rw[signature?_of (id:="reversed.__next__") (n:=['_','_','t','x','e','n','_','_']) (o:=['d','e','s','r','e','v','e','r']) (by kernel_rfl) oV]
 kernel_rfl
theorem lN:Slot "reversed" "__iter__" "reversed.__iter__" :=
 .of (owner:="reversed") (n:="__iter__") (by rw[typeLookup_type,builtinLookup_eq_fast];kernel_rfl) (by decide +kernel) (by decide +kernel) (by decide +kernel) (by first|exact .inl (by decide +kernel)|exact .inr (by decide +kernel)) (by rw[RQ];kernel_rfl)
theorem sE(a:Value):argsOk "reversed.__iter__" ⟨[a],[]⟩:=by
 unfold argsOk;rw[signature?_of (id:="reversed.__iter__") (n:=['_','_','r','e','t','i','_','_']) (o:=['d','e','s','r','e','v','e','r']) (by kernel_rfl) oV]
 kernel_rfl
theorem qL:entryFor table "reversed.__iter__" = some Builtin.«dict_keyiterator.__iter__» :=
 entryFor_alias (id':="dict_keyiterator.__iter__") (by kernel_rfl) (by first|rfl|decide +kernel |(unfold String.splitOn;simp +decide [String.splitOnAux])) (by decide +kernel) (by kernel_rfl)
theorem iH:Slot "reversed" "__length_hint__" "reversed.__length_hint__" :=
 .of (owner:="reversed") (n:="__length_hint__") (by rw[typeLookup_type,builtinLookup_eq_fast];kernel_rfl) (by decide +kernel) (by decide +kernel) (by decide +kernel) (by first|exact .inl (by decide +kernel)|exact .inr (by decide +kernel)) (by rw[RQ];kernel_rfl)
theorem qM:entryFor table "reversed.__length_hint__" = some Builtin.«reversed.__length_hint__»:=entryFor_of_tree (by kernel_rfl)
theorem sF(a:Value):argsOk "reversed.__length_hint__" ⟨[a],[]⟩:=by
 unfold argsOk;rw[signature?_of (id:="reversed.__length_hint__") (n:=['_','_','t','n','i','h','_','h','t','g','n','e','l','_','_']) (o:=['d','e','s','r','e','v','e','r']) (by kernel_rfl) oV]
 kernel_rfl
theorem Ad:typeLookup (.type "reversed") "__len__" = pure none:=by rw[typeLookup_type,builtinLookup_eq_fast];kernel_rfl
theorem wC:typeLookup (.type "tuple") "__reversed__" = pure none:=by rw[typeLookup_type,builtinLookup_eq_fast];kernel_rfl
theorem sd:isSubtype (.type "tuple") (.type "dict")=pure false:=by rw[RQ];kernel_rfl
section
variable{prog:Program}{w:World}{A:Around}{E:Value->Shared->Prop}{s:Shared}
def yR(l:Addr)(i:Int):Obj:={ cls:=.type "reversed",data:=.fields #[.ref l,rawInt i] }
abbrev yC(h:Heap)(a l:Addr)(i:Int):Prop:=h.get? a=some { cls:=.type "reversed",dict:=none,data:=.fields #[.ref l,rawInt i],slots:=#[] }
theorem Cr(l:Addr)(items:Array Value)(qU:(items.size:Int)<2 ^ 63) :
  Meets (Builtin.«reversed.__new__» ⟨[.type "reversed",.ref l],[]⟩) (fun _ R s=>s.heap.IsTuple l items /\
   R (.ok (.ret (.ref s.heap.objs.size))) { s with heap:=s.heap.push (yR l ((items.size:Int) - 1)),toks:=s.toks+1+1 }) :=
 .of_wp fun prog w A R s h=>by
  obtain⟨hp,g,d,tk,os⟩:=s;obtain⟨hl,h⟩:=h;have hT:(⟨hp,g,d,tk,os⟩:Shared).TypeIs (.ref l) "tuple":=by obtain⟨o,ho,hc,_⟩:=id hl;exact⟨o,ho,hc⟩
  unfold Builtin.«reversed.__new__»;refine j2 (RX (a:=(Value.type "reversed",[Value.ref l])) ?_ ?_)
  ·unfold Builtin.SmallTypes.newClass;simp only[isType,Cp,pure_bind,Bool.not_true,RH,if_false]
  refine j2 (RX (a:=()) (by first|rfl|kernel_rfl) ?_)
  refine j2 (RX (a:=()) (by first|rfl|kernel_rfl) ?_)
  refine j2 (RM hT wC ?_);refine j2 ?_;show wpAny _ _ (isInstance (.ref l) (.type "dict") >>= _) _ _ _;refine j2 (R7 hT sd ?_);show wpAny _ _ (specialOf (.ref l) "__getitem__" >>= _) _ _ _;refine j2 (RM hT F.slot_tuple_getitem.lookup ?_);show wpAny _ _ (if(_:List String).contains "tuple.__getitem__" = true then _ else _) _ _ _
  rw[if_pos (by decide)]
  refine Lb ?_;rw[if_neg (by decide)]
  show wpAny _ _ (call (.builtin "len") [.ref l] >>= _) _ _ _;refine j2 (PyProof.Rows.len_tuple hl (by omega) ?_)
  refine j2 (RX (a:=some (items.size:Int)) rfl ?_);refine j2 ?_;unfold Builtin.SmallTypes.newRecord;exact Ro (Lb ⟨_,rfl,h⟩)
theorem Gb{l:Addr}{items:Array Value}{Q:Value->Shared->Prop}(qU:(items.size:Int)<2 ^ 63)(hl:s.heap.IsTuple l items)
  (h:Q (.ref s.heap.objs.size) { s with heap:=s.heap.push (yR l ((items.size:Int) - 1)),toks:=s.toks+1+1 }):wpAny (model prog w) A (call (.type "reversed") [.ref l]) Q E s :=
 callType_new Ae (by decide) (uW _) (wY _) (fun obj=>F.args_object_init_2 obj _) sD (Cr l items qU) ⟨hl,⟨_,QV _ rfl,rfl⟩,h⟩
theorem F9{a l:Addr}{i:Nat}{items:Array Value}{x:Value}{Q:Option Value->Shared->Prop}(qU:(items.size:Int)<2 ^ 63)(hr:yC s.heap a l (i:Int))(hl:s.heap.IsTuple l items)(hx:items[i]? = some x)
  (hQ:∀ h',yC h' a l ((i:Int) - 1)->R8 a s.heap h'->Q (some x) { s with heap:=h',toks:=s.toks+1 }):wpAny (model prog w) A (pyNext (.ref a)) Q E s:=by
 have hT:s.TypeIs (.ref a) "reversed":=⟨_,hr,rfl⟩;have hTl:s.TypeIs (.ref l) "tuple":=by obtain⟨o,ho,hc,_⟩:=id hl;exact⟨o,ho,hc⟩
 have hlt:i<items.size:=(Array.getElem?_eq_some_iff.mp hx).1;unfold pyNext;refine j2 (R3 (wpAny_callSpecial?_slot (name:=Str.ofString "__next__") hT dr (Rl dr hT kF ?_ (lO _))));show wpAny _ _ (field (.ref a) 0 >>= _) _ _ _;refine j2 (wpAny_field hr rfl (x:=.ref l) rfl ?_);show wpAny _ _ (field (.ref a) 1 >>= _) _ _ _;refine j2 (wpAny_field hr rfl (x:=rawInt (i:Int)) rfl ?_);show wpAny _ _ (if(i:Int)<0 then _ else _) _ _ s
 rw[if_neg (by omega)]
 show wpAny _ _ (specialOf (.ref l) "__getitem__" >>= _) _ _ _;refine j2 (RM hTl F.slot_tuple_getitem.lookup ?_);rw[if_neg (by decide)]
 show wpAny _ _ (mkInt i >>= _) _ _ _;refine j2 (wpAny_mkInt ?_);refine j2 (R3 (PyProof.Rows.getItem_tuple (j:=i) (x:=x) hl (by omega) (by omega) ?_ hx ?_))
 ·unfold seqIndex?;simp;omega
 show wpAny _ _ (field (.ref a) 1 >>= _) _ _ _;refine j2 (wpAny_field hr rfl (x:=rawInt (i:Int)) rfl ?_);show wpAny _ _ (setField (.ref a) 1 (rawInt ((i:Int) - 1)) >>= _) _ _ _;refine j2 (wpAny_setField_rec hr (by simp) fun h' hr' hs'=>?_)
 exact Lb ⟨_,rfl,Lb (hQ h' hr' hs')⟩
theorem J2{a l:Addr}{Q:Option Value->Shared->Prop}(hh:A.handled=none)(hr:yC s.heap a l (-1))(hQ:∀ h',TL a s.heap h'->Q none { s with heap:=h' }):wpAny (model prog w) A (pyNext (.ref a)) Q E s:=by
 have hT:s.TypeIs (.ref a) "reversed":=⟨_,hr,rfl⟩;unfold pyNext;refine j2 (R3 (wpAny_callSpecial?_slot (name:=Str.ofString "__next__") hT dr (Rl dr hT kF ?_ (lO _))));show wpAny _ _ (field (.ref a) 0 >>= _) _ _ _;refine j2 (wpAny_field hr rfl (x:=.ref l) rfl ?_);show wpAny _ _ (field (.ref a) 1 >>= _) _ _ _;refine j2 (wpAny_field hr rfl (x:=rawInt (-1)) rfl ?_);show wpAny _ _ (if(-1:Int)<0 then _ else _) _ _ s
 rw[if_pos (by decide)]
 refine j2 (R9 ?_);refine j2 ?_;show wpAny _ _ (setField (.ref a) 1 (rawInt (-1)) >>= _) _ _ _;refine j2 (wpAny_setField_rec hr (by simp) fun h1 hr1 hs1=>?_)
 replace hr1:yC h1 a l (-1):=hr1
 refine wpAny_setField_rec hr1 (by simp) fun h2 hr2 hs2=>?_
 refine j2 ?_;show wpAny _ _ (newExc (.type "StopIteration") [] >>= _) _ _ _;refine j2 ?_;simp only[newExc,newTuple];refine j2 (Ro ?_ (by size_fits))
 refine j2 (m:=firstArgMember _ _) (RX (a:=Value.none) (by first|rfl |(simp only[firstArgMember];rfl)) ?_)
 refine Ro ?_ (by size_fits)
 simp only[raiseNew];refine j2 (wpAny_handled ?_)
 first|rw[show A.in1.handled=none from hh]|rw[hh]
 refine j2 (Lb (wpAny_throw ?_));refine j2 (R7 (T:="StopIteration") (b:=true) ⟨_,QV _ rfl,rfl⟩ isSubtype_stop ?_);exact Lb (hQ _ (fun b o hb e=>j3 _ (j3 _ (hs2.extBut b o hb (hs1.extBut b o hb e)))))
theorem F8{a l:Addr}{i:Int}{Q:Value->Shared->Prop}(hr:yC s.heap a l i)(h:Q (.ref a) s):wpAny (model prog w) A (pyIter (.ref a)) Q E s:=by
 have hT:s.TypeIs (.ref a) "reversed":=⟨_,hr,rfl⟩;refine wpAny_pyIter_slot hT lN (Rl lN hT qL ?_ (sE _));show wpAny _ _ (ret (.ref a)) _ _ s;exact Lb ⟨_,rfl,"reversed",_,hT,dr.lookup,h⟩
end
section
variable{prog:Program}{w:World}{A:Around}{E:Value->Shared->Prop}{s:Shared}
theorem Ga{I l:Addr}{items:Array Value}{i:Nat}{Q:Bool->Shared->Prop}(hz:items.size<=QD)(qU:(items.size:Int)<2 ^ 63)(hi:i<=items.size)(hr:yC s.heap I l ((i:Int) - 1))(hl:s.heap.IsTuple l items)(hQ:∀ b tk,s.toks<=tk->Q b { s with toks:=tk }) :
  wpAny (model prog w) A (Builtin.List.listLengthHint (.ref I)) Q E s:=by
 have hT:s.TypeIs (.ref I) "reversed":=⟨_,hr,rfl⟩;unfold Builtin.List.listLengthHint;refine j2 (RM hT Ad ?_);show wpAny _ _ (specialOf (Value.ref I) (Str.ofString "__length_hint__") >>= _) _ _ _;refine j2 (RM hT iH.lookup ?_)
 generalize hid:("reversed.__length_hint__":String)=id0
 wp_delta
 rw[show splitId id0=some ("reversed","__length_hint__")from by subst hid;decide +kernel]
 subst hid;refine j2 (R7 (b:=true) hT Cp ?_);rw[if_neg (by decide)]
 rw[if_neg (by decide +kernel)]
 show wpAny _ _ (rule "list.length-hint.hint" >>= _) _ _ _;refine j2 (R9 ?_);refine j2 (RX (iH.bind _) ?_);refine j2 (R3 (Rl iH hT qM ?_ (sF _)));show wpAny _ _ (field (.ref I) 0 >>= _) _ _ _;refine j2 (wpAny_field hr rfl (x:=.ref l) rfl ?_);show wpAny _ _ (call (.builtin "len") [.ref l] >>= _) _ _ _;refine j2 (PyProof.Rows.len_tuple hl (by omega) ?_)
 refine j2 (RX (a:=some (items.size:Int)) rfl ?_);show wpAny _ _ (field (.ref I) 1 >>= _) _ _ _;refine j2 (wpAny_field hr rfl (x:=rawInt ((i:Int) - 1)) rfl ?_);show wpAny _ _ (if(items.size:Int)<(i:Int) - 1+1 then _ else _) _ _ _
 rw[if_neg (by omega)]
 refine j2 (wpAny_mkInt (Lb ⟨_,rfl,?_⟩));show wpAny _ _ (asInt? _ >>= _) _ _ _;refine j2 (RX (a:=some ((i:Int) - 1+1)) rfl ?_);have f1:Builtin.List.listFitsIndex ((i:Int) - 1+1)=true:=by unfold Builtin.List.listFitsIndex;simp;omega
 have f2:¬((i:Int) - 1+1)<0:=by omega
 have f3:Builtin.List.listTooLong ((i:Int) - 1+1).toNat=false:=by unfold Builtin.List.listTooLong;simp;omega
 dsimp only;rw[if_neg (by rw[f1];decide),if_neg f2,if_neg (by rw[f3];decide)]
 exact Lb (hQ _ _ (by show s.toks<=s.toks+1+1+1;omega))
theorem Walks.rv(hh:A.handled=none)(I l:Addr)(hne:l≠I)(items:Array Value)(qU:(items.size:Int)<2 ^ 63) :
  Walks prog w A I [I,l] [I] items.size (fun i v=>items[items.size - 1 - i]? = some v) (fun i h=>i<=items.size/\yC h I l (((items.size - i:Nat):Int) - 1)/\h.IsTuple l items) where
 sub:=fun b hb=>by simp at hb;simp[hb]
 frame:=fun _ _ _ x hk=>⟨x.1,hk I (by simp) _ x.2.1,let⟨o,ho,r⟩:=x.2.2;⟨o,hk l (by simp) o ho,r⟩⟩
 item:=fun i s Q E hi x hQ=>by
  have e:((items.size - i:Nat):Int) - 1 =((items.size - 1 - i:Nat):Int):=by omega
  have hit:=x.2.1;rw[e]at hit;have hx:items[items.size - 1 - i]? = some (items[items.size - 1 - i]'(by omega)):=Array.getElem?_eq_getElem (by omega)
  refine F9 qU hit x.2.2 hx fun h' Nx hs'=>?_
  have e2:((items.size - 1 - i:Nat):Int) - 1 =((items.size - (i+1):Nat):Int) - 1:=by omega
  rw[e2]at Nx;exact hQ _ h' _ hx ⟨hi,Nx,let⟨o,ho,r⟩:=x.2.2;⟨o,hs'.extBut _ _ hne ho,r⟩⟩ fun b o hb eo=>hs'.extBut b o (fun h=>hb (by simp[h])) eo
 done:=fun s Q E x hQ=>by
  have hit:=x.2.1;rw[SJ]at hit;exact J2 hh hit fun h' he'=>hQ h' s.toks fun b o hb eo=>he' b o (fun h=>hb (by simp[h])) eo
 self:=fun _ _ _ _ x hQ=>F8 x.2.1 hQ
theorem vJ{R:Result->Shared->Prop}{I:Addr}{fp wr:List Addr}{n:Nat}{P:Nat->Value->Prop}{St:Nat->Heap->Prop}{ty:String}(W:Walks prog w A.in1 I fp wr n P St)(hT:∀ i (s:Shared),St i s.heap->s.TypeIs (.ref I) ty)
  (ht1:(Value.type ty == .type "list" || Value.type ty == .type "tuple")=false) (ht2:∀ x ∈ ["set","frozenset","dict","dict_keys","dict_values","dict_items"],(Value.type ty == .type x)=false)
  (hint:∀(s:Shared)(Q:Bool->Shared->Prop)(E:Value->Shared->Prop),St 0 s.heap ->(∀ b tk,s.toks<=tk->Q b { s with toks:=tk })->wpAny (model prog w) A.in1 (Builtin.List.listLengthHint (.ref I)) Q E s)
  (S:Addr) (res:Value) (c₀:Nat) (hst:St 0 s.heap) (hSf:S ∉ fp) (hI:I∈fp) (hS:s.heap.get? S=some { cls:=.type "list",data:=.seq #[] c₀ })
  (hR:∀ s' dn c',Moved (S::wr) (fun g g'=>g'=g) s s'->s'.heap.get? S=some { cls:=.type "list",dict:=none,data:=.seq dn c',slots:=#[] }->ItemsOf P dn n->R (.ok (.ret res)) s') (hn:n<=QD) :
  wpAny (model prog w) A.in1 (Builtin.List.listExtendWith (.ref S) (.ref I) res)
   (fun fin s'=>match fin with | .done f=>R (.ok f) s' | .again c'=>c'.quiet=true/\codeAny (model prog w) A c' R s') (fun e s'=>R (.error e) s') s:=by
 have hSI:S≠I:=fun e=>hSf (e▸hI)
 have h1:Builtin.List.listSameRef (.ref S) (.ref I)=false:=by simp[Builtin.List.listSameRef,hSI]
 unfold Builtin.List.listExtendWith;refine j2 (RY (hT 0 _ hst) ?_);rw[if_neg (by rw[Bool.or_assoc,h1,ht1];decide)]
 refine j2 (W.self 0 _ _ _ hst ?_);refine j2 (Rn (hint _ _ _ hst fun b tk htk=>?_))
 have tail:∀(h':Heap)(tk':Nat)(c:Nat),s.toks<=tk' ->(∀ b o,b≠S->s.heap.get? b=some o->h'.get? b=some o)->h'.get? S=some { cls:=.type "list",dict:=none,data:=.seq #[] c,slots:=#[] } ->
   wpAny (model prog w) A.in1 (again (.builtin "list.extend.loop" ⟨[.ref S,.ref I,res],[]⟩)) (fun fin s'=>match fin with | .done f=>R (.ok f) s' | .again c'=>c'.quiet=true/\codeAny (model prog w) A c' R s') (fun e s'=>R (.error e) s') { s with heap:=h',toks:=tk' }:=by
  intro h' tk' c ht hk hS';refine Lb ⟨R4 F.plain_extend_loop _,codeAny_extend_loopS W.toS hn _ hSf _ n 0 _ _ _ rfl (RE _) (W.frame 0 s.heap _ hst fun b hb o e=>hk b o (fun z=>hSf (z▸hb)) e) hS' (ItemsOf.nil P) fun s' dn c' hm HK k8=>hR s' dn c' ?_ HK k8⟩
  exact⟨fun b o hb e=>hm.heap b o hb (hk b o (fun z=>hb (by rw[z];exact qr)) e),hm.gens,hm.drawn,hm.os,Ra ht hm.toks⟩
 cases b with
 | false =>
  dsimp only;rw[if_neg ?_]
  ·exact tail _ _ _ htk (fun _ _ _ e=>e) hS
  ·intro z;rw[SE,Sf]at z;obtain⟨x,hx,hz⟩:=z;rw[ht2 x hx]at hz;cases hz
 | true =>
  dsimp only;rw[if_pos (by rw[Tp])]
  refine j2 (R9 ?_);refine j2 ?_;show wpAny _ A.in1 (updateSeq S (·.push .none) >>= fun _=>updateSeq S (·.pop)) _ _ _
  refine j2 (RR hS rfl ?_);have hS2:=Rv (R0 (·.push Value.none)) hS rfl;refine RR (hz:=by seq_fits) hS2 rfl ?_
  have hS3:=Rv (R0 (·.pop)) hS2 rfl;exact tail _ _ _ htk (fun b o hb e=>(Rc _ _ (Ne.symm hb)).trans ((Rc _ _ (Ne.symm hb)).trans e)) hS3
theorem p7{Q:Value->Shared->Prop}{I:Addr}{fp wr:List Addr}{n:Nat}{P:Nat->Value->Prop}{St:Nat->Heap->Prop}{ty:String}(W:Walks prog w A.in1.in1 I fp wr n P St)(hT:∀ i (s:Shared),St i s.heap->s.TypeIs (.ref I) ty)
  (ht1:(Value.type ty == .type "list" || Value.type ty == .type "tuple")=false) (ht2:∀ x ∈ ["set","frozenset","dict","dict_keys","dict_values","dict_items"],(Value.type ty == .type x)=false)
  (hint:∀(s:Shared)(Q:Bool->Shared->Prop)(E:Value->Shared->Prop),St 0 s.heap ->(∀ b tk,s.toks<=tk->Q b { s with toks:=tk })->wpAny (model prog w) A.in1.in1 (Builtin.List.listLengthHint (.ref I)) Q E s)
  (hst:St 0 s.heap) (hfp:∀ b∈fp,b<s.heap.objs.size) (hI:I∈fp)
  (hQ:∀ s' dn c',Moved (s.heap.objs.size::wr) (fun g g'=>g'=g) { s with heap:=s.heap.push { cls:=.type "list",data:=.seq #[] } } s' ->
   s'.heap.get? s.heap.objs.size=some { cls:=.type "list",dict:=none,data:=.seq dn c',slots:=#[] }->ItemsOf P dn n->Q (.ref s.heap.objs.size) s') (hn:n<=QD) :
  wpAny (model prog w) A (call (.type "list") [.ref I]) Q E s:=by
 have hSf:s.heap.objs.size ∉ fp:=fun hm=>RZ _ (hfp _ hm)
 refine callType_codes (Q₁:=fun obj s₁=>obj = .ref s.heap.objs.size/\s₁ ={ s with heap:=s.heap.push { cls:=.type "list",data:=.seq #[] } }) F.called_list (F.typeCall_list_1 _) F.entry_list_init (code_list_new _ ⟨rfl,rfl⟩) fun obj s₁ h₁=>?_
 obtain⟨rfl,rfl⟩:=h₁;have hS:(s.heap.push { cls:=.type "list",data:=.seq #[] }).get? s.heap.objs.size=some { cls:=.type "list",data:=.seq #[] }:=QV _ rfl;refine⟨⟨_,hS,rfl⟩,F.args_list_init_2 _ _,?_⟩;show wpAny _ _ (do let old <- Builtin.List.listItems (.ref s.heap.objs.size);Builtin.List.listUpdate (.ref s.heap.objs.size) (fun _=>#[]);letGo old.toList.reverse;Builtin.List.listExtendWith (.ref s.heap.objs.size) (.ref I) .none) _ _ _
 refine j2 ?_;unfold Builtin.List.listItems;refine j2 (wpAny_seqItems hS rfl (Lb ?_));show wpAny _ _ (updateSeq s.heap.objs.size (fun _=>#[]) >>= fun _=>letGo (#[]:Array Value).toList.reverse >>= fun _=>Builtin.List.listExtendWith (.ref s.heap.objs.size) (.ref I) .none) _ _ _
 refine j2 (RR hS rfl ?_);have hS2:=Rv (R0 (fun _=>(#[]:Array Value))) hS rfl
 have oth:∀ b o,b≠s.heap.objs.size ->(s.heap.push { cls:=.type "list",data:=.seq #[] }).get? b=some o ->((s.heap.push { cls:=.type "list",data:=.seq #[] }).update s.heap.objs.size (R0 (fun _=>(#[]:Array Value)))).get? b=some o :=
  fun b o hb e=>(Rc _ _ (Ne.symm hb)).trans e
 refine j2 (wpAny_letGo ?_);refine vJ (hn:=hn) W hT ht1 ht2 hint s.heap.objs.size .none _ (W.frame 0 s.heap _ hst fun b hb o e=>oth b o (fun z=>hSf (z▸hb)) (j3 _ e)) hSf hI hS2 fun s' dn c' hm hS' k8=>?_
 exact⟨rfl,hQ s' dn c' ⟨fun b o hb e=>hm.heap b o hb (oth b o (fun z=>hb (by rw[z];exact qr)) e),hm.gens,hm.drawn,hm.os,hm.toks⟩ hS' k8⟩
end
end PySem
namespace L2
open PySem PySem.Spec PyProof.Rows
def mE(K:W.Frag)(te:TE):TE:=fun σ H Q=>te σ H fun x H1=>∃ l ys,x = .ref l/\SqT K H1 l ys/\∀ q,H1 q=none->Q (.ref q) (upd H1 q (.lst ys.reverse))
variable{X:Cx}{e:Expr}{te:TE}
theorem vm{p1 p2 bP pos:Pos}(hc:X.calm=true)(hg1:Gl X "list")(hm1:X.mg "list" = none)(hg2:Gl X "reversed")(hm2:X.mg "reversed" = none)(he:PE X e te)
  (hs1:L9 [e] X.env = [(false,eval e X.env)]:=by rfl) (hs2:L9 [.Call (.Name "reversed" p2) [e] [] bP] X.env = [(false,eval (.Call (.Name "reversed" p2) [e] [] bP) X.env)]:=by rfl) :
  PE X (.Call (.Name "list" p1) [.Call (.Name "reversed" p2) [e] [] bP] [] pos) (mE X.K te):=by
 intro j0 s σ H Q I h;refine Rr (gp I hg1 hm1 boot_list ?_);refine PyProof.Rows.callWith_type1 ?_ hs2 rfl;rw[hs2];show wpAny _ _ (spliced ((false,eval (.Call (.Name "reversed" p2) [e] [] bP) X.env)::backTo pos (L9 [] X.env))) _ _ s;refine Calls.spliced_cons ?_;refine Rr (gp I hg2 hm2 boot_reversed ?_);refine PyProof.Rows.callWith_type1 ?_ hs1 rfl;rw[hs1];show wpAny _ _ (spliced ((false,eval e X.env)::backTo bP (L9 [] X.env))) _ _ s;refine Calls.spliced_cons (thn (he j0 s σ H _ I h) fun u s1 hPP=>?_)
 obtain⟨x,H1,I1,r1,l,ys,ex,hl,q⟩:=hPP;subst ex;cases r1;refine Calls.spliced_nil ?_;obtain⟨its,rv,pl,hz⟩:=I1.tuple hl;have pl:s1.heap.IsTuple l its.toArray:=pl;have hlen:=rv.length;have h63:=jP;have qU:(its.toArray.size:Int)<2 ^ 63:=by rw[P2];omega
 have hlt:l<s1.heap.objs.size:=by obtain⟨_,e,_⟩:=id pl;exact QW e
 refine Gb qU pl (Calls.spliced_nil ?_);have W:=Walks.rv (prog:=X.prog) (w:=X.w) (A:=X.A.in1.in1) (show X.A.in1.in1.handled=none from I.ok.hd hc) s1.heap.objs.size l (Rg hlt) its.toArray qU;refine p7 (s:={ s1 with heap:=s1.heap.push (yR l ((its.toArray.size:Int) - 1)),toks:=s1.toks+1+1 }) W (fun i s' st=>⟨_,st.2.1,rfl⟩) (by decide) (by decide)
  (fun s' Q' E' st hq=>Ga (i:=its.toArray.size) (by rw[P2];omega) qU (QX _) (by simpa using st.2.1) st.2.2 hq)
  ⟨RE _,by rw[Nat.sub_zero];exact QV _ rfl,let⟨o,ho,r⟩:=pl;⟨o,j3 _ ho,r⟩⟩ (fun b hb=>?_) (by simp) (fun s' dn c' hm hS' k8=>?_) ?_
 ·show b<(s1.heap.push _).objs.size;rw[Rb];rcases QH.mp hb with z|z
  ·rw[z];exact R5 _
  ·rw[Es.mp z];exact Sb hlt
 ·rw[Moved.eq_with hm];have kp:∀ b o,s1.heap.get? b=some o->s'.heap.get? b=some o:=fun b o e=>hm.heap b o (fun z=>by
   have hb:@LT.lt Nat _ b s1.heap.objs.size:=QW e;rcases QH.mp z with z|z
   ·rw[z]at hb;simp only[Rb]at hb;omega
   ·rw[Es.mp z]at hb;omega) (j3 _ (j3 _ e))
  have hv:Vals ys.reverse dn.toList:=uN (its:=its.toArray) (by simpa using rv) k8
  have hf:H1 ((s1.heap.push (yR l ((its.toArray.size:Int) - 1))).objs.size)=none:=I1.hok.fresh (by rw[Rb];omega)
  refine⟨.ref _,_,I1.laid (t':=s'.toks) (h':=s'.heap) (o:=.lst ys.reverse) kp (by rw[Rb];omega) ⟨by rw[S9];exact hz,dn.toList,c',hv,by simpa using hS'⟩,rfl,q _ hf⟩
 ·rw[P2];omega
section
variable{j0:List (Addr×Obj)}{σ:St}{H:Hp}{s:Shared}{a:Addr}{u u':HO}
theorem Inv.Mg(I:Inv X j0 σ H s)(ha:H a=some u)(h1:∀ xs,u ≠ .tup xs)(h2:∀ c,u ≠ .own c)(h3:∀ ps,u ≠ .tbl ps)(hz:∀ o v,X.H₀ a≠some (.frz o v))(new:bO X.prog X.w (upd H a u') s.heap a u'):Inv X j0 σ (upd H a u') s:=by
 have ne:∀{b:Addr},H b=none->b≠a:=fun{b} e z=>by rw[z,ha]at e;cases e
 refine⟨I.ok,I.os,I.bare,⟨I.base.keep,I.base.slot,fun b o e n hx=>?_,I.base.there,fun b xs e=>?_,fun b o v e=>?_,fun b ps e=>?_⟩,I.loc,I.cell,?_,fun x c e=>?_,fun p hp=>?_,fun b o e=>?_,I.len⟩
 ·have:=I.base.free b o e n hx
  rw[ah (ne this)];exact this
 ·have:=I.base.oJ b xs e
  rw[ah fun z=>by rw[z,ha]at this;exact h1 xs (Option.some.inj this)]
  exact this
 ·have:=I.base.mY b o v e
  rw[ah fun z=>by rw[z]at e;exact hz o v e]
  exact this
 ·obtain⟨more,this⟩:=I.base.oK b ps e;refine⟨more,?_⟩;rw[ah fun z=>by rw[z,ha]at this;exact h3 _ (Option.some.inj this)]
  exact this
 ·rw[ah (ne I.free)];exact I.free
 ·rw[ah (ne (I.gx x c e))];exact I.gx x c e
 ·obtain⟨p1,p2,p3⟩:=I.pin p hp;exact⟨p1,by rw[ah (ne p2)];exact p2,p3⟩
 ·by_cases hb:b=a
  ·subst hb;rw[ar]at e;cases e;exact new
  ·rw[ah hb]at e;refine(I.hok b o e).cL (fun _ _ _ q=>q) (fun c q=>?_) fun c xs q=>?_
   ·rw[ah fun z=>by rw[z,ha]at q;exact h2 _ (Option.some.inj q)];exact q
   ·rw[ah fun z=>by rw[z,ha]at q;exact h1 _ (Option.some.inj q)];exact q
end
end L2
namespace PySem
open Sem (wp)
end PySem
namespace PySem
open Sem (wp)
open Builtin Builtin.ObjectAttr
section
variable{M:Model}{prog:Program}{w:World}{A:Around}{E:Value->Shared->Prop}{h:Heap}{g:Array GenState}{d:Drawn}{t:Nat}{os:OsState}
variable{nm q:Str}{C N x:Addr}{bs bm bmB:List Value}{sn:List Str}{sub:List Value}{ab Lg:Bool}{col:Option Bool}{dd:Option Addr}{k0 k1 k2 k3 k5:Option Value}{B newId sa owner:String}
 {mN mA:Str->Option Value} {name:Str} {v:Value} {S:List Str}
end
end PySem
namespace PySem
open Sem (wp)
open Builtin Builtin.ObjectAttr
section
variable{prog:Program}{w:World}{A:Around}{E:Value->Shared->Prop}{h:Heap}{g:Array GenState}{d:Drawn}{t:Nat}{os:OsState}
variable{nm q:Str}{C N x:Addr}{bs bm bmB:List Value}{sn:List Str}{sub:List Value}{ab Lg:Bool}{col:Option Bool}{dd:Option Addr}{k0 k1 k2 k3 k5:Option Value}{B newId:String}
 {mN mA:Str->Option Value} {name:Str} {v:Value} {S:List Str} {o:Obj}
end
end PySem
namespace PySem
open Sem (wp)
def LJ(h:Heap)(e:Addr)(cls:Value)(dx:Option Addr)(y:Value):Prop :=
 ∃ o vs a0,h.get? e=some o/\o.cls=cls/\o.dict=dx/\o.data = .fields vs/\vs[0]? = some a0/\vs[1]? = some y
end PySem
namespace L2
open PySem PySem.Spec PyProof.Rows
theorem any_some{α:Type}{o:Option α}{f:α->Bool}(h:o.any f=true):∃ a,o=some a/\f a=true:=by
 cases o with
 | none=>cases h
 | some a=>exact⟨a,rfl,h⟩
def XAt(a C:Addr)(dx:Option Addr)(b:Bool)(h:Heap):Prop:=∃ y,LJ h a (.ref C) dx y/\(b=true->y = .none)
def XD(dx:Addr)(fs:List (Str×V))(h:Heap):Prop:=∃ mA,h.Ns1 dx mA/\(∀ f,jt (fs.lookup f) (mA f))/\PySem.Within mA (fs.map (·.1))
def ExH(H:Hp)(a C:Addr)(b:Bool)(fs:List (Str×V)):Prop:=(fs = []/\H a=some (.ext (XAt a C none b)))\/∃ dx,dx≠a/\H a=some (.ext (XAt a C (some dx) b))/\H dx=some (.ext (XD dx fs))
section
variable{P:Program}{w:World}{H H':Hp}{h h':Heap}{a C d:Addr}{dx:Option Addr}{b:Bool}{fs:List (Str×V)}
theorem XD.ok(x:XD d fs h):bO P w H h d (.ext (XD d fs)):=by
 refine⟨x,?_,fun h1 h2 ⟨mA,⟨o,es,ep,e,r⟩,z⟩ k=>⟨mA,⟨o,es,ep,k o e,r⟩,z⟩⟩
 obtain⟨mA,⟨o,es,ep,e,r⟩,z⟩:=x;exact⟨o,e⟩
end
end L2
namespace PySem
open Sem (wp)
end PySem
namespace L2
open PySem PySem.Spec PyProof.Rows
theorem len0{P:List Value->Prop}(h:P [])(us:List Value)(e:us.length=0):P us:=by rw[Ss.mp e];exact h
theorem Np{P:List Value->Prop}(h:∀ a,P [a])(us:List Value)(e:us.length=1):P us:=by
 cases us with
 | nil=>cases e
 | cons a r=>exact len0 (P:=fun r=>P (a::r)) (h a) r (Nat.succ.inj e)
theorem Nn{P:List Value->Prop}(h:∀ a b,P [a,b])(us:List Value)(e:us.length=2):P us:=by
 cases us with
 | nil=>cases e
 | cons a r=>exact Np (P:=fun r=>P (a::r)) (h a) r (Nat.succ.inj e)
theorem Nm{P:List Value->Prop}(h:∀ a b c,P [a,b,c])(us:List Value)(e:us.length=3):P us:=by
 cases us with
 | nil=>cases e
 | cons a r=>exact Nn (P:=fun r=>P (a::r)) (h a) r (Nat.succ.inj e)
theorem Nl{P:List Value->Prop}(h:∀ a b c d,P [a,b,c,d])(us:List Value)(e:us.length=4):P us:=by
 cases us with
 | nil=>cases e
 | cons a r=>exact Nm (P:=fun r=>P (a::r)) (h a) r (Nat.succ.inj e)
theorem PU{P:List Value->Prop}(h:∀ a b c d e,P [a,b,c,d,e])(us:List Value)(e:us.length=5):P us:=by
 cases us with
 | nil=>cases e
 | cons a r=>exact Nl (P:=fun r=>P (a::r)) (h a) r (Nat.succ.inj e)
inductive T where
 | n|b (x:Bool)|i (x:Int)|s (x:Str)|t (xs:List T)|l (xs:List T)|d (ks:List (Key×T))|lb|z (ns:List Int)|ty (x:String)|k (ws:List Str)|q|fd (o:Obj) (vs:List (Key×V)) (ks:List (Key×T))|xc (C:Addr) (ns:List Str) (ts:List T)|rm (u:Int)|ob (C:Addr) (ns:List Str) (ts:List T)|dp (a:Addr) (ks:List (Key×T))|lp (a:Addr) (xs:List T)|zl (xs:List T)|rf (a:Addr)|om (a C:Addr) (ns:List Str) (ts:List T)
abbrev Dl:=List (Addr×Addr)
def FzL(K:W.Frag)(H:Hp)(a:Addr)(xs:List V):Prop:=(∃ o,H a=some (.frz o (.lst xs))) \/
  ∃(o:Obj)(its:Array Value)(n:Nat),K.lookup a=some o/\o.cls = .type "list" /\ o.dict=none/\o.data = .seq its n/\its.size<=QD/\Vals xs its.toList
variable{H:Hp}{a:Addr}{xs:List V}
theorem FzL.sq{K:W.Frag}(h:FzL K H a xs):SqL K H a xs:=by
 rcases h with h|h
 ·exact .inl (.inr h)
 ·exact .inr h
def rj(a C dx:Addr)(h:Heap):Prop:=h.get? a=some (W.instObj C dx)
def ObH(H:Hp)(a C:Addr)(fs:List (Str×V)):Prop:=∃ dx,dx≠a/\H a=some (.ext (rj a C dx))/\H dx=some (.ext (XD dx fs))
mutual
inductive aq(K:W.Frag)(dl:Dl)(H:Hp):V->T->List Addr->Prop where
 | n:aq K dl H .non .n []
 | b(x:Bool):aq K dl H (.bl x) (.b x) []
 | i(x:Int):aq K dl H (.int x) (.i x) []
 | s(x:Str):aq K dl H (.str x) (.s x) []
 | ty(x:String):aq K dl H (.ty x) (.ty x) []
 | t{a:Addr}{vs:List V}{ts:List T}{F:List Addr}:H a=some (.tup vs)->ai K dl H vs ts F->aq K dl H (.ref a) (.t ts) F
 | l{a:Addr}{vs:List V}{ts:List T}{F:List Addr}:H a=some (.lst vs)->ai K dl H vs ts F->aq K dl H (.ref a) (.l ts) (a::F)
 | d{a:Addr}{vs:List (Key×V)}{ts:List (Key×T)}{F:List Addr}:H a=some (.dK vs)->aF K dl H vs ts F->aq K dl H (.ref a) (.d ts) (a::F)
 | x{a l:Addr}:(a,l)∈dl->aq K dl H (.ref a) .lb []
 | z{a:Addr}{ns:List Int}:FzL K H a (ns.map V.int)->aq K dl H (.ref a) (.z ns) []
 | q{a:Addr}{xs:List V}:H a=some (.lst xs)->aq K dl H (.ref a) .q []
 | fd{a:Addr}{o:Obj}{vs:List (Key×V)}{ts:List (Key×T)}:H a=some (.frz o (.dK vs))->aF K dl H vs ts []->aq K dl H (.ref a) (.fd o vs ts) []
 | k{a:Addr}{ws:List Str}:(∀ H':Hp,SqT K H' a (ws.map V.str))->aq K dl H (.ref a) (.k ws) []
 | e{a C:Addr}{b:Bool}{ns:List Str}{vs:List V}{ts:List T}:ExH H a C b (ns.zip vs)->ai K dl H vs ts []->aq K dl H (.ref a) (.xc C ns ts) []
 | rm{a:Addr}{x u:Int}:H a=some (.room x)->x<=u->aq K dl H (.ref a) (.rm u) []
 | ob{a C:Addr}{ns:List Str}{vs:List V}{ts:List T}:ObH H a C (ns.zip vs)->ai K dl H vs ts []->aq K dl H (.ref a) (.ob C ns ts) []
 | dp{a:Addr}{vs:List (Key×V)}{ts:List (Key×T)}{F:List Addr}:H a=some (.dK vs)->aF K dl H vs ts F->aq K dl H (.ref a) (.dp a ts) (a::F)
 | lp{a:Addr}{vs:List V}{ts:List T}{F:List Addr}:H a=some (.lst vs)->ai K dl H vs ts F->aq K dl H (.ref a) (.lp a ts) (a::F)
 | zl{a:Addr}{o:Obj}{vs:List V}{ts:List T}:H a=some (.frz o (.lst vs))->ai K dl H vs ts []->aq K dl H (.ref a) (.zl ts) []
 | rf(a:Addr):aq K dl H (.ref a) (.rf a) []
 | om{a C dx:Addr}{ns:List Str}{vs:List V}{ts:List T}{F:List Addr}:H a=some (.ins C dx (ns.zip vs))->H dx=some (.own a)->ns.length=ts.length->ai K dl H vs ts F->aq K dl H (.ref a) (.om a C ns ts) (a::dx::F)
inductive ai(K:W.Frag)(dl:Dl)(H:Hp):List V->List T->List Addr->Prop where
 | nil:ai K dl H [] [] []
 | cons{v:V}{x:T}{vs:List V}{ts:List T}{F G:List Addr}:aq K dl H v x F->ai K dl H vs ts G->ai K dl H (v::vs) (x::ts) (F++G)
inductive aF(K:W.Frag)(dl:Dl)(H:Hp):List (Key×V)->List (Key×T)->List Addr->Prop where
 | nil:aF K dl H [] [] []
 | cons{k:Key}{v:V}{x:T}{vs:List (Key×V)}{ts:List (Key×T)}{F G:List Addr}:aq K dl H v x F->aF K dl H vs ts G->aF K dl H ((k,v)::vs) ((k,x)::ts) (F++G)
end
def HO.mt:HO->Bool
 | .lst _=>true
 | .dK _=>true
 | .ins _ _ _=>true
 | .own _=>true
 | _=>false
def cg(H:Hp)(b:Addr):Prop:=∃ o,H b=some o/\o.mt=true
theorem cg.no{b:Addr}(h:cg H b)(e:H b=none):False:=by
 obtain⟨_,h,_⟩:=h;rw[e]at h;cases h
structure TF(H H':Hp):Prop where
 t:∀ a vs,H a=some (.tup vs)->H' a=some (.tup vs)
 f:∀ a o u,H a=some (.frz o u)->H' a=some (.frz o u)
 x:∀ a φ,H a=some (.ext φ)->H' a=some (.ext φ)
 q:∀ a xs,H a=some (.lst xs)->∃ ys,H' a=some (.lst ys)
 r:∀ a x,H a=some (.room x)->∃ y,y<=x/\H' a=some (.room y)
variable{H':Hp}{C:Addr}
theorem ObH.tf{fs:List (Str×V)}(h:ObH H a C fs)(k:TF H H'):ObH H' a C fs:=by
 obtain⟨d,h1,h2,h3⟩:=h;exact⟨d,h1,k.x _ _ h2,k.x _ _ h3⟩
theorem ExH.tf{b:Bool}{fs:List (Str×V)}(h:ExH H a C b fs)(k:TF H H'):ExH H' a C b fs:=by
 rcases h with⟨h1,h2⟩ |⟨d,h1,h2,h3⟩
 ·exact .inl ⟨h1,k.x _ _ h2⟩
 ·exact .inr ⟨d,h1,k.x _ _ h2,k.x _ _ h3⟩
theorem FzL.tf{K:W.Frag}{vs:List V}(h:FzL K H a vs)(k:TF H H'):FzL K H' a vs:=by
 rcases h with⟨o,h⟩|h
 ·exact .inl ⟨o,k.f _ _ _ h⟩
 ·exact .inr h
theorem bu{α:Type}{p:α->Prop}:∀ b∈([]:List α),p b:=fun _ h=>absurd h TB
variable{dl:Dl}{dl':Dl}
theorem aq.cL{K:W.Frag}(k:TF H H')(hd:∀ p∈dl,p∈dl'){v:V}{t:T}{F:List Addr}(h:aq K dl H v t F):(∀ b∈F,∀ o,H b=some o->H' b=some o)->aq K dl' H' v t F :=
 aq.rec (motive_1:=fun v t F _=>(∀ b∈F,∀ o,H b=some o->H' b=some o)->aq K dl' H' v t F) (motive_2:=fun v t F _=>(∀ b∈F,∀ o,H b=some o->H' b=some o)->ai K dl' H' v t F) (motive_3:=fun v t F _=>(∀ b∈F,∀ o,H b=some o->H' b=some o)->aF K dl' H' v t F)
  (fun _=>.n) (fun x _=>.b x) (fun x _=>.i x) (fun x _=>.s x) (fun x _=>.ty x) (fun h _ ih q=>.t (k.t _ _ h) (ih q))
  (fun h _ ih q=>.l (q _ qr _ h) (ih fun b hb=>q b (j5 _ hb))) (fun h _ ih q=>.d (q _ qr _ h) (ih fun b hb=>q b (j5 _ hb)))
  (fun h _=>.x (hd _ h)) (fun h _=>.z (h.tf k)) (fun h _=>Exists.elim (k.q _ _ h) fun _ e=>.q e) (fun h _ ih _=>.fd (k.f _ _ _ h) (ih bu)) (fun h _=>.k h) (fun h _ ih _=>.e (h.tf k) (ih bu))
  (fun h hx _=>Exists.elim (k.r _ _ h) fun _ e=>.rm e.2 (RU e.1 hx)) (fun h _ ih _=>.ob (h.tf k) (ih bu)) (fun h _ ih q=>.dp (q _ qr _ h) (ih fun b hb=>q b (j5 _ hb))) (fun h _ ih q=>.lp (q _ qr _ h) (ih fun b hb=>q b (j5 _ hb))) (fun h _ ih _=>.zl (k.f _ _ _ h) (ih bu)) (fun a _=>.rf a) (fun h1 h2 h3 _ ih q=>.om (q _ qr _ h1) (q _ (j5 _ qr) _ h2) h3 (ih fun b hb=>q b (j5 _ (j5 _ hb))))
  (fun _=>.nil) (fun _ _ i1 i2 q=>.cons (i1 fun b hb=>q b (QP _ hb)) (i2 fun b hb=>q b (PJ _ hb)))
  (fun _=>.nil) (fun _ _ i1 i2 q=>.cons (i1 fun b hb=>q b (QP _ hb)) (i2 fun b hb=>q b (PJ _ hb))) h
theorem ai.ind{K:W.Frag}{M:List V->List T->List Addr->Prop}(nil:M [] [] [])(cons:∀ v x vs ts F G,aq K dl H v x F->ai K dl H vs ts G->M vs ts G->M (v::vs) (x::ts) (F++G)){vs:List V}{ts:List T}{F:List Addr}(h:ai K dl H vs ts F):M vs ts F :=
 ai.rec (motive_1:=fun _ _ _ _=>True) (motive_2:=fun v t F _=>M v t F) (motive_3:=fun _ _ _ _=>True) trivial (fun _=>trivial) (fun _=>trivial) (fun _=>trivial) (fun _=>trivial) (fun _ _ _=>trivial) (fun _ _ _=>trivial) (fun _ _ _=>trivial)
  (fun _=>trivial) (fun _=>trivial) (fun _=>trivial) (fun _ _ _=>trivial) (fun _=>trivial) (fun _ _ _=>trivial) (fun _ _=>trivial) (fun _ _ _=>trivial) (fun _ _ _=>trivial) (fun _ _ _=>trivial) (fun _ _ _=>trivial) (fun _=>trivial) (fun _ _ _ _ _=>trivial) nil (fun h r _ ih=>cons _ _ _ _ _ _ h r ih) trivial (fun _ _ _ _=>trivial) h
theorem aF.ind{K:W.Frag}{M:List (Key×V)->List (Key×T)->List Addr->Prop}(nil:M [] [] [])(cons:∀ k v x vs ts F G,aq K dl H v x F->aF K dl H vs ts G->M vs ts G->M ((k,v)::vs) ((k,x)::ts) (F++G)){vs:List (Key×V)}{ts:List (Key×T)}{F:List Addr}(h:aF K dl H vs ts F):M vs ts F :=
 aF.rec (motive_1:=fun _ _ _ _=>True) (motive_2:=fun _ _ _ _=>True) (motive_3:=fun v t F _=>M v t F) trivial (fun _=>trivial) (fun _=>trivial) (fun _=>trivial) (fun _=>trivial) (fun _ _ _=>trivial) (fun _ _ _=>trivial) (fun _ _ _=>trivial)
  (fun _=>trivial) (fun _=>trivial) (fun _=>trivial) (fun _ _ _=>trivial) (fun _=>trivial) (fun _ _ _=>trivial) (fun _ _=>trivial) (fun _ _ _=>trivial) (fun _ _ _=>trivial) (fun _ _ _=>trivial) (fun _ _ _=>trivial) (fun _=>trivial) (fun _ _ _ _ _=>trivial) trivial (fun _ _ _ _=>trivial) nil (fun h r _ ih=>cons _ _ _ _ _ _ _ h r ih) h
theorem ai.cL{K:W.Frag}{dl dl':Dl}{H H':Hp}(k:TF H H')(hd:∀ p∈dl,p∈dl'){vs:List V}{ts:List T}{F:List Addr}(h:ai K dl H vs ts F):(∀ b∈F,∀ o,H b=some o->H' b=some o)->ai K dl' H' vs ts F :=
 h.ind (M:=fun vs ts F=>(∀ b∈F,∀ o,H b=some o->H' b=some o)->ai K dl' H' vs ts F) (fun _=>.nil) (fun _ _ _ _ _ _ h _ ih q=>.cons (h.cL k hd fun b hb=>q b (QP _ hb)) (ih fun b hb=>q b (PJ _ hb)))
theorem aF.cL{K:W.Frag}{dl dl':Dl}{H H':Hp}(k:TF H H')(hd:∀ p∈dl,p∈dl'){vs:List (Key×V)}{ts:List (Key×T)}{F:List Addr}(h:aF K dl H vs ts F):(∀ b∈F,∀ o,H b=some o->H' b=some o)->aF K dl' H' vs ts F :=
 h.ind (M:=fun vs ts F=>(∀ b∈F,∀ o,H b=some o->H' b=some o)->aF K dl' H' vs ts F) (fun _=>.nil) (fun _ _ _ _ _ _ _ h _ ih q=>.cons (h.cL k hd fun b hb=>q b (QP _ hb)) (ih fun b hb=>q b (PJ _ hb)))
variable{G:List Addr}
theorem mD{F:List Addr}(h:∀ b∈F,cg H b)(r:∀ b∈G,cg H b):∀ b∈F++G,cg H b:=fun b hb=>(Q7.mp hb).elim (h b) (r b)
theorem aq.there{K:W.Frag}{v:V}{t:T}{F:List Addr}(h:aq K dl H v t F):∀ b∈F,cg H b :=
 aq.rec (motive_1:=fun _ _ F _=>∀ b∈F,cg H b) (motive_2:=fun _ _ F _=>∀ b∈F,cg H b) (motive_3:=fun _ _ F _=>∀ b∈F,cg H b)
  bu (fun _=>bu) (fun _=>bu) (fun _=>bu) (fun _=>bu) (fun _ _ ih=>ih)
  (fun h _ ih b hb=>(QH.mp hb).elim (fun e=>by rw[e];exact⟨_,h,rfl⟩) (ih b)) (fun h _ ih b hb=>(QH.mp hb).elim (fun e=>by rw[e];exact⟨_,h,rfl⟩) (ih b))
  (fun _=>bu) (fun _=>bu) (fun _=>bu) (fun _ _ _=>bu) (fun _=>bu) (fun _ _ _=>bu)
  (fun _ _=>bu) (fun _ _ _=>bu) (fun h _ ih b hb=>(QH.mp hb).elim (fun e=>by rw[e];exact⟨_,h,rfl⟩) (ih b)) (fun h _ ih b hb=>(QH.mp hb).elim (fun e=>by rw[e];exact⟨_,h,rfl⟩) (ih b)) (fun _ _ _=>bu) (fun _=>bu) (fun h1 h2 _ _ ih b hb=>(QH.mp hb).elim (fun e=>by rw[e];exact⟨_,h1,rfl⟩) fun hb=>(QH.mp hb).elim (fun e=>by rw[e];exact⟨_,h2,rfl⟩) (ih b))
  bu (fun _ _ i1 i2=>mD i1 i2) bu (fun _ _ i1 i2=>mD i1 i2) h
theorem ai.there{K:W.Frag}{dl:Dl}{H:Hp}{vs:List V}{ts:List T}{F:List Addr}(h:ai K dl H vs ts F):∀ b∈F,cg H b:=h.ind (M:=fun _ _ F=>∀ b∈F,cg H b) bu (fun _ _ _ _ _ _ h _ ih=>mD h.there ih)
def Nd(dl:Dl)(b:Addr):Prop:=∀ p∈dl,b≠p.1/\b≠p.2
def Dls(dl:Dl)(H:Hp):Prop:=∀ p∈dl,mz H p.1 p.2
theorem Dls.nd(D:Dls dl H){b:Addr}{o:HO}(h:H b=some o)(h1:∀ xs,o ≠ .lst xs)(h2:∀ ks,o ≠ .dK ks):Nd dl b:=fun p hp=>by
 obtain⟨s,n,ls,Q⟩:=D p hp;exact⟨jL h Q.hd (h2 _),jL h Q.hl (h1 _)⟩
theorem Dls.nd0(D:Dls dl H){b:Addr}(h:H b=none):Nd dl b:=fun p hp=>by
 obtain⟨s,n,ls,Q⟩:=D p hp;exact⟨(aH Q.hd h).symm,(aH Q.hl h).symm⟩
def NR(o:HO):Prop:=∀ x,o ≠ .room x
structure Evo(dl:Dl)(H H':Hp):Prop where
 k:∀ b o,H b=some o->Nd dl b->NR o->H' b=some o
 d:Dls dl H'
 r:∀ a x,H a=some (.room x)->∃ y,y<=x/\H' a=some (.room y)
theorem NR.of{b:Addr}{o:HO}(h:cg H b)(e:H b=some o):NR o:=fun x z=>by
 obtain⟨_,h,m⟩:=h;rw[e,z]at h;cases h;cases m
theorem Evo.refl(D:Dls dl H):Evo dl H H:=⟨fun _ _ h _ _=>h,D,fun _ x h=>⟨x,RO _,h⟩⟩
variable{H1:Hp}
theorem Evo.trans{H2:Hp}(a:Evo dl H H1)(b:Evo dl H1 H2):Evo dl H H2:=⟨fun c o h n r=>b.k c o (a.k c o h n r) n r,b.d,fun c x h=>let⟨y,hy,e⟩:=a.r c x h;let⟨z,hz,e'⟩:=b.r c y e;⟨z,RU hz hy,e'⟩⟩
theorem Evo.tf(e:Evo dl H H')(D:Dls dl H):TF H H' :=
 ⟨fun a vs h=>e.k a _ h (D.nd h (fun _ z=>nomatch z) fun _ z=>nomatch z) (fun _ z=>nomatch z),fun a o u h=>e.k a _ h (D.nd h (fun _ z=>nomatch z) fun _ z=>nomatch z) (fun _ z=>nomatch z),fun a φ h=>e.k a _ h (D.nd h (fun _ z=>nomatch z) fun _ z=>nomatch z) (fun _ z=>nomatch z),fun a xs h=>(by
  by_cases hn:Nd dl a
  ·exact⟨xs,e.k a _ h hn (fun _ z=>nomatch z)⟩
  ·unfold Nd at hn;obtain⟨p,hp,z⟩:∃ p∈dl,¬(a≠p.1/\a≠p.2):=Classical.byContradiction fun c=>hn fun p hp=>Classical.byContradiction fun z=>c ⟨p,hp,z⟩
   obtain⟨s,n,ls,Q⟩:=D p hp;obtain⟨s',n',ls',Q'⟩:=e.d p hp;have h1:a≠p.1:=jL h Q.hd (fun z=>nomatch z)
   have h2:a=p.2:=Classical.byContradiction fun z'=>z ⟨h1,z'⟩
   exact⟨_,by rw[h2];exact Q'.hl⟩),e.r⟩
theorem Evo.new{p:Addr}{o:HO}(e:Evo dl H H1)(hp:H1 p=none):Evo dl H (upd H1 p o) :=
 ⟨fun c u h n r=>by rw[ah (aH (e.k c u h n r) hp)];exact e.k c u h n r,fun q hq=>(e.d q hq).new hp,fun c x h=>let⟨y,hy,e'⟩:=e.r c x h;⟨y,hy,by rw[ah (aH e' hp)];exact e'⟩⟩
theorem Evo.free(e:Evo dl H H'){p:Addr}(hp:H' p=none):H p=none:=by
 cases q:H p with
 | none=>rfl
 | some o =>
  by_cases hn:NR o
  ·rw[e.k p o q (e.d.nd0 hp) hn]at hp;cases hp
  ·obtain⟨x,hx⟩:∃ x,o = .room x:=Classical.byContradiction fun c=>hn fun x z=>c ⟨x,z⟩
   subst hx;obtain⟨y,_,e'⟩:=e.r p x q;rw[e']at hp;cases hp
structure Rp(K:W.Frag)(dl:Dl)(H:Hp)(v:V)(t:T)(F:List Addr):Prop where
 r:aq K dl H v t F
 n:∀ b∈F,Nd dl b
structure Rps(K:W.Frag)(dl:Dl)(H:Hp)(vs:List V)(ts:List T)(F:List Addr):Prop where
 r:ai K dl H vs ts F
 n:∀ b∈F,Nd dl b
theorem Rp.evo{K:W.Frag}{v:V}{t:T}{F:List Addr}(h:Rp K dl H v t F)(D:Dls dl H)(e:Evo dl H H'):Rp K dl H' v t F :=
 ⟨h.r.cL (e.tf D) (fun _ q=>q) fun b hb o q=>e.k b o q (h.n b hb) (.of (h.r.there b hb) q),h.n⟩
theorem Rps.evo{K:W.Frag}{v:List V}{t:List T}{F:List Addr}(h:Rps K dl H v t F)(D:Dls dl H)(e:Evo dl H H'):Rps K dl H' v t F :=
 ⟨h.r.cL (e.tf D) (fun _ q=>q) fun b hb o q=>e.k b o q (h.n b hb) (.of (h.r.there b hb) q),h.n⟩
inductive Sl where
 | no|o (t:T)|r (t:T)
abbrev Sq:=List Sl
def Sl.get:Sl->Option T
 | .no=>none
 | .o t=>some t
 | .r t=>some t
structure RdR(K:W.Frag)(dl:Dl)(H:Hp)(σ:St)(q:Sq):Prop where
 d:Dls dl H
 g:∀(i:Nat)(x:Sl)(t:T),q[i]? = some x->x.get=some t->∃ v F,σ[i]? = some (some v)/\Rp K dl H v t F
theorem RdR.evo{K:W.Frag}{dl:Dl}{H H':Hp}{σ:St}{q:Sq}(h:RdR K dl H σ q)(e:Evo dl H H'):RdR K dl H' σ q :=
 ⟨e.d,fun i x t h1 h2=>let⟨v,F,h3,h4⟩:=h.g i x t h1 h2;⟨v,F,h3,h4.evo h.d e⟩⟩
abbrev QE:=Sq ->(T->Prop)->Prop
abbrev QT:=Sq ->(Bool->Prop)->Prop
abbrev QA:=Sq ->(List T->Prop)->Prop
def nt(K:W.Frag)(te:TE)(tq:QE):Prop:=∀(dl:Dl)(H:Hp)(σ:St)(q:Sq)(Q:T->Prop)(R:V->Hp->Prop),RdR K dl H σ q->tq q Q ->
 (∀ v t F H',Evo dl H H'->Rp K dl H' v t F->Q t->R v H')->te σ H R
def mw(K:W.Frag)(te:TE)(tq:QE):Prop:=∀(dl:Dl)(H:Hp)(σ:St)(q:Sq)(Q:T->Prop)(R:V->Hp->Prop),RdR K dl H σ q->tq q Q ->
 (∀ v t F H',Evo dl H H'->Rp K dl H' v t F ->(∀ b∈F,H b=none)->F.Nodup->Q t->R v H')->te σ H R
def nq(K:W.Frag)(te:TT)(tq:QT):Prop:=∀(dl:Dl)(H:Hp)(σ:St)(q:Sq)(Q:Bool->Prop)(R:Bool->Hp->Prop),RdR K dl H σ q->tq q Q ->
 (∀ b H',Evo dl H H'->Q b->R b H')->te σ H R
def yz(K:W.Frag)(n:Nat)(te:TA)(tq:QA):Prop:=∀(dl:Dl)(H:Hp)(σ:St)(q:Sq)(Q:List T->Prop)(R:List V->Hp->Prop),RdR K dl H σ q->tq q Q ->
 (∀ vs ts F H',Evo dl H H'->Rps K dl H' vs ts F->vs.length=n->Q ts->R vs H')->te σ H R
def N7(K:W.Frag)(n:Nat)(te:TA)(tq:QA):Prop:=∀(dl:Dl)(H:Hp)(σ:St)(q:Sq)(Q:List T->Prop)(R:List V->Hp->Prop),RdR K dl H σ q->tq q Q ->
 (∀ vs ts F H',Evo dl H H'->Rps K dl H' vs ts F->vs.length=n ->(∀ b∈F,H b=none)->F.Nodup->Q ts->R vs H')->te σ H R
structure QPE(X:Cx)(K:W.Frag)(e:Expr)(te:TE)(tq:QE):Prop where
 h:PE X e te
 s:nt K te tq
structure QPF(X:Cx)(K:W.Frag)(e:Expr)(te:TE)(tq:QE):Prop where
 h:PE X e te
 s:mw K te tq
structure QPT(X:Cx)(K:W.Frag)(e:Expr)(te:TT)(tq:QT):Prop where
 h:PT X e te
 s:nq K te tq
structure QPW(X:Cx)(K:W.Frag)(e:Expr)(te:TT)(tq:QT):Prop where
 h:PW X e te
 s:nq K te tq
structure QPA(X:Cx)(K:W.Frag)(es:List Expr)(te:TA)(tq:QA):Prop where
 h:PA X es te
 s:yz K es.length te tq
structure uA(X:Cx)(K:W.Frag)(es:List Expr)(te:TA)(tq:QA):Prop where
 h:PA X es te
 s:N7 K es.length te tq
variable{x:Str}{op:Operator}
section
variable{X:Cx}{K:W.Frag}{a b c e:Expr}{es rest:List Expr}{ta tb tc te:TE}{qa qb qc qe:QE}{tA tB:TT}{qA qB:QT}{tl:TA}{ql:QA}{pos:Pos}
theorem QPF.w(h:QPF X K e te qe):QPE X K e te qe:=⟨h.h,fun dl H σ q Q R rd hq k=>h.s dl H σ q Q R rd hq fun v t F H' e r _ _ z=>k v t F H' e r z⟩
mutual
def T.im:T->Bool
 | .t xs=>T.ims xs
 | .l _=>false
 | .d _=>false
 | .dp _ _=>false
 | .lp _ _=>false
 | .om _ _ _ _=>false
 | _=>true
def T.ims:List T->Bool
 | []=>true
 | x::r=>x.im&&T.ims r
end
theorem pP{F:List Addr}{x y:Bool}(h:x=true->F = [])(r:y=true->G = [])(q:(x&&y)=true):F++G = []:=by rw[h (QY _ _▸q).1,r (QY _ _▸q).2];rfl
theorem aq.im{dl:Dl}{H:Hp}{v:V}{t:T}{F:List Addr}(h:aq K dl H v t F):t.im=true->F = [] :=
 aq.rec (motive_1:=fun _ t F _=>t.im=true->F = []) (motive_2:=fun _ t F _=>T.ims t=true->F = []) (motive_3:=fun _ _ _ _=>True)
  (fun _=>rfl) (fun _ _=>rfl) (fun _ _=>rfl) (fun _ _=>rfl) (fun _ _=>rfl) (fun _ _ ih=>ih) (fun _ _ _ h=>absurd h QF) (fun _ _ _ h=>absurd h QF)
  (fun _ _=>rfl) (fun _ _=>rfl) (fun _ _=>rfl) (fun _ _ _ _=>rfl) (fun _ _=>rfl) (fun _ _ _ _=>rfl) (fun _ _ _=>rfl) (fun _ _ _ _=>rfl) (fun _ _ _ h=>absurd h QF) (fun _ _ _ h=>absurd h QF) (fun _ _ _ _=>rfl) (fun _ _=>rfl) (fun _ _ _ _ _ h=>absurd h QF) (fun _=>rfl) (fun _ _ i1 i2=>pP i1 i2) trivial (fun _ _ _ _=>trivial) h
theorem ai.im{dl:Dl}{H:Hp}{v:List V}{t:List T}{F:List Addr}(h:ai K dl H v t F):T.ims t=true->F = []:=h.ind (M:=fun _ t F=>T.ims t=true->F = []) (fun _=>rfl) (fun _ _ _ _ _ _ h _ ih=>pP h.im ih)
def qIm(qe:QE):QE:=fun q Q=>qe q fun t=>t.im=true/\Q t
theorem QPE.f(h:QPE X K e te qe):QPF X K e te (qIm qe):=⟨h.h,fun dl H σ q Q R rd hq k=>h.s dl H σ q _ R rd hq fun v t F H' e r ⟨z1,z2⟩=>by
 have f:=r.r.im z1;subst f;exact k v t [] H' e r (fun _ z=>nomatch z) QG z2⟩
def Kd(i:Nat):QE:=fun q Q=>match q[i]? with
 | some (.o t)=>Q t
 | some (.r t)=>Q t
 | _=>False
theorem FT(i:Nat):nt K (di i) (Kd i):=by
 intro dl H σ q Q R rd hq k;unfold Kd at hq
 split at hq
 ·rename_i t e;obtain⟨v,F,h1,h2⟩:=rd.g i _ t e rfl;exact⟨v,h1,k v t F H (.refl rd.d) h2 hq⟩
 ·rename_i t e;obtain⟨v,F,h1,h2⟩:=rd.g i _ t e rfl;exact⟨v,h1,k v t F H (.refl rd.d) h2 hq⟩
 ·exact hq.elim
theorem qv(i:Nat){pos:Pos}(hN:X.N[i]? = some x:=by rfl)(hv:Vis X.env.scope x:=by first|exact Or.inl rfl|exact Or.inr (Or.inl rfl)|exact Or.inr (Or.inr rfl))(hd:(x ==("__debug__":Str))=false:=by decide)
  (hcd:(x ==("__classdict__":Str))=false:=by decide):QPE X K (.Name x pos) (di i) (Kd i):=⟨sS hN hv hd hcd,FT i⟩
def qC(t:T):QE:=fun _ Q=>Q t
theorem uT{v:V}{t:T}(h:∀ dl H,aq K dl H v t []):mw K (tC v) (qC t):=fun dl H σ q Q R rd hq k=>k v t [] H (.refl rd.d) ⟨h dl H,fun _ z=>nomatch z⟩ (fun _ z=>nomatch z) QG hq
theorem dP{i j pos}:QPF X K (.Constant (.int i) j pos) (tC (.int i)) (qC (.i i)):=⟨a7,uT fun _ _=>.i i⟩
theorem rF{b j pos}:QPF X K (.Constant (.bool b) j pos) (tC (.bl b)) (qC (.b b)):=⟨M3,uT fun _ _=>.b b⟩
theorem iI{j pos}:QPF X K (.Constant .none j pos) (tC .non) (qC .n):=⟨KG,uT fun _ _=>.n⟩
theorem aR{x j pos}:QPF X K (.Constant (.str x) j pos) (tC (.str x)) (qC (.s x)):=⟨c5,uT fun _ _=>.s x⟩
theorem ve{y:Int}(hg:Gl X x)(hm:∃ t,X.mg x=some (.int y t))(hd:(x ==("__debug__":Str))=false:=by decide):QPF X K (.Name x pos) (tC (.int y)) (qC (.i y)):=⟨C8 hg hm hd,uT fun _ _=>.i y⟩
theorem kR{dl:Dl}{H:Hp}:∀(ws:List Str),ai K dl H (ws.map V.str) (ws.map T.s) []
 | []=>.nil
 | w::r=>.cons (F:=[]) (.s w) (kR r)
theorem oW{dl:Dl}{H:Hp}:∀(ws:List Int),ai K dl H (ws.map V.int) (ws.map T.i) []
 | []=>.nil
 | w::r=>.cons (F:=[]) (.i w) (oW r)
abbrev Q2:=T->T ->(T->Prop)->Prop
def IA(K:W.Frag)(r:R2)(rq:Q2):Prop:=∀(dl:Dl)(H:Hp)(x y:V)(t u:T)(F G:List Addr)(Q:T->Prop)(R:V->Hp->Prop),Dls dl H->Rp K dl H x t F->Rp K dl H y u G->rq t u Q ->
 (∀ v z F' H',Evo dl H H'->Rp K dl H' v z F'->Q z->R v H')->r x y H R
def eV(K:W.Frag)(r:R2)(rq:Q2):Prop:=∀(dl:Dl)(H:Hp)(x y:V)(t u:T)(F G:List Addr)(Q:T->Prop)(R:V->Hp->Prop),Dls dl H->Rp K dl H x t F->Rp K dl H y u G->rq t u Q ->
 (∀ v z F' H',Evo dl H H'->Rp K dl H' v z F' ->(∀ b∈F',H b=none)->F'.Nodup->Q z->R v H')->r x y H R
variable{rq:Q2}
theorem eV.w{r:R2}(h:eV K r rq):IA K r rq:=fun dl H x y t u F G Q R d a b hq k=>h dl H x y t u F G Q R d a b hq fun v z F' H' e r _ _ z'=>k v z F' H' e r z'
def qOp(rq:Q2)(qa qb:QE):QE:=fun q Q=>qa q fun t=>qb q fun u=>rq t u Q
theorem wJ{r:R2}(ho:IA K r rq)(ha:nt K ta qa)(hb:nt K tb qb):nt K (tOp r ta tb) (qOp rq qa qb):=by
 intro dl H σ q Q R rd hq k;refine ha dl H σ q _ _ rd hq fun v t F H1 e1 r1 hq1=>?_
 refine hb dl H1 σ q _ _ (rd.evo e1) hq1 fun w u G H2 e2 r2 hq2=>?_
 exact ho dl H2 v w t u F G Q R e2.d (r1.evo e1.d e2) r2 hq2 fun v' z F' H3 e3 r3 hz=>k v' z F' H3 ((e1.trans e2).trans e3) r3 hz
theorem yP{r:R2}(ho:eV K r rq)(ha:nt K ta qa)(hb:nt K tb qb):mw K (tOp r ta tb) (qOp rq qa qb):=by
 intro dl H σ q Q R rd hq k;refine ha dl H σ q _ _ rd hq fun v t F H1 e1 r1 hq1=>?_
 refine hb dl H1 σ q _ _ (rd.evo e1) hq1 fun w u G H2 e2 r2 hq2=>?_
 exact ho dl H2 v w t u F G Q R e2.d (r1.evo e1.d e2) r2 hq2 fun v' z F' H3 e3 r3 f3 n3 hz=>k v' z F' H3 ((e1.trans e2).trans e3) r3 (fun b hb=>(e1.trans e2).free (f3 b hb)) n3 hz
theorem mM{r:R2}(ho:OpR X (binaryOp op) r)(hs:eV K r rq)(ha:QPE X K a ta qa)(hb:QPE X K b tb qb):QPF X K (.BinOp a op b pos) (tOp r ta tb) (qOp rq qa qb):=⟨cq ho ha.h hb.h,yP hs ha.s hb.s⟩
end
end L2
namespace L2
open PySem PySem.Spec PyProof.Rows
variable{x:Str}{C:Addr}{ns:List Str}{a:Addr}{ws:List Str}{G:List Addr}
section
variable{X:Cx}{K:W.Frag}{dl:Dl}{H:Hp}{v:V}{F:List Addr}
def Oa(K:W.Frag)(dl:Dl)(H:Hp)(v:V)(F:List Addr):T->Prop
 | .n=>v = .non/\F = []
 | .b x=>v = .bl x/\F = []
 | .i x=>v = .int x/\F = []
 | .s x=>v = .str x/\F = []
 | .ty x=>v = .ty x
 | .t ts=>∃ a vs,v = .ref a/\H a=some (.tup vs)/\ai K dl H vs ts F
 | .l ts=>∃ a vs G,v = .ref a/\F=a::G/\H a=some (.lst vs)/\ai K dl H vs ts G
 | .d ts=>∃ a vs G,v = .ref a/\F=a::G/\H a=some (.dK vs)/\aF K dl H vs ts G
 | .lb=>∃ a l,v = .ref a/\(a,l)∈dl/\F = []
 | .z ns=>∃ a,v = .ref a/\FzL K H a (ns.map V.int)/\F = []
 | .k ws=>∃ a,v = .ref a/\(∀ H',SqT K H' a (ws.map V.str))/\F = []
 | .xc C ns ts=>∃ a b vs,v = .ref a/\F = []/\ExH H a C b (ns.zip vs)/\ai K dl H vs ts []
 | .q=>True
 | .fd _ _ _=>True
 | .rm u=>∃ a x,v = .ref a/\H a=some (.room x)/\x<=u/\F = []
 | .ob C ns ts=>∃ a vs,v = .ref a/\F = []/\ObH H a C (ns.zip vs)/\ai K dl H vs ts []
 | .dp a ts=>∃ vs G,v = .ref a/\F=a::G/\H a=some (.dK vs)/\aF K dl H vs ts G
 | .lp a ts=>∃ vs G,v = .ref a/\F=a::G/\H a=some (.lst vs)/\ai K dl H vs ts G
 | .zl ts=>∃ a o vs,v = .ref a/\F = []/\H a=some (.frz o (.lst vs))/\ai K dl H vs ts []
 | .rf a=>v = .ref a/\F = []
 | .om a C ns ts=>∃ dx vs G,v = .ref a/\F=a::dx::G/\H a=some (.ins C dx (ns.zip vs))/\H dx=some (.own a)/\ns.length=ts.length/\ai K dl H vs ts G
theorem aq.inv{t:T}(h:aq K dl H v t F):Oa K dl H v F t :=
 aq.rec (motive_1:=fun v t F _=>Oa K dl H v F t) (motive_2:=fun _ _ _ _=>True) (motive_3:=fun _ _ _ _=>True) ⟨rfl,rfl⟩ (fun _=>⟨rfl,rfl⟩) (fun _=>⟨rfl,rfl⟩) (fun _=>⟨rfl,rfl⟩) (fun _=>rfl)
  (fun h r _=>⟨_,_,rfl,h,r⟩) (fun h r _=>⟨_,_,_,rfl,rfl,h,r⟩) (fun h r _=>⟨_,_,_,rfl,rfl,h,r⟩) (fun h=>⟨_,_,rfl,h,rfl⟩) (fun h=>⟨_,rfl,h,rfl⟩) (fun _=>trivial) (fun _ _ _=>trivial) (fun h=>⟨_,rfl,h,rfl⟩) (fun h r _=>⟨_,_,_,rfl,rfl,h,r⟩) (fun h hx=>⟨_,_,rfl,h,hx,rfl⟩) (fun h r _=>⟨_,_,rfl,rfl,h,r⟩) (fun h r _=>⟨_,_,rfl,rfl,h,r⟩) (fun h r _=>⟨_,_,rfl,rfl,h,r⟩) (fun h r _=>⟨_,_,_,rfl,rfl,h,r⟩) (fun _=>⟨rfl,rfl⟩) (fun h1 h2 h3 r _=>⟨_,_,_,rfl,rfl,h1,h2,h3,r⟩)
  trivial (fun _ _ _ _=>trivial) trivial (fun _ _ _ _=>trivial) h
theorem aq.int{x:Int}(h:aq K dl H v (.i x) F):v = .int x/\F = []:=h.inv
theorem aq.str(h:aq K dl H v (.s x) F):v = .str x/\F = []:=h.inv
theorem aq.bl{x:Bool}(h:aq K dl H v (.b x) F):v = .bl x/\F = []:=h.inv
theorem aq.non(h:aq K dl H v .n F):v = .non/\F = []:=h.inv
theorem aq.tup{ts:List T}(h:aq K dl H v (.t ts) F):∃ a vs,v = .ref a/\H a=some (.tup vs)/\ai K dl H vs ts F:=h.inv
theorem aq.lst{ts:List T}(h:aq K dl H v (.l ts) F):∃ a vs G,v = .ref a/\F=a::G/\H a=some (.lst vs)/\ai K dl H vs ts G:=h.inv
theorem aq.dic{ts:List (Key×T)}(h:aq K dl H v (.d ts) F):∃ a vs G,v = .ref a/\F=a::G/\H a=some (.dK vs)/\aF K dl H vs ts G:=h.inv
theorem aq.obj{ts:List T}(h:aq K dl H v (.ob C ns ts) F):∃ a vs,v = .ref a/\F = []/\ObH H a C (ns.zip vs)/\ai K dl H vs ts []:=h.inv
theorem aq.dpp{ts:List (Key×T)}(h:aq K dl H v (.dp a ts) F):∃ vs G,v = .ref a/\F=a::G/\H a=some (.dK vs)/\aF K dl H vs ts G:=h.inv
theorem aq.lpp{ts:List T}(h:aq K dl H v (.lp a ts) F):∃ vs G,v = .ref a/\F=a::G/\H a=some (.lst vs)/\ai K dl H vs ts G:=h.inv
theorem aq.zls{ts:List T}(h:aq K dl H v (.zl ts) F):∃ a o vs,v = .ref a/\F = []/\H a=some (.frz o (.lst vs))/\ai K dl H vs ts []:=h.inv
theorem aq.rff(h:aq K dl H v (.rf a) F):v = .ref a/\F = []:=h.inv
theorem aq.omm{ts:List T}(h:aq K dl H v (.om a C ns ts) F):∃ dx vs G,v = .ref a/\F=a::dx::G/\H a=some (.ins C dx (ns.zip vs))/\H dx=some (.own a)/\ns.length=ts.length/\ai K dl H vs ts G:=h.inv
theorem aq.dea(h:aq K dl H v .lb F):∃ a l,v = .ref a/\(a,l)∈dl/\F = []:=h.inv
theorem aq.scr{ns:List Int}(h:aq K dl H v (.z ns) F):∃ a,v = .ref a/\FzL K H a (ns.map V.int)/\F = []:=h.inv
theorem aq.kst(h:aq K dl H v (.k ws) F):∃ a,v = .ref a/\(∀ H',SqT K H' a (ws.map V.str))/\F = []:=h.inv
theorem ai.len{vs:List V}{ts:List T}{F:List Addr}(h:ai K dl H vs ts F):vs.length=ts.length:=h.ind (M:=fun vs ts _=>vs.length=ts.length) rfl fun _ _ _ _ _ _ _ _ ih=>congrArg (· + 1) ih
theorem aF.len{vs:List (Key×V)}{ts:List (Key×T)}{F:List Addr}(h:aF K dl H vs ts F):vs.length=ts.length:=h.ind (M:=fun vs ts _=>vs.length=ts.length) rfl fun _ _ _ _ _ _ _ _ _ ih=>congrArg (· + 1) ih
theorem ai.Lk{vs:List V}{ts:List T}{F:List Addr}{i:Nat}{t:T}(h:ai K dl H vs ts F)(e:ts[i]? = some t):∃ v G,vs[i]? = some v/\aq K dl H v t G/\G.Sublist F :=
 h.ind (M:=fun vs ts F=>∀(i:Nat)(t:T),ts[i]? = some t->∃ v G,vs[i]? = some v/\aq K dl H v t G/\G.Sublist F) (fun _ _ e=>nomatch e) (fun v x vs ts F G h _ ih i t e=>by
  cases i with
  | zero=>cases e;exact⟨v,F,rfl,h,List.sublist_append_left _ _⟩
  | succ i =>
   obtain⟨w,G',h1,h2,h3⟩:=ih i t e;exact⟨w,G',h1,h2,h3.trans (SR _ _)⟩) i t e
theorem ai.get{vs:List V}{ts:List T}{F:List Addr}{i:Nat}{t:T}(h:ai K dl H vs ts F)(e:ts[i]? = some t):∃ v G,vs[i]? = some v/\aq K dl H v t G/\∀ b∈G,b∈F :=
 Exists.elim (h.Lk e) fun v z=>Exists.elim z fun G z=>⟨v,G,z.1,z.2.1,fun _ hb=>z.2.2.subset hb⟩
theorem ai.append{vs ws:List V}{ts us:List T}{F:List Addr}(h:ai K dl H vs ts F)(h2:ai K dl H ws us G):ai K dl H (vs++ws) (ts++us) (F++G) :=
 h.ind (M:=fun vs ts F=>ai K dl H (vs++ws) (ts++us) (F++G)) h2 fun _ _ _ _ _ _ h _ ih=>by rw[RT];exact .cons h ih
theorem ai.i8{vs:List V}{ts:List T}(h:ai K dl H vs ts F):vs = [] ↔ ts = []:=by
 cases h with
 | nil=>simp
 | cons _ _=>simp
theorem ai.drop:∀{vs:List V}{ts:List T}{F:List Addr}(n:Nat),ai K dl H vs ts F->∃ G,ai K dl H (vs.drop n) (ts.drop n) G/\G.Sublist F
 | _,_,F,0,h=>⟨F,h,List.Sublist.refl _⟩
 | _,_,_,_+1,.nil=>⟨[],.nil,List.Sublist.refl _⟩
 | _,_,_,n+1,.cons (F:=F1) h r=>by
  obtain⟨G,h1,h2⟩:=ai.drop n r;exact⟨G,h1,h2.trans (SR _ _)⟩
theorem ai.take:∀{vs:List V}{ts:List T}{F:List Addr}(n:Nat),ai K dl H vs ts F->∃ G,ai K dl H (vs.take n) (ts.take n) G/\G.Sublist F
 | _,_,F,0,h=>⟨[],.nil,List.nil_sublist _⟩
 | _,_,_,_+1,.nil=>⟨[],.nil,List.Sublist.refl _⟩
 | _,_,_,n+1,.cons (F:=F1) h r=>by
  obtain⟨G,h1,h2⟩:=ai.take n r;exact⟨_,.cons h h1,h2.append_left _⟩
theorem Rp.sub{t:T}{F:List Addr}(r:aq K dl H v t G)(n:∀ b∈F,Nd dl b)(h:∀ b∈G,b∈F):Rp K dl H v t G:=⟨r,fun b hb=>n b (h b hb)⟩
theorem Rp.c{t:T}(r:aq K dl H v t []):Rp K dl H v t []:=⟨r,fun _ z=>nomatch z⟩
theorem Rps.tup{vs:List V}{ts:List T}{p:Addr}(h:Rps K dl H vs ts F)(D:Dls dl H)(hp:H p=none):Rp K dl (upd H p (.tup vs)) (.ref p) (.t ts) F :=
 have h2:=h.evo D ((Evo.refl D).new (o:=.tup vs) hp)
 ⟨.t ar h2.r,h2.n⟩
theorem Rps.lst{vs:List V}{ts:List T}{p:Addr}(h:Rps K dl H vs ts F)(D:Dls dl H)(hp:H p=none):Rp K dl (upd H p (.lst vs)) (.ref p) (.l ts) (p::F) :=
 have h2:=h.evo D ((Evo.refl D).new (o:=.lst vs) hp)
 ⟨.l ar h2.r,fun b hb=>by
  rcases QH.mp hb with e|hb
  ·rw[e];exact D.nd0 hp
  ·exact h2.n b hb⟩
theorem Rps.fresh{vs:List V}{ts:List T}{p:Addr}(h:Rps K dl H vs ts F)(hp:H p=none)(hn:F.Nodup):(p::F).Nodup:=Q5.mpr ⟨fun z=>(h.r.there p z).no hp,hn⟩
def qII(C:Int->Int->Prop)(g:Int->Int->T):Q2:=fun t u Q=>match t,u with
 | .i a,.i b=>C a b/\Q (g a b)
 | _,_=>False
theorem Ck{C:Int->Int->Prop}{g:Int->Int->V}{g':Int->Int->T}(hg:∀ a b dl H,aq K dl H (g a b) (g' a b) []):eV K (rI C g) (qII C g'):=by
 intro dl H x y t u F G Q R D r1 r2 hq k;unfold qII at hq
 split at hq
 ·obtain⟨rfl,rfl⟩:=r1.r.int;obtain⟨rfl,rfl⟩:=r2.r.int;exact⟨_,_,rfl,rfl,hq.1,k _ _ [] H (.refl D) (.c (hg _ _ _ _)) (fun _ z=>nomatch z) QG hq.2⟩
 ·exact hq.elim
def qI0(g:Int->Int->T):Q2:=fun t u Q=>match t,u with
 | .i a,.i b=>Q (g a b)
 | _,_=>False
theorem wO{g:Int->Int->V}{g':Int->Int->T}(hg:∀ a b dl H,aq K dl H (g a b) (g' a b) []):eV K (rI0 g) (qI0 g'):=by
 intro dl H x y t u F G Q R D r1 r2 hq k;unfold qI0 at hq
 split at hq
 ·obtain⟨rfl,rfl⟩:=r1.r.int;obtain⟨rfl,rfl⟩:=r2.r.int;exact⟨_,_,rfl,rfl,k _ _ [] H (.refl D) (.c (hg _ _ _ _)) (fun _ z=>nomatch z) QG hq⟩
 ·exact hq.elim
theorem G4:OpR X (binaryOp .Add) (fun x y H Q=>∃ a b xs ys,x = .ref a/\y = .ref b/\SqT X.K H a xs/\SqT X.K H b ys/\xs.length+ys.length<=QD /\
  (xs = []->Q (.ref b) H)/\(xs ≠ []->ys = []->Q (.ref a) H)/\(xs ≠ []->ys ≠ []->∀ p,H p=none->Q (.ref p) (upd H p (.tup (xs++ys))))):=by
 intro j0 s σ H x y v u Q I rx ry h;obtain⟨a,b,xs,ys,rfl,rfl,ha,hb,hz,q0,q1,q2⟩:=h;by_cases hx:xs = []
 ·cases rx;cases ry;obtain⟨its,r1,p1,_⟩:=I.tuple ha;obtain⟨bK,r2,p2,_⟩:=I.tuple hb;have e:its = []:=r1.i8.mpr hx;subst e;obtain⟨⟨cls,dd,data,sl⟩,ho,hc,n,hd⟩:=id p1;obtain⟨⟨Qn,dd2,data2,sl2⟩,ho2,hc2,n2,hd2⟩:=id p2;simp only at hc hd hc2 hd2;subst hc hd hc2 hd2;exact concat_meets ⟨_,ho,rfl⟩ ⟨_,ho2,rfl⟩ noFill_tuple_add seq_tuple_add PySem.F.slot_tuple_add PySem.F.entry_tuple_add (PySem.F.args_tuple_add_2 _ _)
   (tuple_addW0 a b ([]:List Value).toArray bK.toArray n n2 dd dd2 sl sl2 (by simp)) ⟨ho,ho2,⟨.ref b,H,I,rfl,q0 hx⟩⟩
 ·exact G5 j0 s σ H _ _ v u Q I rx ry ⟨a,b,xs,ys,rfl,rfl,ha,hb,hx,hz,q1 hx,q2 hx⟩
def CC(K:W.Frag):R2:=fun x y H Q=>rI0 (fun i j=>.int (i+j)) x y H Q\/(∃ i j,x = .str i/\y = .str j/\i.length+j.length<=QD/\Q (.str (i++j)) H)\/Mu x y H Q \/
 (∃ a b xs ys,x = .ref a/\y = .ref b/\SqT K H a xs/\SqT K H b ys/\xs.length+ys.length<=QD /\
  (xs = []->Q (.ref b) H)/\(xs ≠ []->ys = []->Q (.ref a) H)/\(xs ≠ []->ys ≠ []->∀ p,H p=none->Q (.ref p) (upd H p (.tup (xs++ys)))))
theorem G6(hK:X.K=K):OpR X (binaryOp .Add) (CC K):=by subst hK;exact mT.or (xv.or (KL.or G4))
def Kk:Q2:=fun t u Q=>match t,u with
 | .i a,.i b=>Q (.i (a+b))
 | .s a,.s b=>a.length+b.length<=QD/\Q (.s (a++b))
 | .l a,.l b=>a.length+b.length<=QD/\T.ims a=true/\T.ims b=true/\Q (.l (a++b))
 | .t a,.t b=>a.length+b.length<=QD/\T.ims a=true/\T.ims b=true/\Q (.t (a++b))
 | _,_=>False
theorem F4:eV K (CC K) Kk:=by
 intro dl H x y t u F G Q R D r1 r2 hq k;have no:∀ b:Addr,b∈([]:List Addr)->H b=none:=fun _ z=>nomatch z
 unfold Kk at hq
 split at hq
 ·obtain⟨rfl,rfl⟩:=r1.r.int;obtain⟨rfl,rfl⟩:=r2.r.int;exact .inl ⟨_,_,rfl,rfl,k _ _ [] H (.refl D) (.c (.i _)) no QG hq⟩
 ·obtain⟨rfl,rfl⟩:=r1.r.str;obtain⟨rfl,rfl⟩:=r2.r.str;exact .inr (.inl ⟨_,_,rfl,rfl,hq.1,k _ _ [] H (.refl D) (.c (.s _)) no QG hq.2⟩)
 ·obtain⟨a,vs,F1,rfl,rfl,h1,s1⟩:=r1.r.lst;obtain⟨b,ws,G1,rfl,rfl,h2,s2⟩:=r2.r.lst;obtain rfl:=s1.im hq.2.1;obtain rfl:=s2.im hq.2.2.1;refine .inr (.inr (.inl ⟨a,b,vs,ws,rfl,rfl,h1,h2,by rw[s1.len,s2.len];exact hq.1,fun p hp=>?_⟩))
  have rs:Rps K dl H (vs++ws) _ ([] ++ []):=⟨s1.append s2,fun c hc=>nomatch hc⟩
  exact k _ _ _ _ ((Evo.refl D).new hp) (rs.lst D hp) (fun b hb=>by rw[Es.mp hb];exact hp) (by simp) hq.2.2.2
 ·obtain⟨a,vs,rfl,h1,s1⟩:=r1.r.tup;obtain⟨b,ws,rfl,h2,s2⟩:=r2.r.tup;obtain rfl:=s1.im hq.2.1;obtain rfl:=s2.im hq.2.2.1;refine .inr (.inr (.inr ⟨a,b,vs,ws,rfl,rfl,SqT.of h1,SqT.of h2,by rw[s1.len,s2.len];exact hq.1,fun e=>?_,fun e1 e2=>?_,fun _ _ p hp=>?_⟩))
  ·refine k _ _ [] H (.refl D) r2 no QG ?_;have z:=s1.i8.mp e;subst z;exact hq.2.2.2
  ·refine k _ _ [] H (.refl D) r1 no QG ?_;have z:=s2.i8.mp e2;subst z;have hq2:=hq.2.2.2;rw[Q6]at hq2;exact hq2
  ·have rs:Rps K dl H (vs++ws) _ ([] ++ []):=⟨s1.append s2,fun c hc=>nomatch hc⟩
   exact k _ _ _ _ ((Evo.refl D).new hp) (rs.tup D hp) no QG hq.2.2.2
 ·exact hq.elim
def Kf:Q2:=fun t u Q=>match t,u with
 | .i a,.i b=>yE a b/\Q (.i (a*b))
 | .s a,.i b=>0<=b/\b<=1000/\a.length<=1000/\Q (.s (jB a b.toNat))
 | _,_=>False
def Cz:R2:=fun x y H Q=>rI yE (fun i j=>.int (i*j)) x y H Q\/(∃ z n,x = .str z/\y = .int n/\0<=n/\n<=1000/\z.length<=1000/\Q (.str (jB z n.toNat)) H)
theorem G3:OpR X (binaryOp .Mult) Cz:=kY.or xr
theorem FX:eV K Cz Kf:=by
 intro dl H x y t u F G Q R D r1 r2 hq k;unfold Kf at hq
 split at hq
 ·obtain⟨rfl,rfl⟩:=r1.r.int;obtain⟨rfl,rfl⟩:=r2.r.int;exact .inl ⟨_,_,rfl,rfl,hq.1,k _ _ [] H (.refl D) (.c (.i _)) (fun _ z=>nomatch z) QG hq.2⟩
 ·obtain⟨rfl,rfl⟩:=r1.r.str;obtain⟨rfl,rfl⟩:=r2.r.int;exact .inr ⟨_,_,rfl,rfl,hq.1,hq.2.1,hq.2.2.1,k _ _ [] H (.refl D) (.c (.s _)) (fun _ z=>nomatch z) QG hq.2.2.2⟩
 ·exact hq.elim
end
section
variable{X:Cx}{K:W.Frag}{a b:Expr}{ta tb:TE}{qa qb:QE}{pos:Pos}
theorem bf(ha:QPE X K a ta qa)(hb:QPE X K b tb qb)(hK:X.K=K:=by rfl):QPF X K (.BinOp a .Add b pos) (tOp (CC K) ta tb) (qOp Kk qa qb):=mM (G6 hK) F4 ha hb
theorem oZ(ha:QPE X K a ta qa)(hb:QPE X K b tb qb):QPF X K (.BinOp a .Sub b pos) (tOp (rI0 fun i j=>.int (i - j)) ta tb) (qOp (qI0 fun i j=>.i (i - j)) qa qb):=mM Dd (wO fun _ _ _ _=>.i _) ha hb
theorem mP(ha:QPE X K a ta qa)(hb:QPE X K b tb qb):QPF X K (.BinOp a .Mult b pos) (tOp Cz ta tb) (qOp Kf qa qb):=mM G3 FX ha hb
theorem CK(ha:QPE X K a ta qa)(hb:QPE X K b tb qb):QPF X K (.BinOp a .Mod b pos) (tOp (rI (fun _ j=>0<j) fun i j=>.int (i % j)) ta tb) (qOp (qII (fun _ j=>0<j) fun i j=>.i (i % j)) qa qb):=mM iZ (Ck fun _ _ _ _=>.i _) ha hb
theorem Gy(ha:QPE X K a ta qa)(hb:QPE X K b tb qb):QPF X K (.BinOp a .FloorDiv b pos) (tOp (rI EU fun i j=>.int (i / j)) ta tb) (qOp (qII EU fun i j=>.i (i / j)) qa qb):=mM vp (Ck fun _ _ _ _=>.i _) ha hb
theorem Ka(ha:QPE X K a ta qa)(hb:QPE X K b tb qb):QPF X K (.BinOp a .Pow b pos) (tOp (rI LN fun i j=>.int (i ^ j.toNat)) ta tb) (qOp (qII LN fun i j=>.i (i ^ j.toNat)) qa qb):=mM De (Ck fun _ _ _ _=>.i _) ha hb
end
variable{rq:Q2}{j:Nat}
section
variable{X:Cx}{K:W.Frag}{a b c e:Expr}{es rest:List Expr}{ta tb tc te:TE}{qa qb qc qe:QE}{tA tB:TT}{qA qB:QT}{tl:TA}{ql:QA}{pos:Pos}
def T.v:T->V
 | .n=>.non | .b x=>.bl x | .i x=>.int x | .s x=>.str x | _=>.ty ""
def T.fl:T->Bool
 | .n=>true | .b _=>true | .i _=>true | .s _=>true | _=>false
theorem aq.v{dl:Dl}{H:Hp}{v:V}{t:T}{F:List Addr}(h:aq K dl H v t F)(f:t.fl=true):v=t.v/\F = []:=by
 cases h <;> first|exact⟨rfl,rfl⟩|exact absurd (show false=true from f) QF
def qEq:Q2:=fun t u Q=>(t.fl&&u.fl&&F6 t.v u.v)=true/\Q (.b (decide (t.v=u.v)))
def qNe:Q2:=fun t u Q=>(t.fl&&u.fl&&F6 t.v u.v)=true/\Q (.b (!decide (t.v=u.v)))
theorem JZ:eV K rEq qEq:=by
 intro dl H x y t u F G Q R D r1 r2 hq k;obtain⟨h,hq⟩:=hq;rw[QY,QY]at h;obtain⟨rfl,rfl⟩:=r1.r.v h.1.1;obtain⟨rfl,rfl⟩:=r2.r.v h.1.2;exact⟨h.2,k _ _ [] H (.refl D) (.c (.b _)) (fun _ z=>nomatch z) QG hq⟩
theorem wK:eV K rNe qNe:=by
 intro dl H x y t u F G Q R D r1 r2 hq k;obtain⟨h,hq⟩:=hq;rw[QY,QY]at h;obtain⟨rfl,rfl⟩:=r1.r.v h.1.1;obtain⟨rfl,rfl⟩:=r2.r.v h.1.2;exact⟨h.2,k _ _ [] H (.refl D) (.c (.b _)) (fun _ z=>nomatch z) QG hq⟩
def GB(neg:Bool):Q2:=fun t u Q=>match u with
 | .n=>Q (.b (match t with | .n=>!neg | _=>neg))
 | _=>False
theorem oo:eV K (fun x y H Q=>y = .non/\Q (.bl (decide (x = .non))) H) (GB false):=by
 intro dl H x y t u F G Q R D r1 r2 hq k;unfold GB at hq
 split at hq
 ·obtain⟨rfl,rfl⟩:=r2.r.non;refine⟨rfl,k _ _ [] H (.refl D) (.c (.b _)) (fun _ z=>nomatch z) QG ?_⟩
  cases r1.r <;> exact hq
 ·exact hq.elim
theorem Ce:eV K (fun x y H Q=>y = .non/\Q (.bl (!decide (x = .non))) H) (GB true):=by
 intro dl H x y t u F G Q R D r1 r2 hq k;unfold GB at hq
 split at hq
 ·obtain⟨rfl,rfl⟩:=r2.r.non;refine⟨rfl,k _ _ [] H (.refl D) (.c (.b _)) (fun _ z=>nomatch z) QG ?_⟩
  cases r1.r <;> exact hq
 ·exact hq.elim
def inT(x:T)(xs:List T):Bool:=xs.any fun y=>eqV y.v x.v
def fls(xs:List T):Bool:=xs.all T.fl
theorem ai.vs{dl:Dl}{H:Hp}{vs:List V}{ts:List T}{F:List Addr}(h:ai K dl H vs ts F):fls ts=true->vs=ts.map T.v/\F = [] :=
 h.ind (M:=fun vs ts F=>fls ts=true->vs=ts.map T.v/\F = []) (fun _=>⟨rfl,rfl⟩) fun _ _ _ _ _ _ h _ ih f=>by
  have f:(_&&_)=true:=f;rw[QY]at f;obtain⟨rfl,rfl⟩:=h.v f.1;obtain⟨rfl,rfl⟩:=ih f.2;exact⟨rfl,rfl⟩
theorem pU{ts:List T}(f:fls ts=true):(ts.map T.v).all gK=true:=by
 rw[RG];intro x hx;obtain⟨t,ht,rfl⟩:=RJ.mp hx
 have:=RG.mp f t ht
 cases t <;> first|rfl|exact absurd this QF
theorem HQ{t:T}(f:t.fl=true):gK t.v=true:=by cases t <;> first|rfl|exact absurd f QF
def Gf(K:W.Frag)(neg:Bool):R2:=fun x y H Q=>rIn K neg x y H Q\/∃ i j,x = .str i/\y = .str j/\Q (.bl (if neg then !(!(Builtin.Str.occurrences j i 0 j.length 1).isEmpty)else !(Builtin.Str.occurrences j i 0 j.length 1).isEmpty)) H
theorem xu(hK:X.K=K):OpR X (compareOp .In) (Gf K false):=by subst hK;exact Aw.or Av
theorem Au(hK:X.K=K):OpR X (compareOp .NotIn) (Gf K true):=by subst hK;exact tI.or tH
def qIn(neg:Bool):Q2:=fun t u Q=>match u with
 | .l xs=>(t.fl&&fls xs)=true/\Q (.b (if neg then !inT t xs else inT t xs))
 | .t xs=>(t.fl&&fls xs)=true/\Q (.b (if neg then !inT t xs else inT t xs))
 | .k ws=>match t with
  | .s y=>Q (.b (if neg then !inT (.s y) (ws.map T.s)else inT (.s y) (ws.map T.s)))
  | _=>False
 | .s z=>match t with
  | .s y=>Q (.b (if neg then !(!(Builtin.Str.occurrences z y 0 z.length 1).isEmpty)else !(Builtin.Str.occurrences z y 0 z.length 1).isEmpty))
  | _=>False
 | _=>False
theorem sk{neg:Bool}:eV K (Gf K neg) (qIn neg):=by
 intro dl H x y t u F G Q R D r1 r2 hq k;have go:∀(xs:List T)(p:Addr)(vs:List V),y = .ref p ->(SqL K H p vs\/SqT K H p vs) ->(∃ G,ai K dl H vs xs G) ->(t.fl&&fls xs)=true/\Q (.b (if neg then !inT t xs else inT t xs))->Gf K neg x y H R:=by
  rintro xs p vs rfl hs ⟨G,rs⟩ ⟨f,hq⟩
  rw[QY]at f;obtain⟨rfl,rfl⟩:=r1.r.v f.1;obtain⟨rfl,_⟩:=rs.vs f.2;refine .inl ⟨p,_,rfl,hs,HQ f.1,pU f.2,k _ (.b _) [] H (.refl D) (.c (.b _)) (fun _ z=>nomatch z) QG ?_⟩
  have e:inV t.v (xs.map T.v)=inT t xs:=by unfold inV inT;rw[Ts];rfl
  rw[e];exact hq
 unfold qIn at hq
 split at hq
 ·obtain⟨p,vs,G,rfl,_,h1,h2⟩:=r2.r.lst;exact go _ p vs rfl (.inl (SqL.of h1)) ⟨_,h2⟩ hq
 ·obtain⟨p,vs,rfl,h1,h2⟩:=r2.r.tup;exact go _ p vs rfl (.inr (SqT.of h1)) ⟨_,h2⟩ hq
 ·split at hq
  ·obtain⟨p,rfl,h1,_⟩:=r2.r.kst;refine go _ p _ rfl (.inr (h1 H)) ⟨_,kR _⟩ ⟨?_,hq⟩;rw[QY];refine⟨rfl,?_⟩;unfold fls;rw[List.all_map,RG];exact fun _ _=>rfl
  ·exact hq.elim
 ·split at hq
  ·obtain⟨rfl,rfl⟩:=r1.r.str;obtain⟨rfl,rfl⟩:=r2.r.str;exact .inr ⟨_,_,rfl,rfl,k _ _ [] H (.refl D) (.c (.b _)) (fun _ z=>nomatch z) QG hq⟩
  ·exact hq.elim
 ·exact hq.elim
theorem mR{op:CmpOp}{r:R2}(ho:OpR X (compareOp op) r)(hs:eV K r rq)(hm:behindInMarks op b=false)(ha:QPE X K a ta qa)(hb:QPE X K b tb qb):QPF X K (.Compare a [op] [b] pos) (tOp r ta tb) (qOp rq qa qb) :=
 ⟨GY ho ha.h hb.h hm,yP hs ha.s hb.s⟩
def CM(qe:QE):QT:=fun q Q=>qe q fun t=>match t with
 | .b x=>Q x
 | _=>False
theorem Cc(h:nt K te qe):nq K (yI te) (CM qe):=by
 intro dl H σ q Q R rd hq k;refine h dl H σ q _ _ rd hq fun v t F H' e r hz=>?_
 split at hz
 ·obtain⟨rfl,rfl⟩:=r.r.bl;exact⟨_,rfl,k _ H' e hz⟩
 ·exact hz.elim
theorem cX{op:CmpOp}{r:R2}(ho:OpR X (compareOp op) r)(hs:eV K r rq)(hm:behindInMarks op b=false)(ha:QPE X K a ta qa)(hb:QPE X K b tb qb):QPT X K (.Compare a [op] [b] pos) (yI (tOp r ta tb)) (CM (qOp rq qa qb)) :=
 ⟨lY ho ha.h hb.h hm,Cc (wJ hs.w ha.s hb.s)⟩
def My(qe:QE):QT:=fun q Q=>qe q fun t=>match t with
 | .b x=>Q x
 | .n=>Q false
 | .i x=>Q (x != 0)
 | .s x=>x.length<=QD/\Q ((x.length:Int) != 0)
 | .l xs=>Q (!xs.isEmpty)
 | .t xs=>Q (!xs.isEmpty)
 | .d xs=>Q (!xs.isEmpty)
 | _=>False
theorem FV(h:nt K te qe):nq K (fun σ H Q=>te σ H fun x H'=>∃ k,Iz K x H' k/\Q k H') (My qe):=by
 intro dl H σ q Q R rd hq k;refine h dl H σ q _ _ rd hq fun v t F H' e r hz=>?_
 have emp:∀{α β:Type}{xs:List α}{ys:List β},xs.length=ys.length ->(!xs.isEmpty) = !ys.isEmpty:=fun{α β xs ys} h=>by
  cases xs <;> cases ys <;> first|rfl |(simp at h)
 split at hz
 ·obtain⟨rfl,rfl⟩:=r.r.bl;exact⟨_,rfl,k _ H' e hz⟩
 ·obtain⟨rfl,rfl⟩:=r.r.non;exact⟨_,rfl,k _ H' e hz⟩
 ·obtain⟨rfl,rfl⟩:=r.r.int;exact⟨_,rfl,k _ H' e hz⟩
 ·obtain⟨rfl,rfl⟩:=r.r.str;exact⟨_,⟨hz.1,rfl⟩,k _ H' e hz.2⟩
 ·obtain⟨p,vs,G,rfl,_,h1,h2⟩:=r.r.lst;exact⟨_,.inl ⟨vs,SqL.of h1,rfl⟩,k _ H' e (by rw[emp h2.len];exact hz)⟩
 ·obtain⟨p,vs,rfl,h1,h2⟩:=r.r.tup;exact⟨_,.inr (.inl ⟨vs,SqT.of h1,rfl⟩),k _ H' e (by rw[emp h2.len];exact hz)⟩
 ·obtain⟨p,vs,G,rfl,_,h1,h2⟩:=r.r.dic;exact⟨_,.inr (.inr ⟨vs,h1,rfl⟩),k _ H' e (by rw[emp h2.len];exact hz)⟩
 ·exact hz.elim
theorem lS(h:QPE X K e te qe)(he:∀ whole,isTrue e X.env whole =(do let v <- whole;standAt e.pos;holding [v] (truthy v)):=by intro _;rfl)(hK:X.K=K:=by rfl) :
  QPT X K e (fun σ H Q=>te σ H fun x H'=>∃ k,Iz K x H' k/\Q k H') (My qe):=⟨by subst hK;exact CU h.h he,FV h.s⟩
def MP(t u:QT):QT:=fun q Q=>t q fun c=>if c=true then u q Q else Q false
def qOr(t u:QT):QT:=fun q Q=>t q fun c=>if c=true then Q true else u q Q
theorem FZ(h:nq K tA qA)(h2:nq K tB qB):nq K (FJ tA tB) (MP qA qB):=fun dl H σ q Q R rd hq k=>h dl H σ q _ _ rd hq fun b H' e hz=>by
 cases b with
 | false=>exact k _ H' e hz
 | true=>exact h2 dl H' σ q Q R (rd.evo e) hz fun c H2 e2 z=>k c H2 (e.trans e2) z
theorem JX(h:nq K tA qA)(h2:nq K tB qB):nq K (tOr tA tB) (qOr qA qB):=fun dl H σ q Q R rd hq k=>h dl H σ q _ _ rd hq fun b H' e hz=>by
 cases b with
 | true=>exact k _ H' e hz
 | false=>exact h2 dl H' σ q Q R (rd.evo e) hz fun c H2 e2 z=>k c H2 (e.trans e2) z
theorem ou(h:QPT X K a tA qA):QPW X K (.BoolOp .And [a] pos) tA qA:=⟨sP h.h,h.s⟩
theorem CG(h:QPT X K a tA qA):QPW X K (.BoolOp .Or [a] pos) tA qA:=⟨Kl h.h,h.s⟩
theorem sH(h:QPT X K a tA qA)(h2:QPW X K (.BoolOp .And (b::rest) pos) tB qB):QPW X K (.BoolOp .And (a::b::rest) pos) (FJ tA tB) (MP qA qB):=⟨xf h.h h2.h,FZ h.s h2.s⟩
theorem IS(h:QPT X K a tA qA)(h2:QPW X K (.BoolOp .Or (b::rest) pos) tB qB):QPW X K (.BoolOp .Or (a::b::rest) pos) (tOr tA tB) (qOr qA qB):=⟨MQ h.h h2.h,JX h.s h2.s⟩
theorem QPW.pt(h:QPW X K e tA qA):QPT X K e tA qA:=⟨h.h.pt,h.s⟩
def qIf(t:QT)(qa qb:QE):QE:=fun q Q=>t q fun c=>if c=true then qa q Q else qb q Q
theorem IW(hc:QPT X K c tA qA)(ha:QPF X K a ta qa)(hb:QPF X K b tb qb):QPF X K (.IfExp c a b pos) (tIf tA ta tb) (qIf qA qa qb):=⟨C7 hc.h ha.h hb.h,fun dl H σ q Q R rd hq k=>hc.s dl H σ q _ _ rd hq fun d H' e hz=>by
 cases d with
 | true=>exact ha.s dl H' σ q Q R (rd.evo e) hz fun w u G H2 e2 r2 f2 n2 z=>k w u G H2 (e.trans e2) r2 (fun b hb=>e.free (f2 b hb)) n2 z
 | false=>exact hb.s dl H' σ q Q R (rd.evo e) hz fun w u G H2 e2 r2 f2 n2 z=>k w u G H2 (e.trans e2) r2 (fun b hb=>e.free (f2 b hb)) n2 z⟩
theorem mO(ha:QPE X K a ta qa):QPF X K (.UnaryOp .USub a pos) (tUn (rU fun i=>.int (-i)) ta) (fun q Q=>qa q fun t=>match t with | .i x=>Q (.i (-x)) | _=>False):=⟨C5 wz ha.h,fun dl H σ q Q R rd hq k=>ha.s dl H σ q _ _ rd hq fun v t F H' e r hz=>by
 split at hz
 ·obtain⟨rfl,rfl⟩:=r.r.int;exact⟨_,rfl,k _ _ [] H' e (.c (.i _)) (fun _ z=>nomatch z) QG hz⟩
 ·exact hz.elim⟩
def MC:QA:=fun _ Q=>Q []
def Jc(qa:QE)(ql:QA):QA:=fun q Q=>qa q fun t=>ql q fun ts=>Q (t::ts)
theorem aw:uA X K [] jq MC:=⟨h8,fun dl H σ q Q R rd hq k=>k [] [] [] H (.refl rd.d) ⟨.nil,fun _ z=>nomatch z⟩ rfl (fun _ z=>nomatch z) QG hq⟩
theorem uA.w(h:uA X K es tl ql):QPA X K es tl ql:=⟨h.h,fun dl H σ q Q R rd hq k=>h.s dl H σ q Q R rd hq fun vs ts F H' e r l _ _ z=>k vs ts F H' e r l z⟩
theorem Rps.cons{dl:Dl}{H:Hp}{v:V}{t:T}{vs:List V}{ts:List T}{F G:List Addr}(h:Rp K dl H v t F)(r:Rps K dl H vs ts G):Rps K dl H (v::vs) (t::ts) (F++G):=⟨.cons h.r r.r,fun b hb=>(Q7.mp hb).elim (h.n b) (r.n b)⟩
theorem ae(ha:QPE X K e te qe)(hr:QPA X K es tl ql)(hs:L9 (e::es) X.env =(false,eval e X.env)::L9 es X.env:=by rfl):QPA X K (e::es) (il te tl) (Jc qe ql) :=
 ⟨cC ha.h hr.h hs,fun dl H σ q Q R rd hq k=>ha.s dl H σ q _ _ rd hq fun v t F H1 e1 r1 hz=>hr.s dl H1 σ q _ _ (rd.evo e1) hz fun vs ts G H2 e2 r2 l2 z=>k _ _ _ H2 (e1.trans e2) (.cons (r1.evo e1.d e2) r2) (by simp[l2]) z⟩
theorem ag(ha:QPF X K e te qe)(hr:uA X K es tl ql)(hs:L9 (e::es) X.env =(false,eval e X.env)::L9 es X.env:=by rfl):uA X K (e::es) (il te tl) (Jc qe ql) :=
 ⟨cC ha.h hr.h hs,fun dl H σ q Q R rd hq k=>ha.s dl H σ q _ _ rd hq fun v t F H1 e1 r1 f1 n1 hz=>hr.s dl H1 σ q _ _ (rd.evo e1) hz fun vs ts G H2 e2 r2 l2 f2 n2 z =>
  k _ _ _ H2 (e1.trans e2) (.cons (r1.evo e1.d e2) r2) (by simp[l2]) (fun b hb=>(Q7.mp hb).elim (f1 b) fun hb=>e1.free (f2 b hb)) (Rm.mpr ⟨n1,n2,fun x hx y hy exy=>by
   subst exy;exact(r1.r.there x hx).no (f2 x hy)⟩) z⟩
def Ph(ql:QA):QE:=fun q Q=>ql q fun ts=>Q (.t ts)
def Pm(ql:QA):QE:=fun q Q=>ql q fun ts=>Q (.l ts)
theorem aI{x1}(h:uA X K es tl ql)(hz:es.length<=1000:=by decide):QPF X K (.Tuple es x1 pos) (L0 tl) (Ph ql):=⟨KD h.h,fun dl H σ q Q R rd hq k=>h.s dl H σ q _ _ rd hq fun vs ts F H1 e1 r1 l1 f1 n1 z =>
 ⟨RB (de (by omega)),fun p hp=>k _ _ F _ (e1.new hp) (r1.tup e1.d hp) f1 n1 z⟩⟩
theorem a5(h:uA X K es tl ql)(hz:es.length<=1000:=by decide):QPF X K (.List es pos) (L3 tl) (Pm ql):=⟨KH h.h,fun dl H σ q Q R rd hq k=>h.s dl H σ q _ _ rd hq fun vs ts F H1 e1 r1 l1 f1 n1 z =>
 ⟨RB (de (by omega)),fun p hp=>k _ _ (p::F) _ (e1.new hp) (r1.lst e1.d hp) (fun b hb=>by
  rcases QH.mp hb with e|hb
  ·rw[e];exact e1.free hp
  ·exact f1 b hb) (r1.fresh hp n1) z⟩⟩
theorem iJ(h:strsOf es=some ws)(hl:es.length=ws.length:=by rfl):uA X K es (fun _ H Q=>Q (ws.map V.str) H) (fun _ Q=>Q (ws.map T.s)) :=
 ⟨zd h,fun dl H σ q Q R rd hq k=>k _ _ [] H (.refl rd.d) ⟨kR ws,fun _ z=>nomatch z⟩ (by rw[QR];exact hl.symm) (fun _ z=>nomatch z) QG hq⟩
def qIx:Q2:=fun t u Q=>match u with
 | .i k=>match t with
  | .l xs=>∃ x,atI xs k=some x/\Q x
  | .t xs=>∃ x,atI xs k=some x/\Q x
  | .z ns=>∃ x,atI ns k=some x/\Q (.i x)
  | .zl xs=>∃ x,atI xs k=some x/\Q x
  | .s z=>z.length<=QD/\∃ c,atI z.cps.toList k=some c/\Q (.s ⟨#[c]⟩)
  | _=>False
 | _=>False
theorem mr{α β:Type}{xs:List α}{ys:List β}{k:Int}{x:α}(h:atI xs k=some x)(hl:xs.length=ys.length):∃ j:Nat,xs[j]? = some x/\ixN ys.length k=some j:=by
 unfold atI at h;cases e:ixN xs.length k with
 | none=>rw[e]at h;cases h
 | some j=>rw[e]at h;exact⟨j,h,by rw[<- hl];exact e⟩
theorem nj{α:Type}{xs:List α}{k:Int}{x:α}(h:ixN xs.length k=some j)(hx:xs[j]? = some x):atI xs k=some x:=by unfold atI;rw[h];exact hx
theorem JY:IA K (rIx K) qIx:=by
 intro dl H x y t u F G Q R D r1 r2 hq k;unfold qIx at hq
 split at hq
 ·rename_i k0;obtain⟨rfl,rfl⟩:=r2.r.int
  split at hq
  ·obtain⟨p,vs,G,rfl,rfl,h1,h2⟩:=r1.r.lst;obtain⟨z,hz,hq⟩:=hq;obtain⟨j,hj,hi⟩:=mr hz h2.len.symm;obtain⟨v,G',hv,rv,hs⟩:=h2.get hj;exact .inl ⟨p,vs,k0,v,rfl,rfl,SqL.of h1,nj hi hv,k v z G' H (.refl D) (Rp.sub rv r1.n fun b hb=>j5 _ (hs b hb)) hq⟩
  ·obtain⟨p,vs,rfl,h1,h2⟩:=r1.r.tup;obtain⟨z,hz,hq⟩:=hq;obtain⟨j,hj,hi⟩:=mr hz h2.len.symm;obtain⟨v,G',hv,rv,hs⟩:=h2.get hj;exact .inr (.inl ⟨p,vs,k0,v,rfl,rfl,SqT.of h1,nj hi hv,k v z G' H (.refl D) (Rp.sub rv r1.n hs) hq⟩)
  ·obtain⟨p,rfl,h1,_⟩:=r1.r.scr;obtain⟨z,hz,hq⟩:=hq;refine .inl ⟨p,_,k0,.int z,rfl,rfl,h1.sq,?_,k _ _ [] H (.refl D) (.c (.i _)) hq⟩;obtain⟨j,hj,hi⟩:=mr (ys:=(_:List Int).map V.int) hz (by rw[QR])
   exact nj hi (by rw[Q0,hj];rfl)
  ·obtain⟨p,o,vs,rfl,rfl,h1,h2⟩:=r1.r.zls;obtain⟨z,hz,hq⟩:=hq;obtain⟨j,hj,hi⟩:=mr hz h2.len.symm;obtain⟨v,G',hv,rv,hs⟩:=h2.get hj;exact .inl ⟨p,vs,k0,v,rfl,rfl,.inl (.inr ⟨o,h1⟩),nj hi hv,k v z G' H (.refl D) (Rp.sub rv r1.n hs) hq⟩
  ·obtain⟨rfl,rfl⟩:=r1.r.str;obtain⟨hl,c,hc,hq⟩:=hq;exact .inr (.inr ⟨_,k0,c,rfl,rfl,hl,hc,k _ _ [] H (.refl D) (.c (.s _)) hq⟩)
  ·exact hq.elim
 ·exact hq.elim
theorem aN(ha:QPE X K a ta qa)(hb:QPE X K b tb qb)(hs:mx b:=by intro _ _;rfl)(hK:X.K=K:=by rfl):QPE X K (.Subscript a b pos) (tOp (rIx K) ta tb) (qOp qIx qa qb):=⟨by subst hK;exact za xY ha.h hb.h hs,wJ JY ha.s hb.s⟩
end
variable{dl:Dl}{H:Hp}{prog:Program}{A:Around}{E:Value->Shared->Prop}{items:Array Value}{Q:Value->Shared->Prop}{p2:Pos}{n:Nat}{r:List V->Hp->VK->Prop}{g:Int->Int->Int}
section
variable{X:Cx}{K:W.Frag}{a b c e:Expr}{es rest:List Expr}{ta tb tc te:TE}{qa qb qc qe:QE}{tA tB:TT}{qA qB:QT}{tl:TA}{ql:QA}{pos p:Pos}
abbrev QO:=Sq ->(Option Int->Prop)->Prop
def Qv(K:W.Frag)(t:TO)(tq:QO):Prop:=∀(dl:Dl)(H:Hp)(σ:St)(q:Sq)(Q:Option Int->Prop)(R:Option Int->Hp->Prop),RdR K dl H σ q->tq q Q ->(∀ o H',Evo dl H H'->Q o->R o H')->t σ H R
structure QPO(X:Cx)(K:W.Frag)(e:Option Expr)(t:TO)(tq:QO):Prop where
 h:PO X e t
 s:Qv K t tq
theorem ox:QPO X K none yJ (fun _ Q=>Q none):=⟨GI,fun _ _ _ _ _ _ rd hq k=>k none _ (.refl rd.d) hq⟩
theorem ow(h:QPE X K e te qe):QPO X K (some e) (IH te) (fun q Q=>qe q fun t=>match t with | .i x=>Q (some x) | _=>False):=⟨sR h.h,fun dl H σ q Q R rd hq k=>h.s dl H σ q _ _ rd hq fun v t F H' e r hz=>by
 split at hz
 ·obtain⟨rfl,rfl⟩:=r.r.int;exact⟨_,rfl,k _ H' e hz⟩
 ·exact hz.elim⟩
def eU{α:Type}(xs:List α)(lo hi:Option Int):List α:=(xs.drop (HT.sIx xs.length 0 lo)).take (HT.sIx xs.length xs.length hi - HT.sIx xs.length 0 lo)
theorem ai.cut{vs:List V}{ts:List T}{F:List Addr}(lo hi:Option Int)(h:ai K dl H vs ts F):∃ G,ai K dl H (kA vs lo hi) (eU ts lo hi) G/\G.Sublist F:=by
 unfold kA eU;rw[h.len];obtain⟨G,h1,s1⟩:=h.drop (HT.sIx ts.length 0 lo);obtain⟨G2,h2,s2⟩:=h1.take (HT.sIx ts.length ts.length hi - HT.sIx ts.length 0 lo);exact⟨G2,h2,s2.trans s1⟩
theorem kz{w:World}{s:Shared}{t sl:Addr}{vl vu:Value}{lo hi:Option Int}(ht:IsTup s.heap t items)(hs:s.heap.IsSliceOf sl vl vu .none)(pl:IsPart vl lo)(pu:IsPart vu hi)
  (hw:HT.sIx items.size 0 lo=0/\HT.sIx items.size items.size hi=items.size)
  (h:Q (.ref t) s):wpAny (model prog w) A (getItem (.ref t) (.ref sl)) Q E s:=by
 obtain⟨os,hos,hcs,hds⟩:=id hs;have hTs:s.TypeIs (.ref sl) "slice":=⟨os,hos,hcs⟩;have hT:=ht.typeIs;unfold getItem
 try with_reducible refine Rn ?_
 first|refine j2 (Lb ?_)|skip
 refine j2 (wpAny_sequenceKey ht.typeIs (by decide) ?_)
 refine j2 (wpAny_callSpecial?_slot (name:=Str.ofString "__getitem__") ht.typeIs PyProof.Rows.slot_tuple_getitem
  (Rl PyProof.Rows.slot_tuple_getitem ht.typeIs entry_tuple_getitem ?_ (args_tuple_getitem _ _)))
 show wpAny _ _ (Builtin.Tuple.tupleItemsOf (.ref t) >>= _) _ _ s;refine j2 (tupleItemsOf_ ht ?_);refine j2 (RY hTs ?_);rw[if_pos (by decide)]
 refine j2 (HT.ip hs pl pu ?_);have hy:(((HT.sIx items.size 0 lo:Nat):Int)==0&&(1:Int)==1&&(HT.sIx items.size items.size hi - HT.sIx items.size 0 lo)==items.size)=true:=by
  rw[hw.1,hw.2];simp
 show wpAny _ _ (if(((HT.sIx items.size 0 lo:Nat):Int)==0&&(1:Int)==1&&(HT.sIx items.size items.size hi - HT.sIx items.size 0 lo)==items.size)=true then _ else _) _ _ s
 rw[if_pos hy];unfold Builtin.Tuple.tupleIsExact
 first
  | exact j2 (j2 (RY hT (Lb (by rw[if_pos (by decide)];exact j2 (R9 (Lb ⟨_,rfl,Lb h⟩))))))
  | exact j2 (RY hT (by rw[if_pos (by decide)];exact j2 (R9 (Lb ⟨_,rfl,Lb h⟩))))
def Mi(K:W.Frag):V->Option Int->Option Int->Hp->VK->Prop:=fun x lo hi H Q=>∃ a xs,x = .ref a/\SqT K H a xs /\
 ((HT.sIx xs.length 0 lo=0/\HT.sIx xs.length xs.length hi=xs.length)->Q (.ref a) H)/\(¬(HT.sIx xs.length 0 lo=0/\HT.sIx xs.length xs.length hi=xs.length)->∀ p,H p=none->Q (.ref p) (upd H p (.tup (kA xs lo hi))))
theorem FL:SlR X (Mi X.K):=by
 intro j0 s σ H x v vl vu lo hi sl Q I rx hs pl pu h;obtain⟨a,xs,rfl,hx,q1,q2⟩:=h;by_cases hw:HT.sIx xs.length 0 lo=0/\HT.sIx xs.length xs.length hi=xs.length
 ·cases rx;obtain⟨its,r,ht,hz⟩:=I.tuple hx;have hlen:its.toArray.size=xs.length:=by rw[P2];exact r.length.symm
  exact⟨"tuple",_,PyProof.Rows.slot_tuple_getitem.lookup,ht.typeIs,kz ht hs pl pu (by rw[hlen];exact hw) ⟨.ref a,H,I,rfl,q1 hw⟩⟩
 ·exact JU j0 s σ H _ v vl vu lo hi sl Q I rx hs pl pu ⟨a,xs,rfl,hx,hw,q2 hw⟩
theorem A8{α:Type}{xs:List α}{lo hi:Option Int}(h:HT.sIx xs.length 0 lo=0/\HT.sIx xs.length xs.length hi=xs.length):eU xs lo hi=xs:=by
 unfold eU;rw[h.1,h.2];simp
def Mm(K:W.Frag):V->Option Int->Option Int->Hp->VK->Prop:=fun x lo hi H Q=>Ml K x lo hi H Q\/Mi K x lo hi H Q\/Mj x lo hi H Q
theorem Pc(hK:X.K=K):SlR X (Mm K):=by subst hK;exact yN.or (FL.or JV)
def qSl(qe:QE)(l u:QO):QE:=fun q Q=>qe q fun t=>l q fun lo=>u q fun hi=>match t with
 | .l xs=>T.ims xs=true/\Q (.l (eU xs lo hi))
 | .t xs=>T.ims xs=true/\Q (.t (eU xs lo hi))
 | .z ns=>Q (.l ((eU ns lo hi).map T.i))
 | .zl xs=>Q (.l (eU xs lo hi))
 | .s z=>z.length<=QD/\Q (.s (Txt.slice z lo hi))
 | _=>False
theorem lV{l u:Option Expr}{tlo thi:TO}{qlo qhi:QO}(he:QPE X K e te qe)(hl:QPO X K l tlo qlo)(hu:QPO X K u thi qhi)(hK:X.K=K:=by rfl):QPF X K (.Subscript e (.Slice l u none p2) pos) (tSl (Mm K) te tlo thi) (qSl qe qlo qhi) :=
 ⟨vk (Pc hK) he.h hl.h hu.h,fun dl H σ q Q R rd hq k=>he.s dl H σ q _ _ rd hq fun v t F H1 e1 r1 hz=>hl.s dl H1 σ q _ _ (rd.evo e1) hz fun lo H2 e2 hz=>hu.s dl H2 σ q _ _ ((rd.evo e1).evo e2) hz fun hi H3 e3 hz=>by
  have r3:=(r1.evo e1.d e2).evo e2.d e3;have E3:=(e1.trans e2).trans e3;have no:∀ b:Addr,b∈([]:List Addr)->H b=none:=fun _ z=>nomatch z
  split at hz
  ·obtain⟨p,vs,G,rfl,rfl,h1,h2⟩:=r3.r.lst;obtain rfl:=h2.im hz.1;obtain⟨G,h3,s3⟩:=h2.cut lo hi;obtain rfl:G = []:=SD.mp s3;refine .inl ⟨p,vs,rfl,SqL.of h1,fun p hp=>?_⟩
   have rs:Rps K dl H3 (kA vs lo hi) _ []:=⟨h3,fun c hc=>nomatch hc⟩
   exact k _ _ _ _ (E3.new hp) (rs.lst e3.d hp) (fun b hb=>by rw[Es.mp hb];exact E3.free hp) (by simp) hz.2
  ·obtain⟨p,vs,rfl,h1,h2⟩:=r3.r.tup;obtain rfl:=h2.im hz.1;obtain⟨G,h3,s3⟩:=h2.cut lo hi;obtain rfl:G = []:=SD.mp s3;refine .inr (.inl ⟨p,vs,rfl,SqT.of h1,fun hw=>?_,fun _ p hp=>?_⟩)
   ·refine k _ _ _ _ E3 r3 no QG ?_;rw[h2.len]at hw;have hq2:=hz.2;rw[A8 hw]at hq2;exact hq2
   ·have rs:Rps K dl H3 (kA vs lo hi) _ []:=⟨h3,fun c hc=>nomatch hc⟩
    exact k _ _ _ _ (E3.new hp) (rs.tup e3.d hp) no QG hz.2
  ·rename_i ns _ _;obtain⟨p,rfl,h1,_⟩:=r3.r.scr;refine .inl ⟨p,_,rfl,h1.sq,fun p hp=>?_⟩
   have e:kA (ns.map V.int) lo hi =(eU ns lo hi).map V.int:=by unfold kA eU;rw[QR,<- Tb,<- Tc]
   rw[e];have rs:Rps K dl H3 ((eU ns lo hi).map V.int) ((eU ns lo hi).map T.i) []:=⟨oW _,fun c hc=>nomatch hc⟩
   exact k _ _ _ _ (E3.new hp) (rs.lst e3.d hp) (fun b hb=>by rw[Es.mp hb];exact E3.free hp) (by simp) hz
  ·obtain⟨p,o,vs,rfl,rfl,h1,h2⟩:=r3.r.zls;obtain⟨G,h3,s3⟩:=h2.cut lo hi;obtain rfl:G = []:=SD.mp s3;refine .inl ⟨p,vs,rfl,.inl (.inr ⟨o,h1⟩),fun p hp=>?_⟩
   have rs:Rps K dl H3 (kA vs lo hi) _ []:=⟨h3,fun c hc=>nomatch hc⟩
   exact k _ _ _ _ (E3.new hp) (rs.lst e3.d hp) (fun b hb=>by rw[Es.mp hb];exact E3.free hp) (by simp) hz
  ·obtain⟨rfl,rfl⟩:=r3.r.str;exact .inr (.inr ⟨_,rfl,hz.1,k _ _ [] H3 E3 (.c (.s _)) no QG hz.2⟩)
  ·exact hz.elim⟩
abbrev QC:=List T ->(T->Prop)->Prop
def vY(K:W.Frag)(r:List V->Hp->VK->Prop)(rq:QC):Prop:=∀(dl:Dl)(H:Hp)(vs:List V)(ts:List T)(F:List Addr)(Q:T->Prop)(R:V->Hp->Prop),Dls dl H->Rps K dl H vs ts F->rq ts Q ->
 (∀ v z F' H',Evo dl H H'->Rp K dl H' v z F' ->(∀ b∈F',H b=none)->F'.Nodup->Q z->R v H')->r vs H R
def qCB(rq:QC)(ql:QA):QE:=fun q Q=>ql q fun ts=>rq ts Q
theorem Ci{rq:QC}(h:vY K r rq)(hl:yz K n tl ql):mw K (tCB r tl) (qCB rq ql):=fun dl H σ q Q R rd hq k=>hl dl H σ q _ _ rd hq fun vs ts F H1 e1 r1 _ hz =>
 h dl H1 vs ts F Q R e1.d r1 hz fun v z F' H2 e2 r2 f2 n2 hz=>k v z F' H2 (e1.trans e2) r2 (fun b hb=>e1.free (f2 b hb)) n2 hz
theorem jD{id:String}{rq:QC}(hc:dJ X (.builtin id) r)(hs:vY K r rq)(hg:Gl X x)(hm:X.mg x=none)(hv:bootBuiltins x=some (.builtin id))(ha:QPA X K (e::es) tl ql)(hn:x ≠ "__name__":=by decide)(hdb:(x ==("__debug__":Str))=false:=by decide)
  (he:L9 (e::es) X.env =(false,eval e X.env)::L9 es X.env:=by rfl) (hpl:(backTo pos (L9 es X.env)).any (·.1)=false:=by rfl):QPF X K (.Call (.Name x p) (e::es) [] pos) (tCB r tl) (qCB rq ql):=⟨px hc hg hm hv ha.h hn hdb he hpl,Ci hs ha.s⟩
theorem fO{id:String}{rq:QC}(hc:dJ X (.type id) r)(hs:vY K r rq)(hg:Gl X x)(hm:X.mg x=none)(hv:bootBuiltins x=some (.type id))(ha:QPA X K (e::es) tl ql)(hn:x ≠ "__name__":=by decide)(hdb:(x ==("__debug__":Str))=false:=by decide)
  (he:L9 (e::es) X.env =(false,eval e X.env)::L9 es X.env:=by rfl) (hpl:(backTo pos (L9 es X.env)).any (·.1)=false:=by rfl):QPF X K (.Call (.Name x p) (e::es) [] pos) (tCB r tl) (qCB rq ql):=⟨As hc hg hm hv ha.h hn hdb he hpl,Ci hs ha.s⟩
theorem Rps.one{vs:List V}{t:T}{F:List Addr}(h:Rps K dl H vs [t] F):∃ v,vs = [v]/\Rp K dl H v t F:=by
 obtain⟨r,n⟩:=h;cases r with
 | cons r1 r2 =>
  cases r2;rw[Q6]at n;rw[Q6];exact⟨_,rfl,r1,n⟩
theorem Rps.two{vs:List V}{t u:T}{F:List Addr}(h:Rps K dl H vs [t,u] F):∃ v w F1 F2,vs = [v,w]/\Rp K dl H v t F1/\Rp K dl H w u F2:=by
 obtain⟨r,n⟩:=h;cases r with
 | cons r1 r2 =>
  obtain⟨w,rfl,h2⟩:=Rps.one ⟨r2,fun b hb=>n b (PJ _ hb)⟩
  exact⟨_,w,_,_,rfl,⟨r1,fun b hb=>n b (QP _ hb)⟩,h2⟩
def CA(K:W.Frag):List V->Hp->VK->Prop:=fun xs H Q=>(∃ p ys,xs = [.ref p]/\(SqL K H p ys\/SqT K H p ys)/\Q (.int ys.length) H)\/(∃ z,xs = [.str z]/\z.length<=QD/\Q (.int z.length) H)\/∃ a kvs,xs = [V.ref a]/\H a=some (.dK kvs)/\Q (.int kvs.length) H
theorem Bj(hK:X.K=K):dJ X (.builtin "len") (CA K):=by subst hK;exact mm.or (uh.or Bi)
def Kh:QC:=fun ts Q=>match ts with
 | [.l xs]=>Q (.i xs.length)
 | [.t xs]=>Q (.i xs.length)
 | [.z xs]=>Q (.i xs.length)
 | [.zl xs]=>Q (.i xs.length)
 | [.d xs]=>Q (.i xs.length)
 | [.s x]=>x.length<=QD/\Q (.i x.length)
 | _=>False
theorem FY:vY K (CA K) Kh:=by
 intro dl H vs ts F Q R D r hq k;have fin:∀ n:Nat,Q (.i n)->R (.int n) H:=fun n hq=>k _ _ [] H (.refl D) (.c (.i _)) (fun _ z=>nomatch z) QG hq
 unfold Kh at hq
 split at hq
 ·obtain⟨v,rfl,r'⟩:=r.one;obtain⟨p,vs,G,rfl,_,h1,h2⟩:=r'.r.lst;exact .inl ⟨p,vs,rfl,.inl (SqL.of h1),fin _ (by rw[h2.len];exact hq)⟩
 ·obtain⟨v,rfl,r'⟩:=r.one;obtain⟨p,vs,rfl,h1,h2⟩:=r'.r.tup;exact .inl ⟨p,vs,rfl,.inr (SqT.of h1),fin _ (by rw[h2.len];exact hq)⟩
 ·obtain⟨v,rfl,r'⟩:=r.one;obtain⟨p,rfl,h1,_⟩:=r'.r.scr;exact .inl ⟨p,_,rfl,.inl h1.sq,fin _ (by rw[QR];exact hq)⟩
 ·obtain⟨v,rfl,r'⟩:=r.one;obtain⟨p,o,vs,rfl,_,h1,h2⟩:=r'.r.zls;exact .inl ⟨p,vs,rfl,.inl (.inl (.inr ⟨o,h1⟩)),fin _ (by rw[h2.len];exact hq)⟩
 ·obtain⟨v,rfl,r'⟩:=r.one;obtain⟨p,vs,G,rfl,_,h1,h2⟩:=r'.r.dic;exact .inr (.inr ⟨p,vs,rfl,h1,fin _ (by rw[h2.len];exact hq)⟩)
 ·obtain⟨v,rfl,r'⟩:=r.one;obtain⟨rfl,_⟩:=r'.r.str;exact .inr (.inl ⟨_,rfl,hq.1,fin _ hq.2⟩)
 ·exact hq.elim
def qI2(g:Int->Int->Int):QC:=fun ts Q=>match ts with
 | [.i a,.i b]=>Q (.i (g a b))
 | _=>False
theorem wL:vY K (fun xs H Q=>∃ i j,xs = [.int i,.int j]/\Q (.int (g i j)) H) (qI2 g):=by
 intro dl H vs ts F Q R D r hq k;unfold qI2 at hq
 split at hq
 ·obtain⟨v,w,F1,F2,rfl,r1,r2⟩:=r.two;obtain⟨rfl,_⟩:=r1.r.int;obtain⟨rfl,_⟩:=r2.r.int;exact⟨_,_,rfl,k _ _ [] H (.refl D) (.c (.i _)) (fun _ z=>nomatch z) QG hq⟩
 ·exact hq.elim
def MI:QC:=fun ts Q=>match ts with
 | [.i a]=>Q (.i a)
 | [.b k]=>Q (.i (if k then 1 else 0))
 | _=>False
theorem lH:vY K (fun xs H Q=>(∃ i,xs = [.int i]/\Q (.int i) H)\/∃ k,xs = [.bl k]/\Q (.int (if k then 1 else 0)) H) MI:=by
 intro dl H vs ts F Q R D r hq k;unfold MI at hq
 split at hq
 ·obtain⟨v,rfl,r'⟩:=r.one;obtain⟨rfl,_⟩:=r'.r.int;exact .inl ⟨_,rfl,k _ _ [] H (.refl D) (.c (.i _)) (fun _ z=>nomatch z) QG hq⟩
 ·obtain⟨v,rfl,r'⟩:=r.one;obtain⟨rfl,_⟩:=r'.r.bl;exact .inr ⟨_,rfl,k _ _ [] H (.refl D) (.c (.i _)) (fun _ z=>nomatch z) QG hq⟩
 ·exact hq.elim
def CL:QC:=fun ts Q=>match ts with
 | [.l xs]=>T.ims xs=true/\Q (.t xs)
 | [.t xs]=>T.ims xs=true/\Q (.t xs)
 | _=>False
theorem Be(hK:X.K=K):dJ X (.type "tuple") (fun xs H Q=>∃ p ys,xs = [.ref p]/\((SqL K H p ys/\∀ l,H l=none->Q (.ref l) (upd H l (.tup ys)))\/(SqT K H p ys/\Q (.ref p) H))):=by subst hK;exact q5
theorem z8:vY K (fun xs H Q=>∃ p ys,xs = [.ref p]/\((SqL K H p ys/\∀ l,H l=none->Q (.ref l) (upd H l (.tup ys)))\/(SqT K H p ys/\Q (.ref p) H))) CL:=by
 intro dl H vs ts F Q R D r hq k;have no:∀ b:Addr,b∈([]:List Addr)->H b=none:=fun _ z=>nomatch z
 unfold CL at hq
 split at hq
 ·obtain⟨v,rfl,r'⟩:=r.one;obtain⟨p,vs,G,rfl,rfl,h1,h2⟩:=r'.r.lst;obtain rfl:=h2.im hq.1;refine⟨p,vs,rfl,.inl ⟨SqL.of h1,fun l hl=>?_⟩⟩
  have rs:Rps K dl H vs _ []:=⟨h2,fun c hc=>nomatch hc⟩
  exact k _ _ _ _ ((Evo.refl D).new hl) (rs.tup D hl) no QG hq.2
 ·obtain⟨v,rfl,r'⟩:=r.one;obtain⟨p,vs,rfl,h1,h2⟩:=r'.r.tup;obtain rfl:=h2.im hq.1;exact⟨p,vs,rfl,.inr ⟨SqT.of h1,k _ _ [] H (.refl D) r' no QG hq.2⟩⟩
 ·exact hq.elim
def picks{α:Type}(f:T->Option α):List T->Option (List α)
 | []=>some []
 | t::r=>(f t).bind fun a=>(picks f r).map (a :: ·)
theorem ai.picks{dl:Dl}{H:Hp}{α:Type}{f:T->Option α}{g:α->V}(hf:∀(v:V)(t:T)(F:List Addr)(a:α),aq K dl H v t F->f t=some a->v=g a){vs:List V}{ts:List T}{F:List Addr}(h:ai K dl H vs ts F):∀{bs:List α},L2.picks f ts=some bs->vs=bs.map g :=
 h.ind (M:=fun vs ts _=>∀{bs:List α},L2.picks f ts=some bs->vs=bs.map g) (fun e=>by cases e;rfl) fun v t vs ts F G h _ ih bs e=>by
  obtain⟨a,e1,e2⟩:=Option.bind_eq_some_iff.mp e;obtain⟨as,e3,rfl⟩:=Rh.mp e2;rw[hf v t F a h e1,ih e3];rfl
end
structure qy where
 nx:Sq->Prop
 rt:T->Prop
 bk:Sq->Prop:=fun _=>False
 ct:Sq->Prop:=fun _=>False
 ru:Sq->T->Prop:=fun _ _=>False
abbrev QS:=qy->Sq->Prop
structure Frm(dl:Dl)(H₀ H:Hp):Prop where
 k:∀ b o,H₀ b=some o->Nd dl b->NR o->H b=some o
 r:∀ a x,H₀ a=some (.room x)->∃ y,y<=x/\H a=some (.room y)
variable{H₀:Hp}
theorem Frm.evo(f:Frm dl H₀ H)(D:Dls dl H):Evo dl H₀ H:=⟨f.k,D,f.r⟩
theorem Frm.refl:Frm dl H H:=⟨fun _ _ h _ _=>h,fun _ x h=>⟨x,RO _,h⟩⟩
variable{H':Hp}
theorem Frm.trans(f:Frm dl H₀ H)(e:Evo dl H H'):Frm dl H₀ H':=⟨fun b o h n r=>e.k b o (f.k b o h n r) n r,fun a x h=>let⟨y,hy,h1⟩:=f.r a x h;let⟨z,hz,h2⟩:=e.r a y h1;⟨z,RU hz hy,h2⟩⟩
structure Rel(K:W.Frag)(dl:Dl)(H₀:Hp)(hs:List (V×T))(H:Hp)(σ:St)(q:Sq)(F:Nat->List Addr):Prop where
 d:Dls dl H
 g:∀(i:Nat)(x:Sl)(t:T),q[i]? = some x->x.get=some t->∃ v,σ[i]? = some (some v)/\Rp K dl H v t (F i)
 n:∀(i:Nat)(x:Sl),q[i]? = some x->x.get=none->F i = []
 z:∀(i:Nat),q.length<=i->F i = []
 o:∀(i:Nat)(t:T),q[i]? = some (.o t) ->(F i).Nodup/\(∀ b∈F i,H₀ b=none)/\(∀ j,j≠i->∀ b∈F i,b ∉ F j)
 h:∀ p∈hs,∃ Fp,Rp K dl H p.1 p.2 Fp/\∀(i:Nat)(t:T),q[i]? = some (.o t)->∀ b∈F i,b ∉ Fp
 f:Frm dl H₀ H
 l:q.length=σ.length
def gE(K:W.Frag)(dl:Dl)(H₀:Hp)(hs:List (V×T))(H:Hp)(σ:St)(q:Sq):Prop:=∃ F,Rel K dl H₀ hs H σ q F
variable{F':List Addr}
section
variable{X:Cx}{K:W.Frag}{hs:List (V×T)}{σ:St}{q:Sq}{F:Nat->List Addr}
theorem Rel.rd(r:Rel K dl H₀ hs H σ q F):RdR K dl H σ q:=⟨r.d,fun i x t h1 h2=>let⟨v,e,p⟩:=r.g i x t h1 h2;⟨v,F i,e,p⟩⟩
theorem Rel.fz(r:Rel K dl H₀ hs H σ q F){b:Addr}(h:H b=none):H₀ b=none:=by
 exact(r.f.evo r.d).free h
theorem Rel.cV(r:Rel K dl H₀ hs H σ q F){i:Nat}{b:Addr}(hb:b∈F i):cg H b:=by
 by_cases hi:i<q.length
 ·have e:q[i]? = some q[i]:=by simp[hi]
  cases ex:q[i].get with
  | none=>rw[r.n i _ e ex]at hb;cases hb
  | some t =>
   obtain⟨v,_,p⟩:=r.g i _ t e ex;exact p.r.there b hb
 ·rw[r.z i (by omega)]at hb;cases hb
theorem Rel.evo(r:Rel K dl H₀ hs H σ q F)(e:Evo dl H H'):Rel K dl H₀ hs H' σ q F where
 d:=e.d
 g:=fun i x t h1 h2=>let⟨v,e1,p⟩:=r.g i x t h1 h2;⟨v,e1,p.evo r.d e⟩
 n:=r.n
 z:=r.z
 o:=r.o
 h:=fun p hp=>let⟨Fp,h1,h2⟩:=r.h p hp;⟨Fp,h1.evo r.d e,h2⟩
 f:=r.f.trans e
 l:=r.l
def oS(F:Nat->List Addr)(i:Nat)(x:List Addr):Nat->List Addr:=fun j=>if j=i then x else F j
theorem aB{i:Nat}{x:List Addr}:oS F i x i=x:=if_pos rfl
theorem au{i:Nat}{x:List Addr}(h:j≠i):oS F i x j=F j:=if_neg h
theorem get_set{α:Type}{xs:List α}{i:Nat}{x y:α}(h:(xs.set i x)[j]? = some y):(j=i/\y=x/\i<xs.length)\/(j≠i/\xs[j]? = some y):=by
 by_cases e:j=i
 ·subst e;rw[List.getElem?_set_self']at h;by_cases hl:j<xs.length
  ·rw[QU hl]at h;exact .inl ⟨rfl,(Option.some.inj h).symm,hl⟩
  ·rw[Sx (by omega)]at h;cases h
 ·rw[Rq (fun z=>e z.symm)]at h
  exact .inr ⟨e,h⟩
theorem Rel.put{i:Nat}{v:V}{t:T}(r:Rel K dl H₀ hs H σ q F)(hi:i<q.length)(e:Evo dl H H')(hv:Rp K dl H' v t F')(hf:∀ b∈F',H b=none)(hn:F'.Nodup):Rel K dl H₀ hs H' (σ.set i (some v)) (q.set i (.o t)) (oS F i F'):=by
 have r':=r.evo e;have out:∀ j,∀ b∈F',b ∉ F j:=fun j b hb hj=>(r.cV hj).no (hf b hb)
 refine⟨e.d,fun j x u h1 h2=>?_,fun j x h1 h2=>?_,fun j hj=>?_,fun j u h1=>?_,fun p hp=>?_,r'.f,by simp[r.l]⟩
 ·rcases get_set h1 with⟨rfl,rfl,_⟩ |⟨ne,h1⟩
  ·cases h2;exact⟨v,by rw[Rx (by rw[<- r.l];exact hi)],by rw[aB];exact hv⟩
  ·obtain⟨w,h3,h4⟩:=r'.g j x u h1 h2;exact⟨w,by rw[Rq (fun z=>ne z.symm)];exact h3,by rw[au ne];exact h4⟩
 ·rcases get_set h1 with⟨rfl,rfl,_⟩ |⟨ne,h1⟩
  ·cases h2
  ·rw[au ne];exact r.n j x h1 h2
 ·rw[Rz]at hj;rw[au (by omega)]
  exact r.z j hj
 ·rcases get_set h1 with⟨rfl,_,_⟩ |⟨ne,h1⟩
  ·rw[aB];exact⟨hn,fun b hb=>r.fz (hf b hb),fun k hk b hb=>by rw[au hk];exact out k b hb⟩
  ·rw[au ne];obtain⟨o1,o2,o3⟩:=r.o j u h1;refine⟨o1,o2,fun k hk b hb=>?_⟩
   by_cases ek:k=i
   ·subst ek;rw[aB];exact fun z=>out j b z hb
   ·rw[au ek];exact o3 k hk b hb
 ·obtain⟨Fp,h1,h2⟩:=r.h p hp;refine⟨Fp,h1.evo r.d e,fun j u hj b hb z=>?_⟩
  rcases get_set hj with⟨rfl,_,_⟩ |⟨ne,hj⟩
  ·rw[aB]at hb;exact cg.no (h1.r.there b z) (hf b hb)
  ·rw[au ne]at hb;exact h2 j u hj b hb z
theorem Rel.MR{i:Nat}{v:V}{t:T}(r:Rel K dl H₀ hs H σ q F)(hi:i<q.length)(hv:Rp K dl H v t F')(hf:∀(j:Nat)(u:T),q[j]? = some (.o u)->j≠i->∀ b∈F j,b ∉ F'):Rel K dl H₀ hs H (σ.set i (some v)) (q.set i (.r t)) (oS F i F'):=by
 refine⟨r.d,fun j x u h1 h2=>?_,fun j x h1 h2=>?_,fun j hj=>?_,fun j u h1=>?_,fun p hp=>?_,r.f,by simp[r.l]⟩
 ·rcases get_set h1 with⟨rfl,rfl,_⟩ |⟨ne,h1⟩
  ·cases h2;exact⟨v,by rw[Rx (by rw[<- r.l];exact hi)],by rw[aB];exact hv⟩
  ·obtain⟨w,h3,h4⟩:=r.g j x u h1 h2;exact⟨w,by rw[Rq (fun z=>ne z.symm)];exact h3,by rw[au ne];exact h4⟩
 ·rcases get_set h1 with⟨rfl,rfl,_⟩ |⟨ne,h1⟩
  ·cases h2
  ·rw[au ne];exact r.n j x h1 h2
 ·rw[Rz]at hj;rw[au (by omega)]
  exact r.z j hj
 ·rcases get_set h1 with⟨rfl,e,_⟩ |⟨ne,h1⟩
  ·cases e
  ·rw[au ne];obtain⟨o1,o2,o3⟩:=r.o j u h1;refine⟨o1,o2,fun k hk b hb=>?_⟩
   have z:=hf j u h1 ne b hb;by_cases ek:k=i
   ·subst ek;rw[aB];exact z
   ·rw[au ek];exact o3 k hk b hb
 ·obtain⟨Fp,h1,h2⟩:=r.h p hp;refine⟨Fp,h1,fun j u hj b hb z=>?_⟩
  rcases get_set hj with⟨rfl,e,_⟩ |⟨ne,hj⟩
  ·cases e
  ·rw[au ne]at hb;exact h2 j u hj b hb z
theorem Rel.hold{v:V}{t:T}(r:Rel K dl H₀ hs H σ q F)(hv:Rp K dl H v t F')(hf:∀(j:Nat)(u:T),q[j]? = some (.o u)->∀ b∈F j,b ∉ F'):Rel K dl H₀ ((v,t)::hs) H σ q F :=
 ⟨r.d,r.g,r.n,r.z,r.o,fun p hp=>by
  rcases QH.mp hp with e|hp
  ·subst e;exact⟨F',hv,hf⟩
  ·exact r.h p hp,r.f,r.l⟩
theorem Rel.down{i:Nat}{t:T}(r:Rel K dl H₀ hs H σ q F)(hi:q[i]? = some (.o t)):Rel K dl H₀ hs H σ (q.set i (.r t)) F:=by
 refine⟨r.d,fun j x u h1 h2=>?_,fun j x h1 h2=>?_,fun j hj=>r.z j (by rw[Rz]at hj;exact hj),fun j u h1=>?_,fun p hp=>?_,r.f,by simp[r.l]⟩
 ·rcases get_set h1 with⟨rfl,rfl,_⟩ |⟨ne,h1⟩
  ·cases h2;exact r.g j _ t hi rfl
  ·exact r.g j x u h1 h2
 ·rcases get_set h1 with⟨rfl,rfl,_⟩ |⟨ne,h1⟩
  ·cases h2
  ·exact r.n j x h1 h2
 ·rcases get_set h1 with⟨rfl,e,_⟩ |⟨ne,h1⟩
  ·cases e
  ·exact r.o j u h1
 ·obtain⟨Fp,h1,h2⟩:=r.h p hp;refine⟨Fp,h1,fun j u hj=>?_⟩
  rcases get_set hj with⟨rfl,e,_⟩ |⟨ne,hj⟩
  ·cases e
  ·exact h2 j u hj
theorem Rel.write{i:Nat}{v:V}{t t':T}{p:Addr}{o:HO}(r:Rel K dl H₀ hs H σ q F)(hi:q[i]? = some (.o t))(hv:σ[i]? = some (some v))(hp:p∈F i)(ho:∀ xs,H p=some (.lst xs)->∃ ys,o = .lst ys)(hr:Rp K dl (upd H p o) v t' F')(hn:F'.Nodup)
  (hf:∀ b∈F',b∈F i\/(H₀ b=none/\(∀ j,b ∉ F j)/\∀ w u Fp,Rp K dl H w u Fp ->(w,u)∈hs->b ∉ Fp)):Rel K dl H₀ hs (upd H p o) σ (q.set i (.o t')) (oS F i F'):=by
 obtain⟨o1,o2,o3⟩:=r.o i t hi;have hil:i<q.length:=(Qx.mp hi).1;obtain⟨v',hv',rp⟩:=r.g i _ t hi rfl;have pn:Nd dl p:=rp.n p hp;have pth:=r.cV hp;have tf:TF H (upd H p o):=⟨fun a vs h=>(by
  rw[ah];exact h;intro z;subst z;obtain⟨_,e,m⟩:=pth;rw[h]at e;cases e;cases m),fun a ob u h=>(by
  rw[ah];exact h;intro z;subst z;obtain⟨_,e,m⟩:=pth;rw[h]at e;cases e;cases m),fun a φ h=>(by
  rw[ah];exact h;intro z;subst z;obtain⟨_,e,m⟩:=pth;rw[h]at e;cases e;cases m),fun a xs h=>(by
  by_cases z:a=p
  ·subst z;obtain⟨ys,e⟩:=ho xs h;exact⟨ys,by rw[ar,e]⟩
  ·exact⟨xs,by rw[ah z];exact h⟩),fun a x h=>⟨x,RO _,by
  rw[ah];exact h;intro z;subst z;obtain⟨_,e,m⟩:=pth;rw[h]at e;cases e;cases m⟩⟩
 have st:∀{w:V}{u:T}{Fw:List Addr},Rp K dl H w u Fw->p ∉ Fw->Rp K dl (upd H p o) w u Fw:=fun{w u Fw} h np =>
  ⟨h.r.cL tf (fun _ z=>z) fun b hb ob e=>(by
   have ne:b≠p:=by
    intro z;subst z;exact np hb
   rw[ah ne];exact e),h.n⟩
 refine⟨fun d hd=>(r.d d hd).other (pn d hd).1 (pn d hd).2,fun j x u h1 h2=>?_,fun j x h1 h2=>?_,fun j hj=>?_,fun j u h1=>?_,fun w hw=>?_,⟨fun b ob hb nb nr=>?_,fun b x hb=>?_⟩,by simp[r.l]⟩
 ·rcases get_set h1 with⟨rfl,rfl,_⟩ |⟨ne,h1⟩
  ·cases h2;exact⟨v,hv,by rw[aB];exact hr⟩
  ·obtain⟨w,h3,h4⟩:=r.g j x u h1 h2;exact⟨w,h3,by rw[au ne];exact st h4 (o3 j ne p hp)⟩
 ·rcases get_set h1 with⟨rfl,rfl,_⟩ |⟨ne,h1⟩
  ·cases h2
  ·rw[au ne];exact r.n j x h1 h2
 ·rw[Rz]at hj;rw[au (by omega)]
  exact r.z j hj
 ·rcases get_set h1 with⟨rfl,e,_⟩ |⟨ne,h1⟩
  ·rw[aB];refine⟨hn,fun b hb=>?_,fun k hk b hb=>?_⟩
   ·rcases hf b hb with z|z
    ·exact o2 b z
    ·exact z.1
   ·rw[au hk];rcases hf b hb with z|z
    ·exact o3 k hk b z
    ·exact z.2.1 k
  ·rw[au ne];obtain⟨p1,p2,p3⟩:=r.o j u h1;refine⟨p1,p2,fun k hk b hb=>?_⟩
   by_cases ek:k=i
   ·subst ek;rw[aB];intro z;rcases hf b z with z|z
    ·exact o3 j ne b z hb
    ·exact z.2.1 j hb
   ·rw[au ek];exact p3 k hk b hb
 ·obtain⟨Fp,h1,h2⟩:=r.h w hw;refine⟨Fp,st h1 (h2 i t hi p hp),fun j u hj b hb z=>?_⟩
  rcases get_set hj with⟨rfl,e,_⟩ |⟨ne,hj⟩
  ·rw[aB]at hb;rcases hf b hb with y|y
   ·exact h2 j t hi b y z
   ·exact y.2.2 w.1 w.2 Fp h1 hw z
  ·rw[au ne]at hb;exact h2 j u hj b hb z
 ·rw[ah]
  ·exact r.f.k b ob hb nb nr
  ·intro z;subst z;rw[o2 b hp]at hb;cases hb
 ·obtain⟨y,hy,e⟩:=r.f.r b x hb;refine⟨y,hy,?_⟩;rw[ah]
  ·exact e
  ·intro z;subst z;rw[o2 b hp]at hb;cases hb
end
structure LM(K:W.Frag)(dl:Dl)(H₀:Hp)(hs:List (V×T))(Dq:qy)(D:Ends):Prop where
 nx:∀ H σ q,gE K dl H₀ hs H σ q->Dq.nx q->D.nx σ H
 bk:∀ H σ q,gE K dl H₀ hs H σ q->Dq.bk q->D.bk σ H
 ct:∀ H σ q,gE K dl H₀ hs H σ q->Dq.ct q->D.ct σ H
 rt:∀ v t F H,Dls dl H->Rp K dl H v t F ->(∀ b∈F,H₀ b=none)->F.Nodup->Frm dl H₀ H->Dq.rt t->D.rt v H
 ru:∀ H σ q F0 v t F,Rel K dl H₀ hs H σ q F0->Rp K dl H v t F ->(∀ b∈F,H₀ b=none)->F.Nodup ->(∀ j,∀ b∈F,b ∉ F0 j)->Dq.ru q t->D.rt v H
def uz(K:W.Frag)(ts:TS)(qs:QS):Prop:=∀(dl:Dl)(H₀:Hp)(hs:List (V×T))(H:Hp)(σ:St)(q:Sq)(Dq:qy)(D:Ends),gE K dl H₀ hs H σ q->qs Dq q->LM K dl H₀ hs Dq D->ts D σ H
structure QPS(X:Cx)(K:W.Frag)(st:Stmt)(ts:TS)(qs:QS):Prop where
 h:PS X st ts
 s:uz K ts qs
structure oh(X:Cx)(K:W.Frag)(st:List Stmt)(ts:TS)(qs:QS):Prop where
 h:PSs X st ts
 s:uz K ts qs
variable{q:Sq}{pos':Pos}
section
variable{X:Cx}{K:W.Frag}{st:Stmt}{rest sa sb:List Stmt}{t u:TS}{qt qu:QS}{e c:Expr}{te:TE}{qe:QE}{tc:TT}{qc:QT}{pos:Pos}
def Ja:QS:=fun D q=>D.nx q
def Pj(t u:QS):QS:=fun D q=>t { D with nx:=u D } q
theorem cz:oh X K [] yK Ja:=⟨y0,fun _ _ _ H σ q _ _ r hq E=>E.nx H σ q r hq⟩
theorem af(h1:QPS X K st t qt)(h2:oh X K rest u qu):oh X K (st::rest) (L1 t u) (Pj qt qu):=⟨bA h1.h h2.h,fun dl H₀ hs H σ q Dq D r hq E =>
 h1.s dl H₀ hs H σ q _ _ r hq ⟨fun H σ q r' hq'=>h2.s dl H₀ hs H σ q _ _ r' hq' E,E.bk,E.ct,E.rt,E.ru⟩⟩
theorem aj(h1:QPS X K st t qt):oh X K [st] t qt:=⟨iK h1.h,h1.s⟩
theorem Gn:QPS X K (.Pass pos) yK Ja:=⟨GC,fun _ _ _ H σ q _ _ r hq E=>E.nx H σ q r hq⟩
theorem bo(he:QPF X K e te qe):QPS X K (.Return (some e) pos) (FH te) (fun D q=>qe q D.rt):=⟨mS he.h,fun dl H₀ hs H σ q Dq D ⟨F,r⟩ hq E =>
 he.s dl H σ q _ _ r.rd hq fun v t F' H' e1 r1 f1 n1 hz=>E.rt v t F' H' e1.d r1 (fun b hb=>r.fz (f1 b hb)) n1 (r.evo e1).f hz⟩
theorem lU{i:Nat}(he:PE X e (di i)):QPS X K (.Return (some e) pos) (FH (di i)) (fun D q=>match q[i]? with|some (.o t)=>D.rt t | _=>False):=⟨mS he,fun dl H₀ hs H σ q Dq D ⟨F,r⟩ hq E=>by
 split at hq
 ·rename_i t e1;obtain⟨v,hv,rp⟩:=r.g i _ t e1 rfl;obtain⟨o1,o2,o3⟩:=r.o i t e1;exact⟨v,hv,E.rt v t (F i) H r.d rp o2 o1 r.f hq⟩
 ·exact hq.elim⟩
def Po(c:QT)(t u:QS):QS:=fun D q=>c q fun b=>if b=true then t D q else u D q
theorem cn(hc:QPT X K c tc qc)(ha:oh X K sa t qt)(hb:oh X K sb u qu):QPS X K (.If c sa sb pos) (L4 tc t u) (Po qc qt qu):=⟨Jd hc.h ha.h hb.h,fun dl H₀ hs H σ q Dq D ⟨F,r⟩ hq E =>
 hc.s dl H σ q _ _ r.rd hq fun b H' e1 hz=>by
  cases b with
  | true=>exact ha.s dl H₀ hs H' σ q Dq D ⟨F,r.evo e1⟩ hz E
  | false=>exact hb.s dl H₀ hs H' σ q Dq D ⟨F,r.evo e1⟩ hz E⟩
def GA(i:Nat)(qe:QE):QS:=fun D q=>qe q fun t=>D.nx (q.set i (.o t))
theorem Rel.dQ{hs:List (V×T)}{σ:St}{F:Nat->List Addr}{i:Nat}{v:V}{t:T}(r:Rel K dl H₀ hs H σ q F)(e:Evo dl H H')(hv:Rp K dl H' v t F')(hf:∀ b∈F',H b=none)(hn:F'.Nodup):gE K dl H₀ hs H' (σ.set i (some v)) (q.set i (.o t)):=by
 by_cases hi:i<q.length
 ·exact⟨_,r.put hi e hv hf hn⟩
 ·have hl:=r.l;rw[SU (by omega),SU (by omega)]
  exact⟨F,r.evo e⟩
theorem yO{i:Nat}(he:mw K te qe):uz K (ku te (gw i)) (GA i qe):=fun dl H₀ hs H σ q Dq D ⟨F,r⟩ hq E=>he dl H σ q _ _ r.rd hq fun v t F' H' e1 r1 f1 n1 hz=>E.nx H' _ _ (r.dQ e1 r1 f1 n1) hz
theorem J7{i:Nat}(hN:X.N.Nodup)(hi:X.N[i]? = some x)(hx:Loc X.env.scope x)(he:QPF X K e te qe)(hs:swapsWith e (some (.Name x pos')) pos.line X.env=pure false:=by rfl)(hf:X.fn x=true\/X.env.scope.names.lookup x=some .local:=by first|exact .inl rfl|exact .inr rfl|assumption) :
  QPS X K (.Assign [.Name x pos'] e pos) (ku te (gw i)) (GA i qe):=⟨iL hN hi hx he.h hs hf,yO he.s⟩
inductive JF(tb:QS)(D:qy)(W:Nat->Sq->Prop)(m:Nat)(q:Sq):Prop
 | mk(N:Sq->Prop)(less:∀ q',N q'->∃ m',m'<m/\W m' q')(body:tb { D with nx:=N,ct:=N,bk:=D.nx } q)
inductive WhileI(c:QT)(tb:QS)(D:qy)(q:Sq):Prop
 | mk (W:Nat->Sq->Prop) (h0:∃ m,W m q) (turn:∀ m q,W m q->c q fun b=>if b=true then JF tb D W m q else D.nx q)
def Kc(c:QT)(tb:QS):QS:=fun D q=>WhileI c tb D q
theorem lT(hp:S8 (model X.prog X.w) X.A X.env X.xe)(hc:QPT X K c tc qc)(hb:oh X K rest t qt):QPS X K (.While c rest [] pos) (se tc t) (Kc qc qt):=⟨pf hp hc.h hb.h,fun dl H₀ hs H σ q Dq D r hq E=>by
 obtain⟨W,⟨m0,w0⟩,turn⟩:=hq;refine⟨fun m σ H=>∃ q,gE K dl H₀ hs H σ q/\W m q,⟨m0,q,r,w0⟩,?_⟩
 rintro m σ H ⟨q,⟨F,r⟩,w⟩
 refine hc.s dl H σ q _ _ r.rd (turn m q w) fun b H1 e1 hz=>?_
 cases b with
 | false=>exact E.nx H1 σ q ⟨F,r.evo e1⟩ hz
 | true =>
  obtain⟨N,hN,hz⟩:=hz;refine⟨fun σ' H'=>∃ q',gE K dl H₀ hs H' σ' q'/\N q',fun σ' H' ⟨q',r',n'⟩=>?_,?_⟩
  ·obtain⟨m',hm,w'⟩:=hN q' n';exact⟨m',hm,q',r',w'⟩
  ·exact hb.s dl H₀ hs H1 σ q _ _ ⟨F,r.evo e1⟩ hz ⟨fun H σ q r n=>⟨q,r,n⟩,fun H σ q r n=>E.nx H σ q r n,fun H σ q r n=>⟨q,r,n⟩,E.rt,E.ru⟩⟩
end
abbrev PSp:=List T ->(T->Prop)->Prop
def spQ(K:W.Frag)(ps:PSp):Sp:=fun vs H Q _=>∃(dl:Dl)(ts:List T)(F:List Addr)(Qp:T->Prop),Dls dl H/\Rps K dl H vs ts F/\ps ts Qp /\
 ∀ v t F' H',Evo dl H H'->Rp K dl H' v t F' ->(∀ b∈F',H b=none)->F'.Nodup->Qp t->Q v H'
section
variable{X:Cx}{K:W.Frag}{e:Expr}{es:List Expr}{tl:TA}{ql:QA}{pos p:Pos}{k:Nat}{f:Addr}{fd:FuncData}{prs:List Str}{ps:PSp}
def CS(ps:PSp)(ql:QA):QE:=fun q Q=>ql q fun ts=>ps ts Q
theorem Cj(ha:yz K n tl ql):mw K (yL (spQ K ps) [] E0 tl) (CS ps ql):=fun dl H σ q Q R rd hq k=>ha dl H σ q _ _ rd hq fun vs ts F H1 e1 r1 _ hz=>by
 show spQ K ps (vs ++ []) H1 R E0;rw[Q6];exact⟨dl,ts,F,Q,e1.d,r1,hz,fun v t F' H' e r f n hz=>k v t F' H' (e1.trans e) r (fun b hb=>e1.free (f b hb)) n hz⟩
theorem Gz(F:aQ X.prog X.w X.K X.mg X.base CX0 k f fd prs (spQ K ps))(hr:bT k X.A)(hg:Gl X x)(hm:X.mg x=some (.ref f))(hk:W.keepIn X.K (.ref f)=true)(hb:Binds X.K fd prs [])(ha:QPA X K (e::es) tl ql)
  (hdb:(x ==("__debug__":Str))=false:=by decide) (he:L9 (e::es) X.env =(false,eval e X.env)::L9 es X.env:=by rfl) (hpl:(backTo pos (L9 es X.env)).any (·.1)=false:=by rfl) :
  QPF X K (.Call (.Name x p) (e::es) [] pos) (yL (spQ K ps) [] E0 tl) (CS ps ql):=⟨zc F hr hg hm hk hb .nil l6 ha.h hdb he hpl,Cj ha.s⟩
end
theorem rC{K:W.Frag}{vs:List V}{ts:List T}{F:List Addr}(D:Dls dl H)(r:Rps K dl H vs ts F)(hn:vs.length<=n):gE K dl H [] H (vs.map some++Ri (n - vs.length) none) (ts.map Sl.r++Ri (n - vs.length) .no):=by
 have hl:=r.r.len;have main:∀{vs:List V}{ts:List T}{F:List Addr},ai K dl H vs ts F ->(∀ b∈F,Nd dl b)->∃ Fs:Nat->List Addr,(∀(i:Nat)(t:T),ts[i]? = some t->∃ v,vs[i]? = some v/\Rp K dl H v t (Fs i))/\∀ i,ts.length<=i->Fs i = []:=by
  intro vs ts F h
  induction ts generalizing vs F with
  | nil=>intro _;exact⟨fun _=>[],fun i t e=>by simp at e,fun _ _=>rfl⟩
  | cons t ts ih =>
   cases h with
   | @cons v0 _ vs0 _ F1 G1 h1 h2 =>
    intro hn;obtain⟨Fs,g1,g2⟩:=ih h2 fun b hb=>hn b (PJ _ hb)
    refine⟨fun i=>match i with | 0=>F1|i+1=>Fs i,fun i u e=>?_,fun i hi=>?_⟩
    ·cases i with
     | zero =>
      simp at e;subst e;exact⟨_,by simp,h1,fun b hb=>hn b (QP _ hb)⟩
     | succ i =>
      obtain⟨v,e1,e2⟩:=g1 i u (by simpa using e)
      exact⟨v,by simpa using e1,e2⟩
    ·cases i with
     | zero=>simp at hi
     | succ i=>exact g2 i (by simpa using hi)
 obtain⟨Fs,g1,g2⟩:=main r.r r.n;have lk:∀(i:Nat)(y:Sl),(ts.map Sl.r++Ri (n - vs.length) Sl.no)[i]? = some y ->(∃ t,ts[i]? = some t/\y = .r t)\/(ts.length<=i/\y = .no):=fun i y h=>by
  by_cases hi:i<ts.length
  ·rw[RF (by simpa using hi),Q0,QU hi]at h
   exact .inl ⟨ts[i],by simp,(Option.some.inj h).symm⟩
  ·rw[Rw (by simpa using hi),Sr]at h
   split at h
   ·exact .inr ⟨by omega,(Option.some.inj h).symm⟩
   ·cases h
 refine⟨Fs,D,fun i y t h1 h2=>?_,fun i y h1 h2=>?_,fun i hi=>?_,fun i t h1=>?_,fun p hp=>(by cases hp),.refl,by simp[hl]⟩
 ·rcases lk i y h1 with⟨u,e,rfl⟩ |⟨_,rfl⟩
  ·cases h2;obtain⟨v,e1,e2⟩:=g1 i t e;refine⟨v,?_,e2⟩;have hi:i<vs.length:=(Qx.mp e1).1;rw[RF (by simpa using hi),Q0,e1]
   rfl
  ·cases h2
 ·rcases lk i y h1 with⟨u,e,rfl⟩ |⟨hi,rfl⟩
  ·cases h2
  ·exact g2 i hi
 ·refine g2 i ?_;simp at hi;omega
 ·rcases lk i _ h1 with⟨u,e,z⟩ |⟨_,z⟩ <;> cases z
variable{P:Program}{mg:Str->Option Value}{base:Heap}{qual:Str}{st:Stmt}{fd:FuncData}{N:List Str}{ps:List Str}
theorem Fun.okQ{w:World}{K:W.Frag}{f:Addr}{k:Nat}{psp:PSp}(F:Fun K x qual st f fd)(S:aA N ps (ak st))(len:∀ ts Q,psp ts Q->ts.length=ps.length)
  (ma:∀(cdv:Value)(A:Around)(outer:List Env)(s:Shared)(H:Hp)(E:XK),bT k (A.deeper (envOfC qual (ak st) s.heap.objs.size f cdv)) ->
   ∃ t qs,oh (qW CX0 P w K mg base N qual (ak st) f cdv A outer s H E).nox K (bH st) t qs/\∀ ts Q,psp ts Q->qs { nx:=fun _=>Q .n,rt:=Q } (ts.map Sl.r++Ri (N.length - ts.length) .no)):aQ P w K mg base CX0 (k+1) f fd ps (spQ K psp):=by
 have hPN:ps.length<=N.length:=by have:=congrArg TK S.pre;rw[RP]at this;omega
 refine F.ok S (fun vs H Q E h=>?_) (fun cdv A outer s H vs Q E hr h=>?_)
 ·obtain⟨dl,ts,F,Qp,_,r,h,_⟩:=h;rw[r.r.len];exact len ts Qp h
 ·obtain⟨dl,ts,Fp,Qp,D,r,h,fin⟩:=h;obtain⟨t,qs,hb,hq⟩:=ma cdv A outer s H E hr;refine⟨t,hb.h,?_⟩;have hlen:=len ts Qp h;have hl:=r.r.len;have z:=hq ts Qp h;have R:=rC (n:=N.length) D r (by omega)
  rw[<- hl]at z;refine hb.s dl H [] H _ _ _ _ R z ⟨fun H' σ q ⟨F,r'⟩ hz=>?_,fun _ _ _ _ hz=>hz.elim,fun _ _ _ _ hz=>hz.elim,fun v t F H' D' r' f' n' fr hz=>?_,fun _ _ _ _ _ _ _ _ _ _ _ _ z=>z.elim⟩
  ·exact fin .non .n [] H' (r'.f.evo r'.d) ⟨.n,fun _ z=>nomatch z⟩ (fun _ z=>nomatch z) QG hz
  ·exact fin v t F H' (fr.evo D') r' f' n' hz
structure yB(K:W.Frag)(dl:Dl)(J:It)(xs:List T)(hv:List (V×T)):Prop where
 go:∀(H:Hp)(i:Nat),Dls dl H ->(∀ p∈hv,∃ F,Rp K dl H p.1 p.2 F)->i<xs.length->J.go i H
 yld:∀(H:Hp)(i:Nat)(x:T)(fp:V×T->List Addr)(v:V)(H':Hp),Dls dl H ->(∀ p∈hv,Rp K dl H p.1 p.2 (fp p))->xs[i]? = some x->J.yld i H v H'->Evo dl H H'/\∃ F,Rp K dl H' v x F/\∀ b∈F,H b=none\/∃ p∈hv,b∈fp p
 stop:∀(H:Hp),Dls dl H ->(∀ p∈hv,∃ F,Rp K dl H p.1 p.2 F)->J.stop xs.length H
variable{lo:Int}
section
variable{X:Cx}{K:W.Frag}
theorem oE{xs:List T}:yB K dl (Itl K a) xs [(.ref a,.l xs)] where
 go:=fun H i D h hi=>by
  obtain⟨F,r⟩:=h _ (Es.mpr rfl);obtain⟨p,vs,G,e,_,h1,h2⟩:=r.r.lst;cases e;exact⟨vs,vs[i]'(by rw[h2.len];exact hi),SqL.of h1,by simp[h2.len,hi]⟩
 yld:=fun H i x fp v H' D h hx y=>by
  have r:=h _ (Es.mpr rfl);obtain⟨p,vs,G,e,eF,h1,h2⟩:=r.r.lst;cases e;obtain⟨rfl,y⟩:=y;obtain⟨w,G',hw,rw',hs⟩:=h2.get hx;have e2:=y vs (SqL.of h1);rw[hw]at e2;cases e2;have sub:∀ b∈G',b∈fp (V.ref a,T.l xs):=fun b hb=>by
   rw[eF];exact j5 _ (hs b hb)
  exact⟨.refl D,G',⟨rw',fun b hb=>r.n b (sub b hb)⟩,fun b hb=>.inr ⟨_,Es.mpr rfl,sub b hb⟩⟩
 stop:=fun H D h=>by
  obtain⟨F,r⟩:=h _ (Es.mpr rfl);obtain⟨p,vs,G,e,_,h1,h2⟩:=r.r.lst;cases e;exact⟨vs,SqL.of h1,by rw[h2.len];exact QX _⟩
theorem Jo{xs:List T}:yB K dl (Itl K a) xs [(.ref a,.zl xs)] where
 go:=fun H i D h hi=>by
  obtain⟨F,r⟩:=h _ (Es.mpr rfl);obtain⟨p,o,vs,e,_,h1,h2⟩:=r.r.zls;cases e;exact⟨vs,vs[i]'(by rw[h2.len];exact hi),.inl (.inr ⟨o,h1⟩),by simp[h2.len,hi]⟩
 yld:=fun H i x fp v H' D h hx y=>by
  have r:=h _ (Es.mpr rfl);obtain⟨p,o,vs,e,eF,h1,h2⟩:=r.r.zls;cases e;obtain⟨rfl,y⟩:=y;obtain⟨w,G',hw,rw',hs⟩:=h2.get hx;have e2:=y vs (.inl (.inr ⟨o,h1⟩));rw[hw]at e2;cases e2;exact⟨.refl D,G',⟨rw',fun b hb=>nomatch hs b hb⟩,fun b hb=>nomatch hs b hb⟩
 stop:=fun H D h=>by
  obtain⟨F,r⟩:=h _ (Es.mpr rfl);obtain⟨p,o,vs,e,_,h1,h2⟩:=r.r.zls;cases e;exact⟨vs,.inl (.inr ⟨o,h1⟩),by rw[h2.len];exact QX _⟩
theorem DL{xs:List T}:yB K dl (Itt K a) xs [(.ref a,.t xs)] where
 go:=fun H i D h hi=>by
  obtain⟨F,r⟩:=h _ (Es.mpr rfl);obtain⟨p,vs,e,h1,h2⟩:=r.r.tup;cases e;exact⟨vs,vs[i]'(by rw[h2.len];exact hi),SqT.of h1,by simp[h2.len,hi]⟩
 yld:=fun H i x fp v H' D h hx y=>by
  have r:=h _ (Es.mpr rfl);obtain⟨p,vs,e,h1,h2⟩:=r.r.tup;cases e;obtain⟨rfl,y⟩:=y;obtain⟨w,G',hw,rw',hs⟩:=h2.get hx;have e2:=y vs (SqT.of h1);rw[hw]at e2;cases e2;exact⟨.refl D,G',⟨rw',fun b hb=>r.n b (hs b hb)⟩,fun b hb=>.inr ⟨_,Es.mpr rfl,hs b hb⟩⟩
 stop:=fun H D h=>by
  obtain⟨F,r⟩:=h _ (Es.mpr rfl);obtain⟨p,vs,e,h1,h2⟩:=r.r.tup;cases e;exact⟨vs,SqT.of h1,by rw[h2.len];exact QX _⟩
theorem DM:yB K dl (Itr lo n) ((Rf n).map fun i=>.i (lo+(i:Nat))) [] where
 go:=fun H i D h hi=>by
  show i<n;simpa using hi
 yld:=fun H i x fp v H' D h hx y=>by
  obtain⟨rfl,rfl⟩:=y;rw[Q0]at hx;cases e:(Rf n)[i]? with
  | none=>rw[e]at hx;cases hx
  | some j =>
   rw[e]at hx;have hj:j=i:=by
    have:=Qx.mp e
    obtain⟨h1,h2⟩:=this;simp at h2;exact h2.symm
   subst hj;cases hx;exact⟨.refl D,[],.c (.i _),fun _ z=>nomatch z⟩
 stop:=fun H D h=>by show n<=_;simp
abbrev QI:=Sq ->(List T->Prop)->Prop
def N6(K:W.Frag)(wi:TI)(iq:QI):Prop:=∀(dl:Dl)(H:Hp)(σ:St)(q:Sq)(Q:List T->Prop)(R:It->Hp->Prop),RdR K dl H σ q->iq q Q ->
 (∀ xs J hv H',Evo dl H H'->yB K dl J xs hv ->(∀ p∈hv,∃ F,Rp K dl H' p.1 p.2 F)->Q xs->R J H')->wi σ H R
structure QPI(X:Cx)(K:W.Frag)(tg iter:Expr)(wi:TI)(iq:QI):Prop where
 h:PI X tg iter wi
 s:N6 K wi iq
abbrev QJ:=Sq ->(List T->Sq->Prop)->Prop
def Qw(K:W.Frag)(wi:TI)(iq:QJ):Prop:=∀(dl:Dl)(H₀:Hp)(hs:List (V×T))(H:Hp)(σ:St)(q:Sq)(Q:List T->Sq->Prop)(R:It->Hp->Prop),gE K dl H₀ hs H σ q->iq q Q ->
 (∀ xs J hv H' q',gE K dl H₀ (hv++hs) H' σ q'->yB K dl J xs hv->Q xs q'->R J H')->wi σ H R
structure QPJ(X:Cx)(K:W.Frag)(tg iter:Expr)(wi:TI)(iq:QJ):Prop where
 h:PI X tg iter wi
 s:Qw K wi iq
variable{tg e a b:Expr}{te ta tb:TE}{qe qa qb:QE}{tl:TA}{ql:QA}{pos p:Pos}
theorem pk(hK:X.K=K)(h:PE X e te):PI X tg e (vF K te):=by subst hK;exact oB h
theorem y4(hK:X.K=K)(h:PE X e te):PI X tg e (HE K te):=by subst hK;exact Kz h
def asL(qe:QE):QI:=fun q Q=>qe q fun t=>match t with | .l xs=>Q xs | .zl xs=>Q xs | _=>False
def asT(qe:QE):QI:=fun q Q=>qe q fun t=>match t with | .t xs=>Q xs | _=>False
theorem yU(h:QPE X K e te qe)(hK:X.K=K:=by rfl):QPI X K tg e (vF K te) (asL qe):=⟨pk hK h.h,fun dl H σ q Q R rd hq k=>h.s dl H σ q _ _ rd hq fun v t F H' e1 r hz=>by
 split at hz
 ·obtain⟨p,vs,G,rfl,rfl,h1,h2⟩:=r.r.lst;exact⟨p,rfl,⟨vs,SqL.of h1⟩,k _ _ _ H' e1 oE (fun p hp=>by rw[Es.mp hp];exact⟨_,r⟩) hz⟩
 ·obtain⟨p,o,vs,rfl,rfl,h1,h2⟩:=r.r.zls;exact⟨p,rfl,⟨vs,.inl (.inr ⟨o,h1⟩)⟩,k _ _ _ H' e1 Jo (fun p hp=>by rw[Es.mp hp];exact⟨_,r⟩) hz⟩
 ·exact hz.elim⟩
theorem w6(h:QPE X K e te qe)(hK:X.K=K:=by rfl):QPI X K tg e (HE K te) (asT qe):=⟨y4 hK h.h,fun dl H σ q Q R rd hq k=>h.s dl H σ q _ _ rd hq fun v t F H' e1 r hz=>by
 split at hz
 ·obtain⟨p,vs,rfl,h1,h2⟩:=r.r.tup;exact⟨p,rfl,⟨vs,SqT.of h1⟩,k _ _ _ H' e1 DL (fun p hp=>by rw[Es.mp hp];exact⟨_,r⟩) hz⟩
 ·exact hz.elim⟩
def Ct(lo:Int)(n:Nat):List T:=(Rf n).map fun i=>.i (lo+(i:Nat))
theorem sG{i:Nat}{x:T}(h:(Ct lo n)[i]? = some x):x = .i (lo+(i:Nat))/\i<n:=by
 unfold Ct at h;rw[Q0]at h;obtain⟨j,hj,rfl⟩:=Rh.mp h;obtain⟨h1,h2⟩:=Qx.mp hj;simp at h1 h2;subst h2;exact⟨rfl,h1⟩
theorem lP:(Ct lo n).length=n:=by simp[Ct]
def N0(ql:QA):QI:=fun q Q=>ql q fun ts=>match ts with | [.i n]=>-(2 ^ 62)<=n/\n<2 ^ 62/\Q (Ct 0 n.toNat) | _=>False
theorem Ai(hg:Gl X "range")(hm:X.mg "range" = none)(ha:QPA X K [a] tl ql)(hs:L9 [a] X.env = [(false,eval a X.env)]:=by rfl):QPI X K tg (.Call (.Name "range" p) [a] [] pos) (DQ tl) (N0 ql):=⟨rG hg hm ha.h hs,fun dl H σ q Q R rd hq k=>ha.s dl H σ q _ _ rd hq fun vs ts F H' e1 r _ hz=>by
 split at hz
 ·obtain⟨v,rfl,r'⟩:=r.one;obtain⟨rfl,_⟩:=r'.r.int;exact⟨_,rfl,hz.1,hz.2.1,k _ _ [] H' e1 DM (fun _ z=>nomatch z) hz.2.2⟩
 ·exact hz.elim⟩
def asJ(iq:QI):QJ:=fun q Q=>iq q fun xs=>Q xs q
theorem mL(hg:Gl X "range")(hm:X.mg "range" = none)(ha:QPA X K [a] tl ql)(hs:L9 [a] X.env = [(false,eval a X.env)]:=by rfl):QPJ X K tg (.Call (.Name "range" p) [a] [] pos) (DQ tl) (asJ (N0 ql)):=⟨rG hg hm ha.h hs,fun dl H₀ hs H σ q Q R ⟨F0,r0⟩ hq k=>ha.s dl H σ q _ _ r0.rd hq fun vs ts F H' e1 r _ hz=>by
 split at hz
 ·obtain⟨v,rfl,r'⟩:=r.one;obtain⟨rfl,_⟩:=r'.r.int;exact⟨_,rfl,hz.1,hz.2.1,k _ _ [] H' q ⟨F0,r0.evo e1⟩ DM hz.2.2⟩
 ·exact hz.elim⟩
theorem Gv(h:QPF X K e te qe)(hK:X.K=K:=by rfl):QPJ X K tg e (vF K te) (asJ (asL qe)):=⟨pk hK h.h,fun dl H₀ hs H σ q Q R ⟨F0,r0⟩ hq k=>h.s dl H σ q _ _ r0.rd hq fun v t F H' e1 r f n hz=>by
 split at hz
 ·have r1:=(r0.evo e1).hold r fun j u hj b hb z=>(r0.cV hb).no (f b z)
  obtain⟨p,vs,G,rfl,rfl,h1,h2⟩:=r.r.lst;exact⟨p,rfl,⟨vs,SqL.of h1⟩,k _ _ _ H' q ⟨F0,r1⟩ oE hz⟩
 ·have r1:=(r0.evo e1).hold r fun j u hj b hb z=>(r0.cV hb).no (f b z)
  obtain⟨p,o,vs,rfl,rfl,h1,h2⟩:=r.r.zls;exact⟨p,rfl,⟨vs,.inl (.inr ⟨o,h1⟩)⟩,k _ _ _ H' q ⟨F0,r1⟩ Jo hz⟩
 ·exact hz.elim⟩
theorem J8(h:QPF X K e te qe)(hK:X.K=K:=by rfl):QPJ X K tg e (HE K te) (asJ (asT qe)):=⟨y4 hK h.h,fun dl H₀ hs H σ q Q R ⟨F0,r0⟩ hq k=>h.s dl H σ q _ _ r0.rd hq fun v t F H' e1 r f n hz=>by
 split at hz
 ·have r1:=(r0.evo e1).hold r fun j u hj b hb z=>(r0.cV hb).no (f b z)
  obtain⟨p,vs,rfl,h1,h2⟩:=r.r.tup;exact⟨p,rfl,⟨vs,SqT.of h1⟩,k _ _ _ H' q ⟨F0,r1⟩ DL hz⟩
 ·exact hz.elim⟩
def asN(i:Nat):QJ:=fun q Q=>match q[i]? with
 | some (.o (.l xs))=>Q xs (q.set i (.r (.l xs)))
 | some (.r (.l xs))=>Q xs q
 | _=>False
theorem oy{i:Nat}(h:PE X e (di i))(hK:X.K=K:=by rfl):QPJ X K tg e (vF K (di i)) (asN i):=⟨pk hK h,fun dl H₀ hs H σ q Q R ⟨F0,r0⟩ hq k=>by
 unfold asN at hq
 split at hq
 ·rename_i xs e1;obtain⟨v,hv,r⟩:=r0.g i _ _ e1 rfl;obtain⟨o1,o2,o3⟩:=r0.o i _ e1;have r1:=(r0.down e1).hold r fun j u hj b hb=>by
   rcases get_set hj with⟨_,z,_⟩ |⟨ne,hj⟩
   ·cases z
   ·exact(r0.o j u hj).2.2 i (fun z=>ne z.symm) b hb
  obtain⟨p,vs,G,rfl,_,h1,h2⟩:=r.r.lst;exact⟨_,hv,p,rfl,⟨vs,SqL.of h1⟩,k _ _ _ H _ ⟨F0,r1⟩ oE hq⟩
 ·rename_i xs e1;obtain⟨v,hv,r⟩:=r0.g i _ _ e1 rfl;have r1:=r0.hold r fun j u hj b hb=>(r0.o j u hj).2.2 i (fun z=>by subst z;rw[e1]at hj;cases hj) b hb
  obtain⟨p,vs,G,rfl,_,h1,h2⟩:=r.r.lst;exact⟨_,hv,p,rfl,⟨vs,SqL.of h1⟩,k _ _ _ H _ ⟨F0,r1⟩ oE hq⟩
 ·exact hq.elim⟩
inductive Tg where
 | nm(i:Nat)|tp (is:List Nat)
def nQ(q:Sq):List Nat->List T->Option Sq
 | [],[]=>some q
 | i::is,x::xs=>if i<q.length then nQ (q.set i (.r x)) is xs else none
 | _,_=>none
def Tg.put(g:Tg)(x:T)(q:Sq):Option Sq:=match g with
 | .nm i=>if i<q.length then some (q.set i (.r x))else none
 | .tp is=>match x with | .t xs=>nQ q is xs | _=>none
def jV:List Nat->TGs
 | []=>Ln
 | i::is=>zt (gw i) (jV is)
def Tg.h(K:W.Frag):Tg->TG
 | .nm i=>gw i
 | .tp is=>x5 K is.length (jV is)
theorem rD{H₀ H:Hp}{hs:List (V×T)}:∀{is:List Nat}{vs:List V}{xs:List T}{G:List Addr}{σ:St}{q q':Sq}{F:Nat->List Addr}{R:St->Hp->Prop},Rel K dl H₀ hs H σ q F->ai K dl H vs xs G ->(∀ b∈G,Nd dl b) ->
  (∀(j:Nat)(u:T),q[j]? = some (.o u)->∀ b∈F j,b ∉ G)->nQ q is xs=some q' ->(∀ σ',gE K dl H₀ hs H σ' q'->R σ' H)->jV is vs σ H R
 | [],vs,xs,G,σ,q,q',F,R,r,rs,_,_,hp,k=>by
  cases xs with
  | cons _ _=>cases hp
  | nil =>
   cases rs;cases hp;exact⟨rfl,k σ ⟨F,r⟩⟩
 | i::is,vs,xs,G,σ,q,q',F,R,r,rs,hn,ho,hp,k=>by
  cases xs with
  | nil=>cases hp
  | cons x xs =>
   cases rs with
   | cons r1 r2 =>
    unfold nQ at hp;by_cases hi:i<q.length
    ·rw[if_pos hi]at hp;refine⟨_,_,rfl,?_⟩;have r':=r.MR hi ⟨r1,fun b hb=>hn b (QP _ hb)⟩ fun j u hj _ b hb z=>ho j u hj b hb (QP _ z)
     refine rD r' r2 (fun b hb=>hn b (PJ _ hb)) (fun j u hj b hb z=>?_) hp k
     rcases get_set hj with⟨_,z',_⟩ |⟨ne,hj⟩
     ·cases z'
     ·rw[au ne]at hb;exact ho j u hj b hb (PJ _ z)
    ·rw[if_neg hi]at hp;cases hp
theorem Cv{hs:List (V×T)}{g:Tg}{v:V}{x:T}{σ:St}{q':Sq}{F:Nat->List Addr}{R:St->Hp->Prop}(r:Rel K dl H₀ hs H σ q F)(rx:Rp K dl H v x G)
  (ho:∀(j:Nat)(u:T),q[j]? = some (.o u)->∀ b∈F j,b ∉ G) (hp:g.put x q=some q') (k:∀ σ',gE K dl H₀ hs H σ' q'->R σ' H):g.h K v σ H R:=by
 cases g with
 | nm i =>
  replace hp:(if i<q.length then some (q.set i (.r x))else none)=some q':=hp
  by_cases hi:i<q.length
  ·rw[if_pos hi]at hp;cases hp;exact k _ ⟨_,r.MR hi rx fun j u hj _=>ho j u hj⟩
  ·rw[if_neg hi]at hp;cases hp
 | tp is =>
  cases x with
  | t xs =>
   replace hp:nQ q is xs=some q':=hp
   obtain⟨p,vs,rfl,h1,h2⟩:=rx.r.tup;have hl:∀{is:List Nat}{xs:List T}{q q':Sq},nQ q is xs=some q'->xs.length=is.length:=fun{is}=>by
    induction is with
    | nil=>intro xs q q' h;cases xs with
     | nil=>rfl
     | cons _ _=>cases h
    | cons i is ih=>intro xs q q' h;cases xs with
     | nil=>cases h
     | cons x xs =>
      unfold nQ at h;by_cases hi:i<q.length
      ·rw[if_pos hi]at h;simp[ih h]
      ·rw[if_neg hi]at h;cases h
   exact⟨p,vs,rfl,SqT.of h1,by rw[h2.len];exact hl hp,rD r h2 rx.n ho hp k⟩
  | _=>cases hp
end
variable{tg:Expr}{iter:Expr}{body:List Stmt}{cap:List (Option Nat)}{iq:QI}{tst:TT}{mJ:QT}{te:TE}{qe:QE}{N':List Str}{sc:Scope}{elt:Expr}{ifs:List Expr}
section
variable{X:Cx}{K:W.Frag}{hs:List (V×T)}{σ:St}{F:Nat->List Addr}
theorem Rel.r8{hv:List (V×T)}(r:Rel K dl H₀ (hv++hs) H σ q F):Rel K dl H₀ hs H σ q F:=⟨r.d,r.g,r.n,r.z,r.o,fun p hp=>r.h p (PJ _ hp),r.f,r.l⟩
theorem Rel.fps{hv:List (V×T)}(r:Rel K dl H₀ (hv++hs) H σ q F):∃ fp:V×T->List Addr,∀ p∈hv,Rp K dl H p.1 p.2 (fp p)/\∀(i:Nat)(t:T),q[i]? = some (.o t)->∀ b∈F i,b ∉ fp p:=by
 classical
 refine⟨fun p=>if h:p∈hv then(r.h p (QP _ h)).choose else [],fun p hp=>?_⟩
 have z:=(r.h p (QP _ hp)).choose_spec;simp only[dif_pos hp];exact z
inductive Qy(g:Tg)(qb:QS)(D:qy)(xs:List T)(q0:Sq):Prop
 | mk(I:Nat->Sq->Prop)(h0:I 0 q0)(step:∀ i x q,xs[i]? = some x->I i q->∃ q',g.put x q=some q'/\qb { D with nx:=I (i+1),ct:=I (i+1),bk:=D.nx } q')(fin:∀ q,I xs.length q->D.nx q)
def Pp(iq:QJ)(g:Tg)(qb:QS):QS:=fun D q=>iq q fun xs q0=>Qy g qb D xs q0
theorem gY{wi:TI}{iq:QJ}{g:Tg}{tb:TS}{qb:QS}{pos:Pos}(hp:S8 (model X.prog X.w) X.A X.env X.xe)(hc:X.calm=true)(hi:QPJ X K tg iter wi iq)(hg:PG X tg (g.h K))(hb:oh X K body tb qb)
  (hs:∀ x,foldedSetIterable iter X.env x=pure x:=by intro _;rfl):QPS X K (.For tg iter body [] pos) (L5 wi (g.h K) tb) (Pp iq g qb):=⟨CV hp hc hi.h hg hb.h hs,fun dl H₀ hs H σ q Dq D r hq E=>by
 refine hi.s dl H₀ hs H σ q _ _ r hq fun xs J hv H1 q1 r1 it hz=>?_
 obtain⟨I,i0,turn,fin⟩:=hz;refine⟨fun i m σ H=>m=xs.length - i/\i<=xs.length/\∃ q,gE K dl H₀ (hv++hs) H σ q/\I i q,⟨xs.length,by simp,RE _,q1,r1,i0⟩,?_⟩
 rintro i m σ H ⟨rfl,hi',q,⟨F,r⟩,hI⟩
 have held:∀ p∈hv,∃ F,Rp K dl H p.1 p.2 F:=fun p hp=>let⟨Fp,h,_⟩:=r.h p (QP _ hp);⟨Fp,h⟩
 by_cases hlt:i<xs.length
 ·refine .inr ⟨it.go H i r.d held hlt,fun σ' H'=>∃ q,gE K dl H₀ (hv++hs) H' σ' q/\I (i+1) q,fun σ' H' h=>⟨xs.length - (i+1),by omega,rfl,hlt,h⟩,fun v H' y=>?_⟩
  obtain⟨fp,hfp⟩:=r.fps;have hx:xs[i]? = some xs[i]:=by simp[hlt]
  obtain⟨e1,G,rx,hG⟩:=it.yld H i xs[i] fp v H' r.d (fun p hp=>(hfp p hp).1) hx y
  obtain⟨q',hq',hz⟩:=turn i xs[i] q hx hI;refine Cv (r.evo e1) rx (fun j u hj b hb z=>?_) hq' fun σ2 r2=>hb.s dl H₀ (hv++hs) H' σ2 q' _ _ r2 hz ⟨fun H σ q r n=>⟨q,r,n⟩,fun H σ q ⟨F,r⟩ n=>E.nx H σ q ⟨F,r.r8⟩ n,fun H σ q r n=>⟨q,r,n⟩,E.rt,fun H σ q F0 v t F r=>E.ru H σ q F0 v t F r.r8⟩
  rcases hG b z with h |⟨p,hp,h⟩
  ·exact(r.cV hb).no h
  ·exact(hfp p hp).2 j u hj b hb h
 ·have e:i=xs.length:=by omega
  subst e;exact .inl ⟨it.stop H r.d held,E.nx H σ q ⟨F,r.r8⟩ (fin q hI)⟩⟩
def j6(cap:List (Option Nat))(q:Sq):Sq:=cap.map fun o=>match o with
 | none=>.no
 | some i=>match q[i]? with
  | some (.o t)=>.r t
  | some (.r t)=>.r t
  | _=>.no
theorem Gd(r:RdR K dl H σ q):RdR K dl H (ml cap σ) (j6 cap q):=⟨r.d,fun j x t h1 h2=>by
 unfold j6 at h1;rw[Q0]at h1;cases e:cap[j]? with
 | none=>rw[e]at h1;cases h1
 | some o =>
  rw[e]at h1;cases o with
  | none=>cases h1;cases h2
  | some i =>
   have go:∀ y:Sl,q[i]? = some y->y.get=some t->∃ v F,(ml cap σ)[j]? = some (some v)/\Rp K dl H v t F:=fun y hy ht=>by
    obtain⟨v,F,h3,h4⟩:=r.g i y t hy ht;refine⟨v,F,?_,h4⟩;unfold ml;rw[Q0,e];show some ((σ[i]?).join)=_;rw[h3];rfl
   replace h1:(match q[i]? with|some (.o t)=>Sl.r t|some (.r t)=>.r t | _=>.no)=x:=Option.some.inj h1
   split at h1
   ·rename_i u eq;subst h1;cases h2;exact go _ eq rfl
   ·rename_i u eq;subst h1;cases h2;exact go _ eq rfl
   ·subst h1;cases h2⟩
theorem RdR.set{i:Nat}{v:V}{x:T}{G:List Addr}(r:RdR K dl H σ q)(hl:i < σ.length)(rx:Rp K dl H v x G):RdR K dl H (σ.set i (some v)) (q.set i (.r x)):=⟨r.d,fun j y t h1 h2=>by
 rcases get_set h1 with⟨rfl,rfl,_⟩ |⟨ne,h1⟩
 ·cases h2;exact⟨v,G,by rw[Rx hl],rx⟩
 ·obtain⟨w,F,h3,h4⟩:=r.g j y t h1 h2;exact⟨w,F,by rw[Rq (fun z=>ne z.symm)];exact h3,h4⟩⟩
theorem RdR.any{i:Nat}{o:Option V}(r:RdR K dl H σ q)(hn:q[i]? = some .no):RdR K dl H (σ.set i o) q:=⟨r.d,fun j y t h1 h2=>by
 obtain⟨w,F,h3,h4⟩:=r.g j y t h1 h2;refine⟨w,F,?_,h4⟩;rw[Rq]
 ·exact h3
 ·intro z;subst z;rw[hn]at h1;cases h1;cases h2⟩
def Tg.ixs:Tg->List Nat
 | .nm i=>[i]
 | .tp is=>is
theorem u6:∀{is:List Nat}{vs:List V}{xs:List T}{G:List Addr}{σ:St}{q q0 q':Sq}{R:St->Hp->Prop},RdR K dl H σ q->RdR K dl H σ q0->σ.length=q.length->ai K dl H vs xs G ->(∀ b∈G,Nd dl b) ->(∀ i∈is,q0[i]? = some .no)->nQ q is xs=some q' ->
  (∀ σ',RdR K dl H σ' q'->RdR K dl H σ' q0->σ'.length=σ.length->R σ' H)->jV is vs σ H R
 | [],vs,xs,G,σ,q,q0,q',R,r,r0,_,rs,_,_,hp,k=>by
  cases xs with
  | cons _ _=>cases hp
  | nil =>
   cases rs;cases hp;exact⟨rfl,k σ r r0 rfl⟩
 | i::is,vs,xs,G,σ,q,q0,q',R,r,r0,hl,rs,hn,hf,hp,k=>by
  cases xs with
  | nil=>cases hp
  | cons x xs =>
   cases rs with
   | cons r1 r2 =>
    unfold nQ at hp;by_cases hi:i<q.length
    ·rw[if_pos hi]at hp;refine⟨_,_,rfl,?_⟩;refine u6 (r.set (by omega) ⟨r1,fun b hb=>hn b (QP _ hb)⟩) (r0.any (hf i qr)) (by simp[hl]) r2 (fun b hb=>hn b (PJ _ hb)) (fun j hj=>hf j (j5 _ hj)) hp fun σ' a b c=>k σ' a b (by simpa using c)
    ·rw[if_neg hi]at hp;cases hp
theorem vg:∀{is:List Nat}{xs:List T}{q q':Sq},nQ q is xs=some q'->xs.length=is.length
 | [],[],_,_,_=>rfl
 | [],_::_,_,_,h=>by cases h
 | _::_,[],_,_,h=>by cases h
 | i::is,x::xs,q,q',h=>by
  unfold nQ at h;by_cases hi:i<q.length
  ·rw[if_pos hi]at h;simp[vg h]
  ·rw[if_neg hi]at h;cases h
theorem Mh{g:Tg}{v:V}{x:T}{q':Sq}{R:St->Hp->Prop}(r:RdR K dl H σ q)(hl:σ.length=q.length)(rx:Rp K dl H v x G)(hf:∀ i∈g.ixs,q[i]? = some .no)(hp:g.put x q=some q')
  (k:∀ σ',RdR K dl H σ' q'->RdR K dl H σ' q->σ'.length=σ.length->R σ' H):g.h K v σ H R:=by
 cases g with
 | nm i =>
  replace hp:(if i<q.length then some (q.set i (.r x))else none)=some q':=hp
  by_cases hi:i<q.length
  ·rw[if_pos hi]at hp;cases hp;exact k _ (r.set (by omega) rx) (r.any (hf i (Es.mpr rfl))) (by simp)
  ·rw[if_neg hi]at hp;cases hp
 | tp is =>
  cases x with
  | t xs =>
   replace hp:nQ q is xs=some q':=hp
   obtain⟨p,vs,rfl,h1,h2⟩:=rx.r.tup;exact⟨p,vs,rfl,SqT.of h1,by rw[h2.len];exact vg hp,u6 r r hl h2 rx.n hf hp k⟩
  | _=>cases hp
def IZ:QT:=fun _ Q=>Q true
theorem Cb:nq K yH IZ:=fun dl H σ q Q R rd hq k=>k true H (.refl rd.d) hq
inductive CompI(cap:List (Option Nat))(g:Tg)(tst:QT)(qe:QE)(q:Sq)(Q:T->Prop)(xs:List T):Prop
 | mk (hl:xs.length<QD) (I:Nat->List T->Prop) (h0:I 0 []) (step:∀ i x ys,xs[i]? = some x->I i ys->∃ q',g.put x (j6 cap q)=some q'/\tst q' fun b=>if b=true then qe q' fun y=>I (i+1) (ys ++ [y])else I (i+1) ys) (fin:∀ ys,I xs.length ys->Q (.l ys))
def CQ(cap:List (Option Nat))(iq:QI)(g:Tg)(tst:QT)(qe:QE):QE:=fun q Q=>iq q fun xs=>CompI cap g tst qe q Q xs
theorem uS{wi:TI}{g:Tg}(hi:N6 K wi iq)(ht:nq K tst mJ)(he:mw K te qe)(hf:(g.ixs.all fun i=>cap[i]? == some none)=true):mw K (rA cap wi (g.h K) tst te) (CQ cap iq g mJ qe):=by
 intro dl H σ q Q R rd hq k;refine hi dl H σ q _ _ rd hq fun xs J hv H1 e1 it held hz=>?_
 obtain⟨hlen,I,i0,turn,fin⟩:=hz;have rd1:=Gd (cap:=cap) (rd.evo e1);have hno:∀ i∈g.ixs,(j6 cap q)[i]? = some .no:=fun i hi=>by
  have z:=RG.mp hf i hi;have z:cap[i]? = some none:=by simpa using z
  unfold j6;rw[Q0,z];rfl
 have hcl:(ml cap σ).length =(j6 cap q).length:=by simp[ml,j6]
 refine⟨fun i m vs σ' H'=>m=xs.length - i/\i<=xs.length/\∃ ts F,Evo dl H1 H'/\RdR K dl H' σ' (j6 cap q)/\σ'.length =(j6 cap q).length/\(∀ p∈hv,∃ F,Rp K dl H' p.1 p.2 F)/\Rps K dl H' vs ts F/\(∀ b∈F,H b=none)/\F.Nodup/\vs.length<=i/\I i ts,
  ⟨xs.length,by simp,RE _,[],[],.refl e1.d,rd1,hcl,held,⟨.nil,fun _ z=>nomatch z⟩,(fun _ z=>nomatch z),QG,QX _,i0⟩,?_⟩
 rintro i m vs σ' H' ⟨rfl,hi',ts,F,e2,rd2,hl2,vH,rs,fr,nd,hvl,hI⟩
 by_cases hlt:i<xs.length
 ·refine .inr ⟨it.go H' i e2.d vH hlt,by omega,fun vs2 σ2 H2=>∃ ts F,Evo dl H1 H2/\RdR K dl H2 σ2 (j6 cap q)/\σ2.length =(j6 cap q).length/\(∀ p∈hv,∃ F,Rp K dl H2 p.1 p.2 F)/\Rps K dl H2 vs2 ts F/\(∀ b∈F,H b=none)/\F.Nodup/\vs2.length<=i+1/\I (i+1) ts,
   fun vs2 σ2 H2 h=>⟨xs.length - (i+1),by omega,rfl,hlt,h⟩,fun v H2 y=>?_⟩
  have hx:xs[i]? = some xs[i]:=by simp[hlt]
  obtain⟨fp,hfp⟩:∃ fp:V×T->List Addr,∀ p∈hv,Rp K dl H' p.1 p.2 (fp p):=by
   classical
   refine⟨fun p=>if h:p∈hv then(vH p h).choose else [],fun p hp=>?_⟩
   simp only[dif_pos hp];exact(vH p hp).choose_spec
  obtain⟨e3,G,rx,hG⟩:=it.yld H' i xs[i] fp v H2 e2.d hfp hx y;obtain⟨q',hq',hz⟩:=turn i xs[i] ts hx hI;have Jr:∀{H3:Hp},Evo dl H' H3->∀ p∈hv,∃ F,Rp K dl H3 p.1 p.2 F:=fun{H3} e p hp=>let⟨F,r⟩:=vH p hp;⟨F,r.evo e2.d e⟩
  refine Mh (rd2.evo e3) hl2 rx hno hq' fun σ3 r3 r30 l3=>?_
  refine ht dl H2 σ3 q' _ _ r3 hz fun b H4 e4 hz=>?_
  cases b with
  | false=>exact⟨ts,F,(e2.trans e3).trans e4,r30.evo e4,by omega,Jr (e3.trans e4),(rs.evo e2.d e3).evo e3.d e4,fr,nd,by omega,hz⟩
  | true =>
   refine he dl H4 σ3 q' _ _ (r3.evo e4) hz fun w t G' H5 e5 rw' f5 n5 hz=>?_
   have E:=(e2.trans e3).trans (e4.trans e5);have rs5:=((rs.evo e2.d e3).evo e3.d (e4.trans e5));refine⟨ts ++ [t],F++(G' ++ []),E,r30.evo (e4.trans e5),by omega,Jr (e3.trans (e4.trans e5)),⟨rs5.r.append (.cons rw'.r .nil),fun b hb=>?_⟩,fun b hb=>?_,?_,by simp;omega,hz⟩
   ·rcases Q7.mp hb with hb|hb
    ·exact rs.n b hb
    ·rw[Q6]at hb;exact rw'.n b hb
   ·rcases Q7.mp hb with hb|hb
    ·exact fr b hb
    ·rw[Q6]at hb;exact((e1.trans e2).trans (e3.trans e4)).free (f5 b hb)
   ·rw[Q6];refine Rm.mpr ⟨nd,n5,fun x hx y hy exy=>?_⟩
    subst exy;have rs4:=(rs.evo e2.d e3).evo e3.d e4;exact cg.no (rs4.r.there x hx) (f5 x hy)
 ·have e:i=xs.length:=by omega
  subst e;refine .inl ⟨it.stop H' e2.d vH,by omega,fun D hD=>?_⟩
  exact k _ _ _ _ ((e1.trans e2).new hD) (rs.lst e2.d hD) (fun b hb=>by
   rcases QH.mp hb with e|hb
   ·rw[e];exact(e1.trans e2).free hD
   ·exact fr b hb) (rs.fresh hD nd) (fin ts hI)
structure QB(X:Cx)(K:W.Frag)(N':List Str)(sc:Scope)(tg:Expr)(g:Tg)(ifs:List Expr)(tst:TT)(mJ:QT)(elt:Expr)(te:TE)(qe:QE):Prop where
 b:∀ cl C s₂ H₂ fp,PG (blk X N' sc cl C s₂ H₂ fp) tg (g.h K)/\PTs (blk X N' sc cl C s₂ H₂ fp) ifs tst/\PE (blk X N' sc cl C s₂ H₂ fp) elt te
 t:nq K tst mJ
 e:mw K te qe
theorem pe{g:Tg}(h:∀ cl C s₂ H₂ fp,PG (blk X N' sc cl C s₂ H₂ fp) tg (g.h K)/\QPF (blk X N' sc cl C s₂ H₂ fp) K elt te qe):QB X K N' sc tg g [] yH IZ elt te qe :=
 ⟨fun cl C s₂ H₂ fp=>⟨(h cl C s₂ H₂ fp).1,yZ,(h cl C s₂ H₂ fp).2.h⟩,Cb,(h [] 0 X.s₀ (fun _=>none) []).2.s⟩
theorem Kb{c:Expr}{g:Tg}(h:∀ cl C s₂ H₂ fp,PG (blk X N' sc cl C s₂ H₂ fp) tg (g.h K)/\QPT (blk X N' sc cl C s₂ H₂ fp) K c tst mJ/\QPF (blk X N' sc cl C s₂ H₂ fp) K elt te qe):QB X K N' sc tg g [c] tst mJ elt te qe :=
 ⟨fun cl C s₂ H₂ fp=>⟨(h cl C s₂ H₂ fp).1,yY (h cl C s₂ H₂ fp).2.1.h,(h cl C s₂ H₂ fp).2.2.h⟩,(h [] 0 X.s₀ (fun _=>none) []).2.1.s,(h [] 0 X.s₀ (fun _=>none) []).2.2.s⟩
theorem lX{pos:Pos}{wi:TI}{g:Tg}(hc:X.calm=true)(hi:QPI X K tg iter wi iq)(qV:mB X sc N' cap)(hb:QB X K N' sc tg g ifs tst mJ elt te qe)
  (hf:(g.ixs.all fun i=>cap[i]? == some none)=true:=by rfl)
  (iB:sc.kind = .function:=by rfl) (gu:∀ y∈sc.names,y.2 ≠ .cell:=by decide) (jb:∀ y∈sc.names,y.2 = .local->sc.names.lookup y.1=some .local:=by decide)
  (jl:(sc.names.all fun y=>y.2 != .free ||(X.env.kindOf y.1==some .cell||X.env.kindOf y.1==some .free))=true:=by rfl)
  (hs:∀ x,foldedSetIterable iter X.env x=pure x:=by intro _;rfl):QPF X K (.ListComp elt [⟨tg,iter,ifs,0⟩] sc pos) (rA cap wi (g.h K) tst te) (CQ cap iq g mJ qe) :=
 ⟨zb hc hi.h qV hb.b iB gu jb jl hs,uS hi.s hb.t hb.e hf⟩
theorem Gr{i:Nat}{y:Str}{pos dq py:Pos}{wi:TI}{g:Tg}(hN:X.N.Nodup)(hi':X.N[i]? = some y)(hy:Loc X.env.scope y)
  (hc:X.calm=true) (hi:QPI X K tg iter wi iq) (qV:mB X sc N' cap) (hb:QB X K N' sc tg g ifs tst mJ elt te qe)
  (hf':(g.ixs.all fun i=>cap[i]? == some none)=true:=by rfl)
  (hsw:swapsWith (.ListComp elt [⟨tg,iter,ifs,0⟩] sc pos) (some (.Name y py)) dq.line X.env=pure true:=by rfl)
  (hf:X.fn y=true\/X.env.scope.names.lookup y=some .local:=by first|exact .inl rfl|exact .inr rfl|assumption)
  (iB:sc.kind = .function:=by rfl) (gu:∀ y∈sc.names,y.2 ≠ .cell:=by decide) (jb:∀ y∈sc.names,y.2 = .local->sc.names.lookup y.1=some .local:=by decide)
  (jl:(sc.names.all fun y=>y.2 != .free ||(X.env.kindOf y.1==some .cell||X.env.kindOf y.1==some .free))=true:=by rfl)
  (hs:∀ x,foldedSetIterable iter X.env x=pure x:=by intro _;rfl):QPS X K (.Assign [.Name y py] (.ListComp elt [⟨tg,iter,ifs,0⟩] sc pos) dq) (ku (rA cap wi (g.h K) tst te) (gw i)) (GA i (CQ cap iq g mJ qe)) :=
 ⟨y3 hN hi' hy hc hi.h qV hb.b hsw hf iB gu jb jl hs,yO (uS hi.s hb.t hb.e hf')⟩
end
section
variable{X:Cx}{K:W.Frag}{hs:List (V×T)}{σ:St}{F:Nat->List Addr}{e o:Expr}{pos apos aM:Pos}
theorem zip_inj:∀{ns:List Str}{vs us:List V},vs.length=ns.length->us.length=ns.length->ns.zip vs=ns.zip us->vs=us
 | [],[],[],_,_,_=>rfl
 | n::r,v::vs,u::us,h1,h2,e=>by
  injection e with e1 e2
  injection e1 with _ e1
  rw[e1,zip_inj (Nat.succ.inj h1) (Nat.succ.inj h2) e2]
theorem aq.uniq{v:V}{t:T}{F:List Addr}(h:aq K dl H v t F):∀{F':List Addr},aq K dl H v t F'->F=F' :=
 aq.rec (motive_1:=fun v t F _=>∀{F'},aq K dl H v t F'->F=F') (motive_2:=fun v t F _=>∀{F'},ai K dl H v t F'->F=F') (motive_3:=fun v t F _=>∀{F'},aF K dl H v t F'->F=F')
  (fun h=>(h.im rfl).symm) (fun _ _ h=>(h.im rfl).symm) (fun _ _ h=>(h.im rfl).symm) (fun _ _ h=>(h.im rfl).symm) (fun _ _ h=>(h.im rfl).symm)
  (fun h1 _ ih _ h=>by obtain⟨a,vs,e,h2,r⟩:=h.tup;cases e;rw[h1]at h2;cases h2;exact ih r)
  (fun h1 _ ih _ h=>by obtain⟨a,vs,G,e,rfl,h2,r⟩:=h.lst;cases e;rw[h1]at h2;cases h2;rw[ih r])
  (fun h1 _ ih _ h=>by obtain⟨a,vs,G,e,rfl,h2,r⟩:=h.dic;cases e;rw[h1]at h2;cases h2;rw[ih r])
  (fun _ _ h=>(h.im rfl).symm) (fun _ _ h=>(h.im rfl).symm) (fun _ _ h=>(h.im rfl).symm) (fun _ _ _ _ h=>(h.im rfl).symm) (fun _ _ h=>(h.im rfl).symm) (fun _ _ _ _ h=>(h.im rfl).symm)
  (fun _ _ _ h=>(h.im rfl).symm) (fun _ _ _ _ h=>(h.im rfl).symm) (fun h1 _ ih _ h=>by obtain⟨vs,G,e,rfl,h2,r⟩:=h.dpp;rw[h1]at h2;cases h2;rw[ih r]) (fun h1 _ ih _ h=>by obtain⟨vs,G,e,rfl,h2,r⟩:=h.lpp;rw[h1]at h2;cases h2;rw[ih r]) (fun _ _ _ _ h=>(h.im rfl).symm) (fun _ _ h=>(h.im rfl).symm) (fun h1 _ h4 hr ih _ h=>by
   obtain⟨dx,vs,G,e,rfl,h2,_,h3,r⟩:=h.omm;rw[h1]at h2;injection h2 with h2
   injection h2 with _ e1 e2
   subst e1;have e3:=zip_inj (hr.len.trans h4.symm) (r.len.trans h3.symm) e2;subst e3;rw[ih r])
  (fun h=>by cases h;rfl) (fun _ _ i1 i2 _ h=>by cases h with|cons h2 r2=>rw[i1 h2,i2 r2])
  (fun h=>by cases h;rfl) (fun _ _ i1 i2 _ h=>by cases h with|cons h2 r2=>rw[i1 h2,i2 r2]) h
theorem Rel.HH(r:Rel K dl H₀ hs H σ q F)(e:Evo dl H H'){p:V×T}(hp:p∈hs){Fp:List Addr}(h:Rp K dl H' p.1 p.2 Fp){b:Addr}(hb:H b=none):b ∉ Fp:=fun z=>by
 obtain⟨Fq,h1,_⟩:=r.h p hp;have e1:=(h1.evo r.d e).r.uniq h.r;subst e1;exact cg.no (h1.r.there b z) hb
theorem Rel.oX{i:Nat}{p:Addr}{ws:List V}{xs ys:List T}{G':List Addr}(r:Rel K dl H₀ hs H σ q F)(hi:q[i]? = some (.o (.l xs)))(hv:σ[i]? = some (some (.ref p)))(hF:F i=p::G)(e:Evo dl H H')
  (rs:ai K dl H' ws ys G') (hn:G'.Nodup) (hG:∀ b∈G',b∈G\/(H b=none/\Nd dl b)):gE K dl H₀ hs (upd H' p (.lst ws)) σ (q.set i (.o (.l ys))):=by
 have r':=r.evo e;obtain⟨o1,o2,o3⟩:=r.o i _ hi;obtain⟨v',hv',rp⟩:=r'.g i _ _ hi rfl;rw[hv]at hv';cases hv';obtain⟨p2,vs2,G2,e2,eF,h1,h2⟩:=rp.r.lst;cases e2;rw[hF]at eF;cases eF;rw[hF]at o1;have pG:p ∉ G:=(Q5.mp o1).1;have pth:cg H p:=r.cV (i:=i) (by rw[hF];exact qr)
 have pG':p ∉ G':=fun z=>by
  rcases hG p z with z|z
  ·exact pG z
  ·exact pth.no z.1
 have pn:Nd dl p:=rp.n p (by rw[hF];exact qr)
 have tf:TF H' (upd H' p (.lst ws)):=⟨fun a us h=>(by
  rw[ah];exact h;intro z;subst z;rw[h]at h1;cases h1),fun a ob u h=>(by
  rw[ah];exact h;intro z;subst z;rw[h]at h1;cases h1),fun a φ h=>(by
  rw[ah];exact h;intro z;subst z;rw[h]at h1;cases h1),fun a xs' h=>(by
  by_cases z:a=p
  ·subst z;exact⟨_,ar⟩
  ·exact⟨xs',by rw[ah z];exact h⟩),fun a x h=>⟨x,RO _,by
  rw[ah];exact h;intro z;subst z;rw[h]at h1;cases h1⟩⟩
 have rs2:ai K dl (upd H' p (.lst ws)) ws ys G':=rs.cL tf (fun _ z=>z) fun b hb ob eb=>by
  have ne:b≠p:=by
   intro z;subst z;exact pG' hb
  rw[ah ne];exact eb
 refine⟨_,r'.write (t':=.l ys) (F':=p::G') hi hv (by rw[hF];exact qr) (fun _ _=>⟨_,rfl⟩) ⟨.l ar rs2,fun b hb=>?_⟩ (Q5.mpr ⟨pG',hn⟩) fun b hb=>?_⟩
 ·rcases QH.mp hb with z|hb
  ·rw[z];exact pn
  ·rcases hG b hb with z|z
   ·exact rp.n b (by rw[hF];exact j5 _ z)
   ·exact z.2
 ·rcases QH.mp hb with z|hb
  ·rw[z,hF];exact .inl qr
  ·rcases hG b hb with z|z
   ·rw[hF];exact .inl (j5 _ z)
   ·exact .inr ⟨r.fz z.1,fun j hj=>(r.cV hj).no z.1,fun w u Fp h1 h2=>r.HH e (p:=(w,u)) h2 h1 z.1⟩
def sO(i:Nat)(qe:QE):QS:=fun D q=>match q[i]? with
 | some (.o (.l xs))=>xs.length<QD/\qe q fun t=>D.nx (q.set i (.o (.l (xs ++ [t]))))
 | _=>False
theorem xE(hK:X.K=K){i:Nat}(ho:PE X o (di i))(he:PE X e te)(cP:attributeBase o "append" X.env (eval o X.env)=eval o X.env:=by rfl)
  (k7:((backTo aM (L9 [e] X.env)).all (fun x=>!x.1)&&(backToKw aM (keywordEach [] X.env)).all (fun x=>x.1.isSome)
   && decide (([e]:List Expr).length+([]:List Keyword).length+(if([]:List Keyword).isEmpty then 0 else 1)<30))=true:=by rfl)
  (cO:(apos.endLine==aM.line)=true:=by rfl) (hs:L9 [e] X.env =(false,eval e X.env)::L9 [] X.env:=by rfl) (c7:(backTo aM (L9 [] X.env)).any (·.1)=false:=by rfl) :
  PE X (.Call (.Attribute o "append" apos) [e] [] aM) (tBM K "list" lR (di i) (il te jq)):=by
 subst hK;exact vo PySem.F.plainAttrs_list PySem.F.slot_list_append PySem.F.type_list_append rH ho (cC he h8 hs) cP k7 cO hs c7
theorem wN{i:Nat}(he:mw K te qe):uz K (kE (tBM K "list" lR (di i) (il te jq))) (sO i qe):=fun dl H₀ hs H σ q Dq D ⟨F,r⟩ hq E=>by
 unfold sO at hq
 split at hq
 ·rename_i xs ei;obtain⟨hz,hq⟩:=hq;obtain⟨v,hv,rp⟩:=r.g i _ _ ei rfl;obtain⟨o1,o2,o3⟩:=r.o i _ ei;obtain⟨p,vs,G,rfl,eF,h1,h2⟩:=rp.r.lst;refine⟨_,hv,.inl ⟨rfl,vs,SqL.of h1⟩,he dl H σ q _ _ r.rd hq fun w t F' H' e1 r1 f1 n1 hz'=>?_⟩
  have pn:Nd dl p:=rp.n p (by rw[eF];exact qr)
  refine⟨p,vs,w,rfl,rfl,e1.k p _ h1 pn (fun _ z=>nomatch z),by rw[h2.len];exact hz,?_⟩
  have hG:∀ b∈G,Nd dl b:=fun b hb=>rp.n b (by rw[eF];exact j5 _ hb)
  have rs2:ai K dl H' vs xs G:=h2.cL (e1.tf r.d) (fun _ z=>z) fun b hb o eo=>e1.k b o eo (hG b hb) (.of (h2.there b hb) eo)
  refine E.nx _ σ _ (r.oX ei hv eF e1 (rs2.append (.cons r1.r .nil)) ?_ fun b hb=>?_) hz'
  ·rw[Q6];rw[eF]at o1;refine Rm.mpr ⟨(Q5.mp o1).2,n1,fun x hx y hy exy=>?_⟩
   subst exy;exact cg.no (h2.there x hx) (f1 x hy)
  ·rcases Q7.mp hb with hb|hb
   ·exact .inl hb
   ·rw[Q6]at hb;exact .inr ⟨f1 b hb,r1.n b hb⟩
 ·exact hq.elim
theorem fN{i:Nat}{dq:Pos}(ho:PE X o (di i))(he:QPF X K e te qe)(hK:X.K=K:=by rfl)(cP:attributeBase o "append" X.env (eval o X.env)=eval o X.env:=by rfl)
  (k7:((backTo aM (L9 [e] X.env)).all (fun x=>!x.1)&&(backToKw aM (keywordEach [] X.env)).all (fun x=>x.1.isSome)
   && decide (([e]:List Expr).length+([]:List Keyword).length+(if([]:List Keyword).isEmpty then 0 else 1)<30))=true:=by rfl)
  (cO:(apos.endLine==aM.line)=true:=by rfl) (hs:L9 [e] X.env =(false,eval e X.env)::L9 [] X.env:=by rfl) (c7:(backTo aM (L9 [] X.env)).any (·.1)=false:=by rfl)
  (hsw:swapsWith (.Call (.Attribute o "append" apos) [e] [] aM) none dq.line X.env=pure false:=by rfl) :
  QPS X K (.Expr (.Call (.Attribute o "append" apos) [e] [] aM) dq) (kE (tBM K "list" lR (di i) (il te jq))) (sO i qe):=⟨iM (xE hK ho he.h cP k7 cO hs c7) hsw,wN he.s⟩
def sN(i:Nat)(qe:QE):QS:=fun D q=>match q[i]? with
 | some (.o (.l xs))=>qe q fun t=>match t with
  | .l ys=>xs.length+ys.length<=QD/\D.nx (q.set i (.o (.l (xs++ys))))
  | _=>False
 | _=>False
theorem xD(hK:X.K=K){i:Nat}(ho:PE X o (di i))(he:PE X e te)(cP:attributeBase o "extend" X.env (eval o X.env)=eval o X.env:=by rfl)
  (k7:((backTo aM (L9 [e] X.env)).all (fun x=>!x.1)&&(backToKw aM (keywordEach [] X.env)).all (fun x=>x.1.isSome)
   && decide (([e]:List Expr).length+([]:List Keyword).length+(if([]:List Keyword).isEmpty then 0 else 1)<30))=true:=by rfl)
  (cO:(apos.endLine==aM.line)=true:=by rfl) (hs:L9 [e] X.env =(false,eval e X.env)::L9 [] X.env:=by rfl) (c7:(backTo aM (L9 [] X.env)).any (·.1)=false:=by rfl) :
  PE X (.Call (.Attribute o "extend" apos) [e] [] aM) (tBM K "list" ot (di i) (il te jq)):=by
 subst hK;exact vo PySem.F.plainAttrs_list PySem.F.slot_list_extend PySem.F.type_list_extend AJ ho (cC he h8 hs) cP k7 cO hs c7
theorem wM{i:Nat}(he:mw K te qe):uz K (kE (tBM K "list" ot (di i) (il te jq))) (sN i qe):=fun dl H₀ hs H σ q Dq D ⟨F,r⟩ hq E=>by
 unfold sN at hq
 split at hq
 ·rename_i xs ei;obtain⟨v,hv,rp⟩:=r.g i _ _ ei rfl;obtain⟨o1,o2,o3⟩:=r.o i _ ei;obtain⟨p,vs,G,rfl,eF,h1,h2⟩:=rp.r.lst;refine⟨_,hv,.inl ⟨rfl,vs,SqL.of h1⟩,he dl H σ q _ _ r.rd hq fun w t F' H' e1 r1 f1 n1 hz'=>?_⟩
  split at hz'
  ·rename_i ys _;obtain⟨p2,ws,G2,rfl,rfl,h3,h4⟩:=r1.r.lst;have pn:Nd dl p:=rp.n p (by rw[eF];exact qr)
   refine⟨p,p2,vs,ws,rfl,rfl,e1.k p _ h1 pn (fun _ z=>nomatch z),h3,by rw[h2.len,h4.len];exact hz'.1,?_⟩
   have hG:∀ b∈G,Nd dl b:=fun b hb=>rp.n b (by rw[eF];exact j5 _ hb)
   have rs2:ai K dl H' vs xs G:=h2.cL (e1.tf r.d) (fun _ z=>z) fun b hb o eo=>e1.k b o eo (hG b hb) (.of (h2.there b hb) eo)
   refine E.nx _ σ _ (r.oX ei hv eF e1 (rs2.append h4) ?_ fun b hb=>?_) hz'.2
   ·rw[eF]at o1;refine Rm.mpr ⟨(Q5.mp o1).2,(Q5.mp n1).2,fun x hx y hy exy=>?_⟩
    subst exy;exact cg.no (h2.there x hx) (f1 x (j5 _ hy))
   ·rcases Q7.mp hb with hb|hb
    ·exact .inl hb
    ·exact .inr ⟨f1 b (j5 _ hb),r1.n b (j5 _ hb)⟩
  ·exact hz'.elim
 ·exact hq.elim
theorem rE{i:Nat}{dq:Pos}(ho:PE X o (di i))(he:QPF X K e te qe)(hK:X.K=K:=by rfl)(cP:attributeBase o "extend" X.env (eval o X.env)=eval o X.env:=by rfl)
  (k7:((backTo aM (L9 [e] X.env)).all (fun x=>!x.1)&&(backToKw aM (keywordEach [] X.env)).all (fun x=>x.1.isSome)
   && decide (([e]:List Expr).length+([]:List Keyword).length+(if([]:List Keyword).isEmpty then 0 else 1)<30))=true:=by rfl)
  (cO:(apos.endLine==aM.line)=true:=by rfl) (hs:L9 [e] X.env =(false,eval e X.env)::L9 [] X.env:=by rfl) (c7:(backTo aM (L9 [] X.env)).any (·.1)=false:=by rfl)
  (hsw:swapsWith (.Call (.Attribute o "extend" apos) [e] [] aM) none dq.line X.env=pure false:=by rfl) :
  QPS X K (.Expr (.Call (.Attribute o "extend" apos) [e] [] aM) dq) (kE (tBM K "list" ot (di i) (il te jq))) (sN i qe):=⟨iM (xD hK ho he.h cP k7 cO hs c7) hsw,wM he.s⟩
end
variable{qo:QE}{to:TE}
section
variable{X:Cx}{K:W.Frag}{hs:List (V×T)}{σ:St}{F:Nat->List Addr}{a b e o c:Expr}{ta tb tk tv:TE}{qa qb qk qv:QE}{pos apos aM:Pos}
theorem ai.last:∀{ts:List T}{x:T}{vs:List V}{F:List Addr},ai K dl H vs (ts ++ [x]) F->∃ us w F1 F2,vs=us ++ [w]/\ai K dl H us ts F1/\aq K dl H w x F2/\F=F1++F2
 | [],x,vs,F,h=>by
  cases h with
  | cons h1 h2 =>
   cases h2;exact⟨[],_,[],_,rfl,.nil,h1,by simp⟩
 | t::ts,x,vs,F,h=>by
  cases h with
  | cons h1 h2 =>
   obtain⟨us,w,F1,F2,rfl,r1,r2,rfl⟩:=ai.last h2;exact⟨_::us,w,_,F2,rfl,.cons h1 r1,r2,by rw[RT]⟩
def Ke(i j:Nat):QS:=fun D q=>match q[i]? with
 | some (.o (.l xs))=>∃ ys x,xs=ys ++ [x]/\T.ims xs=true/\i≠j/\D.nx ((q.set i (.o (.l ys))).set j (.o x))
 | _=>False
theorem x4{xs ys:List T}:T.ims (xs++ys) =(T.ims xs&&T.ims ys):=by
 induction xs with
 | nil=>rfl
 | cons x r ih=>show(x.im&&T.ims (r++ys)) =((x.im&&T.ims r)&&T.ims ys);rw[ih,Bool.and_assoc]
theorem FW{i:Nat}:uz K (ku (FI K "list" Ge (di i)) (gw j)) (Ke i j):=fun dl H₀ hs H σ q Dq D ⟨F,r⟩ hq E=>by
 unfold Ke at hq
 split at hq
 ·rename_i xs ei;obtain⟨ys,x,rfl,him,hij,hq⟩:=hq;obtain⟨v,hv,rp⟩:=r.g i _ _ ei rfl;obtain⟨p,vs,G,rfl,eF,h1,h2⟩:=rp.r.lst;obtain⟨us,w,F1,F2,rfl,r1,r2,rfl⟩:=h2.last;rw[x4,QY]at him;obtain rfl:=r1.im him.1;have hx:x.im=true:=by have:=him.2;simpa [T.ims]using this
  obtain rfl:=r2.im hx;refine⟨_,hv,.inl ⟨rfl,_,SqL.of h1⟩,p,_,w,rfl,rfl,h1,by simp,?_⟩
  rw[S7];obtain⟨F3,r3⟩:=r.oX (H':=H) (ws:=us) (ys:=ys) (G':=[]) ei hv eF (.refl r.d) r1 QG (fun _ z=>nomatch z)
  have tf:aq K dl (upd H p (.lst us)) w x []:=by
   have tf:TF H (upd H p (.lst us)):=⟨fun a us' h=>(by
    rw[ah];exact h;intro z;subst z;rw[h]at h1;cases h1),fun a ob u h=>(by
    rw[ah];exact h;intro z;subst z;rw[h]at h1;cases h1),fun a φ h=>(by
    rw[ah];exact h;intro z;subst z;rw[h]at h1;cases h1),fun a xs' h=>(by
    by_cases z:a=p
    ·subst z;exact⟨_,ar⟩
    ·exact⟨xs',by rw[ah z];exact h⟩),fun a x h=>⟨x,RO _,by
    rw[ah];exact h;intro z;subst z;rw[h]at h1;cases h1⟩⟩
   exact r2.cL tf (fun _ z=>z) fun _ z=>nomatch z
  exact E.nx _ _ _ (r3.dQ (i:=j) (.refl r3.d) (.c tf) (fun _ z=>nomatch z) QG) hq
 ·exact hq.elim
theorem CJ{i:Nat}(hN:X.N.Nodup)(hi:X.N[j]? = some x)(hx:Loc X.env.scope x)(ho:PE X o (di i))(hK:X.K=K:=by rfl)(cP:attributeBase o "pop" X.env (eval o X.env)=eval o X.env:=by rfl)(cO:(apos.endLine==aM.line)=true:=by rfl)
  (hs:swapsWith (.Call (.Attribute o "pop" apos) [] [] aM) (some (.Name x pos')) pos.line X.env=pure false:=by rfl) (hf:X.fn x=true\/X.env.scope.names.lookup x=some .local:=by first|exact .inl rfl|exact .inr rfl|assumption) :
  QPS X K (.Assign [.Name x pos'] (.Call (.Attribute o "pop" apos) [] [] aM) pos) (ku (FI K "list" Ge (di i)) (gw j)) (Ke i j) :=
 ⟨by subst hK;exact iL hN hi hx (xq PySem.F.plainAttrs_list PySem.F.slot_list_pop PySem.F.type_list_pop xB ho cP cO) hs hf,FW⟩
def Mx(g:Tg)(qe:QE):QS:=fun D q=>qe q fun t=>t.im=true/\∃ q',g.put t q=some q'/\D.nx q'
theorem FU{g:Tg}(he:nt K te qe):uz K (ku te (g.h K)) (Mx g qe):=fun dl H₀ hs H σ q Dq D ⟨F,r⟩ hq E=>he dl H σ q _ _ r.rd hq fun v t F' H' e1 r1 ⟨him,q',hq',hz⟩=>by
 obtain rfl:=r1.r.im him;exact Cv (r.evo e1) r1 (fun _ _ _ _ _ z=>nomatch z) hq' fun σ' r'=>E.nx _ _ _ r' hz
theorem CH{g:Tg}(he:QPE X K e te qe)(hg:PG X tg (g.h K))(hs:swapsWithSole [tg] e pos.line X.env=pure false:=by rfl)(hw:swappedStores [tg] e X.env=pure none:=by rfl)
  (h1:(assignEach [tg] X.env).map (·.2) = [assign tg X.env]:=by rfl):QPS X K (.Assign [tg] e pos) (ku te (g.h K)) (Mx g qe):=⟨xh he.h hg hs hw h1,FU he.s⟩
def T.key:T->Option Key
 | .i x=>some (.inl x)
 | .s x=>some (.inr x)
 | _=>none
theorem aq.key{v:V}{t:T}{F:List Addr}{k:Key}(h:aq K dl H v t F)(e:t.key=some k):v=kV k:=by
 cases h <;> first |(cases e;rfl)|cases e
def eT(ks:List (Key×T))(k:Key):Option T:=(ks.find? fun p=>decide (p.1=k)).map (·.2)
def kS(ks:List (Key×T))(k:Key)(t:T):List (Key×T):=if(ks.any fun p=>decide (p.1=k))=true then ks.map (fun p=>if p.1=k then(p.1,t)else p)else ks ++ [(k,t)]
theorem aF.look{vs:List (Key×V)}{ts:List (Key×T)}{F:List Addr}(k:Key)(h:aF K dl H vs ts F):(eT ts k=none/\fQ vs k=none)\/∃ t v G,eT ts k=some t/\fQ vs k=some v/\aq K dl H v t G/\∀ b∈G,b∈F :=
 h.ind (M:=fun vs ts F=>(eT ts k=none/\fQ vs k=none)\/∃ t v G,eT ts k=some t/\fQ vs k=some v/\aq K dl H v t G/\∀ b∈G,b∈F) (.inl ⟨rfl,rfl⟩) fun k0 v x vs ts F G h r ih=>by
  by_cases e:k0=k
  ·subst e;exact .inr ⟨_,_,_,by simp[eT],by simp[fQ],h,fun b hb=>QP _ hb⟩
  ·rcases ih with⟨h1,h2⟩ |⟨t,v,G,h1,h2,h3,h4⟩
   ·refine .inl ⟨?_,?_⟩
    ·unfold eT at h1 ⊢;rw[Rk,decide_eq_false e];exact h1
    ·unfold fQ at h2 ⊢;rw[Rk,decide_eq_false e];exact h2
   ·refine .inr ⟨t,v,G,?_,?_,h3,fun b hb=>PJ _ (h4 b hb)⟩
    ·unfold eT at h1 ⊢;rw[Rk,decide_eq_false e];exact h1
    ·unfold fQ at h2 ⊢;rw[Rk,decide_eq_false e];exact h2
mutual
def T.imk:List (Key×T)->Bool
 | []=>true
 | (_,x)::r=>x.im&&T.imk r
end
theorem aF.im{vs:List (Key×V)}{ts:List (Key×T)}{F:List Addr}(h:aF K dl H vs ts F):T.imk ts=true->F = []:=h.ind (M:=fun _ t F=>T.imk t=true->F = []) (fun _=>rfl) (fun _ _ _ _ _ _ _ h _ ih=>pP h.im ih)
theorem aF.keys{vs:List (Key×V)}{ts:List (Key×T)}{F:List Addr}(h:aF K dl H vs ts F)(k:Key):(vs.any fun p=>decide (p.1=k))=ts.any fun p=>decide (p.1=k) :=
 h.ind (M:=fun vs ts _=>(vs.any fun p=>decide (p.1=k))=ts.any fun p=>decide (p.1=k)) rfl fun _ _ _ _ _ _ _ _ _ ih=>by rw[R1,R1,ih]
theorem aF.put{k:Key}{w:V}{t:T}(hw:aq K dl H w t []):∀{vs:List (Key×V)}{ts:List (Key×T)},aF K dl H vs ts []->aF K dl H (putK vs k w) (kS ts k t) []:=by
 have mp:∀{vs:List (Key×V)}{ts:List (Key×T)}{F:List Addr},aF K dl H vs ts F->F = []->aF K dl H (vs.map fun p=>if p.1=k then(p.1,w)else p) (ts.map fun p=>if p.1=k then(p.1,t)else p) []:=by
  intro vs ts F h
  induction ts generalizing vs F with
  | nil=>intro _;cases h;exact .nil
  | cons p ts ih =>
   cases h with
   | @cons k0 v x vs _ F1 F2 h1 h2 =>
    intro e;obtain⟨e1,e2⟩:=Ry.mp e;subst e1 e2;have z:=ih h2 rfl;rw[Rt,Rt];by_cases e0:k0=k
    ·show aF K dl H ((if k0=k then(k0,w)else(k0,v))::_) ((if k0=k then(k0,t)else(k0,x))::_) ([] ++ [])
     rw[if_pos e0,if_pos e0];exact .cons hw z
    ·show aF K dl H ((if k0=k then(k0,w)else(k0,v))::_) ((if k0=k then(k0,t)else(k0,x))::_) ([] ++ [])
     rw[if_neg e0,if_neg e0];exact .cons h1 z
 have sn:∀{vs:List (Key×V)}{ts:List (Key×T)}{F:List Addr},aF K dl H vs ts F->aF K dl H (vs ++ [(k,w)]) (ts ++ [(k,t)]) F:=by
  intro vs ts F h
  induction ts generalizing vs F with
  | nil=>cases h;exact .cons (F:=[]) hw .nil
  | cons p ts ih =>
   cases h with
   | cons h1 h2=>exact .cons h1 (ih h2)
 intro vs ts h;unfold putK kS;rw[h.keys k]
 split
 ·exact mp h rfl
 ·exact sn h
def NZ:T->Option Str
 | .s x=>some x
 | _=>none
abbrev txs:List T->Option (List Str):=picks NZ
theorem ai.txs{vs:List V}{ts:List T}{F:List Addr}{bs:List Str}(h:ai K dl H vs ts F)(e:L2.txs ts=some bs):vs=bs.map V.str :=
 h.picks (f:=NZ) (fun v t F a h e=>by cases t <;> first |(cases e;exact h.str.1)|cases e) e
theorem FG(bs:List Str):txs (bs.map T.s)=some bs:=by
 induction bs with
 | nil=>rfl
 | cons b r ih=>show(txs (r.map T.s)).map (b :: ·)=_;rw[ih];rfl
def MH(qo qe:QE):QE:=fun q Q=>qo q fun s=>match s with
 | .s sep=>qe q fun t=>match t with
  | .l xs=>∃ ys,txs xs=some ys/\(ys.map (·.length)).sum+ys.length*sep.length<=16777216/\Q (.s (Txt.join sep ys))
  | _=>False
 | _=>False
theorem Gx(ho:QPE X K o to qo)(he:QPE X K e te qe)(hK:X.K=K:=by rfl)(cP:attributeBase o "join" X.env (eval o X.env)=eval o X.env:=by rfl)
  (k7:((backTo aM (L9 [e] X.env)).all (fun x=>!x.1)&&(backToKw aM (keywordEach [] X.env)).all (fun x=>x.1.isSome)
   && decide (([e]:List Expr).length+([]:List Keyword).length+(if([]:List Keyword).isEmpty then 0 else 1)<30))=true:=by rfl)
  (cO:(apos.endLine==aM.line)=true:=by rfl) (hs:L9 [e] X.env =(false,eval e X.env)::L9 [] X.env:=by rfl) (c7:(backTo aM (L9 [] X.env)).any (·.1)=false:=by rfl) :
  QPF X K (.Call (.Attribute o "join" apos) [e] [] aM) (tBM K "str" (rJoin K) to (il te jq)) (MH qo qe):=⟨by
 subst hK;exact vo PySem.F.plainAttrs_str PySem.F.slot_str_join PySem.F.type_str_join Hn ho.h (cC he.h h8 hs) cP k7 cO hs c7,fun dl H σ q Q R rd hq k=>ho.s dl H σ q _ _ rd hq fun v t F H1 e1 r1 hq=>by
  split at hq
  ·obtain⟨rfl,_⟩:=r1.r.str;refine⟨rfl,he.s dl H1 σ q _ _ (rd.evo e1) hq fun w u F2 H2 e2 r2 hq=>?_⟩
   split at hq
   ·obtain⟨ys,hy,hz,hq⟩:=hq;obtain⟨p,vs,G,rfl,eF,h1,h2⟩:=r2.r.lst;have ev:=h2.txs hy;subst ev;exact⟨_,p,ys,rfl,rfl,SqL.of h1,hz,k _ _ [] H2 (e1.trans e2) (.c (.s _)) (fun _ z=>nomatch z) QG hq⟩
   ·exact hq.elim
  ·exact hq.elim⟩
def I0(i:Nat)(qk qv:QE):QS:=fun D q=>qv q fun t=>match q[i]? with
 | some (.o (.l xs))=>qk q fun u=>match u with
  | .i k=>∃ j,ixN xs.length k=some j/\T.ims xs=true/\t.im=true/\D.nx (q.set i (.o (.l (xs.set j t))))
  | _=>False
 | _=>False
end
def vK(vs ws:List V):Bool:=vs.length==ws.length&&(Rf vs.length).all fun j=>match vs[j]?,ws[j]? with|some x,some y=>eqV x y | _,_=>false
variable{its:List Value}
section
variable{X:Cx}{K:W.Frag}
theorem Vals.at'{vs:List V}(r:Vals vs its)(h:j<its.toArray.size):∃ v,vs[j]? = some v/\RelV v its.toArray[j]:=by
 have hl:=r.length;have hj:j<its.length:=by simpa using h
 have hv:j<vs.length:=by omega
 obtain⟨u,h1,h2⟩:=r.get (i:=j) (x:=vs[j]) (by simp[hv])
 have:its[j]? = some its[j]:=by simp[hj]
 rw[this]at h1;cases h1;exact⟨vs[j],by simp[hv],by simpa using h2⟩
theorem oF{vs:List V}{v:V}(h:vs.all gK=true)(e:vs[j]? = some v):gK v=true:=RG.mp h v (RK e)
def Ms(K:W.Frag):R2:=fun x y H Q=>∃ p q vs ws,x = .ref p/\y = .ref q/\((SqL K H p vs/\SqL K H q ws)\/(SqT K H p vs/\SqT K H q ws))/\vs.all gK=true/\ws.all gK=true/\Q (.bl (vK vs ws)) H
theorem KJ(hu:X.A.units+1<cLine):OpR X (compareOp .Eq) (Ms X.K):=by
 intro j0 s σ H x y v u Q I rx ry h;obtain⟨p,q,vs,ws,rfl,rfl,hs,f1,f2,k⟩:=h;cases rx;cases ry;rcases hs with⟨h1,h2⟩ |⟨h1,h2⟩
 ·obtain⟨its,r1,p1,_⟩:=I.list h1;obtain⟨bK,r2,p2,_⟩:=I.list h2;have l1:=r1.length;have l2:=r2.length;by_cases hl:its.length=bK.length
  ·refine SeqAt.eq_listAt (e:=fun j=>match vs[j]?,ws[j]? with|some x,some y=>eqV x y | _,_=>false) p1.isList p2.isList (by simpa using hl) (by omega) (fun j g1 g2=>?_) ⟨.bl _,H,I,rfl,?_⟩
   ·obtain⟨a,ea,ra⟩:=r1.at' g1;obtain⟨b,eb,rb⟩:=r2.at' g2;simp only[ea,eb];exact pV ra rb (oF f1 ea) (oF f2 eb)
   ·have e:vK vs ws =(Rf its.toArray.size).all fun j=>match vs[j]?,ws[j]? with|some x,some y=>eqV x y | _,_=>false:=by
     unfold vK;rw[show(vs.length==ws.length)=true from by simp;omega,Bool.true_and,P2,l1]
    rw[<- e];exact k
  ·refine SeqAt.eq_list_lengthsAt p1.isList p2.isList (by simpa using hl) (by omega) ⟨.bl _,H,I,rfl,?_⟩
   have e:vK vs ws=false:=by
    unfold vK;rw[show(vs.length==ws.length)=false from by simp;omega,Bool.false_and]
   rw[<- e];exact k
 ·obtain⟨its,r1,p1,_⟩:=I.tuple h1;obtain⟨bK,r2,p2,_⟩:=I.tuple h2;have l1:=r1.length;have l2:=r2.length;refine SeqAt.eq_tupleAt (e:=fun j=>match vs[j]?,ws[j]? with|some x,some y=>eqV x y | _,_=>false) (show s.heap.IsTuple p its.toArray from p1) (show s.heap.IsTuple q bK.toArray from p2) (by omega) (fun j g1 g2=>?_) ⟨.bl _,H,I,rfl,?_⟩
  ·obtain⟨a,ea,ra⟩:=r1.at' g1;obtain⟨b,eb,rb⟩:=r2.at' g2;simp only[ea,eb];exact pV ra rb (oF f1 ea) (oF f2 eb)
  ·have e:vK vs ws =((Rf (min its.toArray.size bK.toArray.size)).all (fun j=>match vs[j]?,ws[j]? with|some x,some y=>eqV x y | _,_=>false)&&its.toArray.size==bK.toArray.size):=by
    unfold vK;rw[P2,P2,<- l1,<- l2,Bool.and_comm];by_cases hl:vs.length=ws.length
    ·rw[hl,Nat.min_self]
    ·rw[show(vs.length==ws.length)=false from by simpa using hl,SK,SK]
   rw[<- e];exact k
def eqF(xs ys:List T):Bool:=vK (xs.map T.v) (ys.map T.v)
def Kj:Q2:=fun t u Q=>match t,u with
 | .l xs,.l ys=>(fls xs&&fls ys)=true/\Q (.b (eqF xs ys))
 | .t xs,.t ys=>(fls xs&&fls ys)=true/\Q (.b (eqF xs ys))
 | t,u=>qEq t u Q
def J4(K:W.Frag):R2:=fun x y H Q=>rEq x y H Q\/Ms K x y H Q
theorem pI(hu:X.A.units+1<cLine)(hK:X.K=K):OpR X (compareOp .Eq) (J4 K):=by subst hK;exact Jg.or (KJ hu)
theorem lI:eV K (J4 K) Kj:=by
 intro dl H x y t u F G Q R D r1 r2 hq k;unfold Kj at hq
 split at hq
 ·obtain⟨p,vs,G1,rfl,rfl,h1,h2⟩:=r1.r.lst;obtain⟨p',vs',G2,rfl,rfl,h3,h4⟩:=r2.r.lst;obtain⟨f,hq⟩:=hq;rw[QY]at f;obtain⟨rfl,rfl⟩:=h2.vs f.1;obtain⟨rfl,rfl⟩:=h4.vs f.2;exact .inr ⟨p,p',_,_,rfl,rfl,.inl ⟨SqL.of h1,SqL.of h3⟩,pU f.1,pU f.2,k _ _ [] H (.refl D) (.c (.b _)) (fun _ z=>nomatch z) QG hq⟩
 ·obtain⟨p,vs,rfl,h1,h2⟩:=r1.r.tup;obtain⟨p',vs',rfl,h3,h4⟩:=r2.r.tup;obtain⟨f,hq⟩:=hq;rw[QY]at f;obtain⟨rfl,rfl⟩:=h2.vs f.1;obtain⟨rfl,rfl⟩:=h4.vs f.2;exact .inr ⟨p,p',_,_,rfl,rfl,.inr ⟨SqT.of h1,SqT.of h3⟩,pU f.1,pU f.2,k _ _ [] H (.refl D) (.c (.b _)) (fun _ z=>nomatch z) QG hq⟩
 ·exact .inl (JZ dl H x y t u F G Q R D r1 r2 hq k)
end
end L2
namespace PySem
open Sem (wp)
end PySem
namespace PySem
open Sem (wp)
namespace F
theorem dC:entryFor table "dict.update.loop" = some Builtin.«dict.update.loop»:=entryFor_of_tree (by kernel_rfl)
theorem bg:plainId "dict.update.loop" = true:=by decide +kernel
end F
section
variable{prog:Program}{w:World}{A:Around}{R:Result->Shared->Prop}{I:Addr}{fp wr:List Addr}{n:Nat}{P:Nat->Value->Prop}{St:Nat->Heap->Prop}{κ:Type}[DecidableEq κ]{knd:KeyKind prog w κ}
theorem qG(kvs:List (κ×Value))(k:κ)(v:Value):(stored kvs k v).length<=kvs.length+1:=by
 unfold stored
 split <;> simp
theorem qQ(kvs:List (κ×Value)):∀(more:List (κ×Value)),(merged kvs more).length<=kvs.length+more.length:=by
 intro more
 induction more generalizing kvs with
 | nil=>exact QX _
 | cons p r ih =>
  have h1:=ih (stored kvs p.1 p.2);have h2:=qG kvs p.1 p.2;show(merged (stored kvs p.1 p.2) r).length<=_;simp only[Rj];omega
end
end PySem
namespace PySem
open Sem (wp)
end PySem
namespace L2
open PySem PySem.Spec PyProof.Rows
def jM(ks more:List (Key×T)):List (Key×T):=more.foldl (fun acc p=>kS acc p.1 p.2) ks
section
variable{X:Cx}{K:W.Frag}{dl:Dl}{H:Hp}
theorem aF.jM{kvs':List (Key×V)}{kts':List (Key×T)}{kvs:List (Key×V)}{kts:List (Key×T)}{F:List Addr}(h:aF K dl H kvs kts F):F = []->∀{vs:List (Key×V)}{ts:List (Key×T)},aF K dl H vs ts []->aF K dl H (d7 vs kvs) (L2.jM ts kts) [] :=
 h.ind (M:=fun kvs kts F=>F = []->∀{vs:List (Key×V)}{ts:List (Key×T)},aF K dl H vs ts []->aF K dl H (d7 vs kvs) (L2.jM ts kts) []) (fun _ _ _ h=>h) fun _ _ _ _ _ _ _ h1 _ ih e _ _ h=>by
  obtain⟨e1,e2⟩:=Ry.mp e;subst e1;exact ih e2 (aF.put h1 h)
end
variable{P:Program}{mg:Str->Option Value}{base:Heap}{fd:FuncData}{ps:List Str}
section
variable{X:Cx}{K:W.Frag}{a b:Expr}{ta tb:TE}{qa qb:QE}{pos:Pos}
def CZ:PSp:=fun ts Q=>match ts with
 | [.lb,.i m]=>0<m/\m<18446744073709551616/\∀ r,0<=r->r<m->Q (.i r)
 | _=>False
theorem Eb{w:World}{K:W.Frag}{k:Nat}{f:Addr}(F:aQ P w K mg base CX0 k f fd ps B5):aQ P w K mg base CX0 k f fd ps (spQ K CZ):=by
 refine F.imp fun vs H Q E h=>?_
 obtain⟨dl,ts,Fp,Qp,D,r,h,fin⟩:=h;unfold CZ at h
 split at h
 ·obtain⟨v,w',F1,F2,rfl,r1,r2⟩:=r.two;obtain⟨a,l,rfl,hm,_⟩:=r1.r.dea;obtain⟨rfl,_⟩:=r2.r.int;refine⟨a,l,_,rfl,D _ hm,h.1,h.2.1,fun r H' r0 r1' D' K'=>fin _ _ [] H' ⟨fun b o e n _=>K' b o e (n _ hm).1 (n _ hm).2,fun p hp=>?_,fun b x e=>⟨x,RO _,by
   obtain⟨s2,n2,l2,Q2⟩:=D _ hm;exact K' b _ e (jL e Q2.hd (fun z=>nomatch z)) (jL e Q2.hl (fun z=>nomatch z))⟩⟩ (.c (.i _)) (fun _ z=>nomatch z) QG (h.2.2 r r0 r1')⟩
  by_cases e:p =(a,l)
  ·rw[e];exact D'
  ·obtain⟨s1,n1,l1,Q1⟩:=D p hp;obtain⟨s2,n2,l2,Q2⟩:=D _ hm;obtain⟨s3,n3,l3,Q3⟩:=D';have pa:p.1≠a:=fun z=>by
    have z1:=Q1.hd;have z2:=Q2.hd;rw[z]at z1;rw[z1]at z2;have z3:dk s1 n1 p.2=dk s2 n2 l:=by injection (Option.some.inj z2)
    have z4:=congrArg (fun kv=>fQ kv (.inr "left":Key)) z3
    simp only[zy]at z4;exact e (Prod.ext z (V.ref.inj (Option.some.inj z4)))
   have pl:p.1≠l:=jL Q1.hd Q2.hl (fun z=>nomatch z)
   have p2a:p.2≠a:=jL Q1.hl Q2.hd (fun z=>nomatch z)
   by_cases p2l:p.2=l
   ·exact⟨s1,n1,l3,K' _ _ Q1.hd pa pl,by rw[p2l];exact Q3.hl,Q1.s0,Q1.s1,Q1.n0,Q3.l0⟩
   ·exact⟨s1,n1,l1,K' _ _ Q1.hd pa pl,K' _ _ Q1.hl p2a p2l,Q1.s0,Q1.s1,Q1.n0,Q1.l0⟩
 ·exact h.elim
end
section
variable{X:Cx}{K:W.Frag}{a b c e o:Expr}{ta tb tk tv te:TE}{qa qb qk qv qe:QE}{pos pos':Pos}
theorem ai.set{dl:Dl}{H:Hp}{w:V}{t:T}(hw:aq K dl H w t []):∀{vs:List V}{xs:List T}{F:List Addr}(j:Nat),ai K dl H vs xs F->F = []->ai K dl H (vs.set j w) (xs.set j t) []
 | _,_,_,_,.nil,_=>.nil
 | _,_,_,0,.cons h r,e=>by
  obtain⟨e1,e2⟩:=Ry.mp e;subst e1 e2;exact .cons (F:=[]) hw r
 | _,_,_,j+1,.cons h r,e=>by
  obtain⟨e1,e2⟩:=Ry.mp e;subst e1 e2;exact .cons (F:=[]) h (ai.set hw j r rfl)
theorem Cd{i:Nat}(hk:nt K tk qk)(hv:nt K tv qv):uz K (ku tv (Lm (di i) tk Cy)) (I0 i qk qv):=fun dl H₀ hs H σ q Dq D ⟨F,r⟩ hq E=>by
 refine hv dl H σ q _ _ r.rd hq fun w t F1 H1 e1 r1 hq=>?_
 split at hq
 ·rename_i xs ei;obtain⟨v,hv',rp⟩:=(r.evo e1).g i _ _ ei rfl;refine⟨v,hv',hk dl H1 σ q _ _ (r.rd.evo e1) hq fun y u F2 H2 e2 r2 hq=>?_⟩
  split at hq
  ·obtain⟨j,hj,hm,ht,hq⟩:=hq;obtain⟨rfl,_⟩:=r2.r.int;obtain rfl:=r1.r.im ht;have rp2:=rp.evo e1.d e2;obtain⟨p,vs,G,rfl,eF,h1,h2⟩:=rp2.r.lst;have eG:=h2.im hm;subst eG;refine⟨p,vs,_,j,rfl,rfl,h1,by rw[h2.len];exact hj,?_⟩
   exact E.nx _ _ _ (r.oX ei hv' eF (e1.trans e2) (ai.set (r1.evo e1.d e2).r j h2 rfl) QG fun _ z=>nomatch z) hq
  ·exact hq.elim
 ·exact hq.elim
theorem Gi{i:Nat}(ho:PE X o (di i))(hk:QPE X K a tk qk)(hv:QPE X K b tv qv)(hs:swapsWithSole [.Subscript o a pos'] b pos.line X.env=pure false:=by rfl)(hw:swappedStores [.Subscript o a pos'] b X.env=pure none:=by rfl)
  (h1:(assignEach [.Subscript o a pos'] X.env).map (·.2) = [assign (.Subscript o a pos') X.env]:=by rfl)
  (ha:∀ v,assign (.Subscript o a pos') X.env v =(do
   let ov <- holding [v] (eval o X.env)
   let iv <- holding [v,ov] (eval a X.env)
   standAt pos'
   holding [v,ov,iv] (setItem ov iv v)
   release [v,ov,iv] []):=by intro _;rfl):QPS X K (.Assign [.Subscript o a pos'] b pos) (ku tv (Lm (di i) tk Cy)) (I0 i qk qv) :=
 ⟨xh hv.h (KC ho hk.h set_list ha) hs hw h1,Cd hk.s hv.s⟩
end
def oO(K:W.Frag):Sp:=fun vs H Q _=>∃(a:Addr)(ns:List Int),vs = [.ref a]/\FzL K H a (ns.map V.int)/\ns.length<=63/\∀ H',Q (.bl true) H'
variable{H:Hp}{a:Addr}{xs:List V}
theorem ND{K:W.Frag}(h:IC H)(hS:SqL K H a xs):FzL K H a xs:=by
 rcases hS with(z |⟨o,z⟩)|z
 ·rcases h a with e |⟨o,ys,e⟩
  ·rw[e]at z;cases z
  ·rw[e]at z;cases z
 ·exact .inl ⟨o,z⟩
 ·exact .inr z
variable{H':Hp}
theorem FzL.same{K:W.Frag}(h:FzL K H a xs)(s:lA H H'):FzL K H' a xs:=by
 rcases h with⟨o,z⟩|z
 ·exact .inl ⟨o,s _ _ z⟩
 ·exact .inr z
variable{x:Str}{qual:Str}{st:Stmt}{N:List Str}{n:Nat}
theorem Fun.PV{w:World}{K:W.Frag}{f:Addr}{k:Nat}{s1:Stmt}{rest:List Stmt}(F:Fun K x qual st f fd)(S:aA N ["_law_script"] (ak st))(hN:N.length=n+2)(hst:bH st=s1::rest)
  (ma:∀(cdv:Value)(A:Around)(outer:List Env)(s:Shared)(H:Hp)(E:XK),bT k (A.deeper (envOfC qual (ak st) s.heap.objs.size f cdv)) ->
   ∃ t1 t qs,PS (qW CX0 P w K mg base N qual (ak st) f cdv A outer s H E).nox s1 t1/\oh (qW CX0 P w K mg base N qual (ak st) f cdv A outer s H E).nox K rest t qs /\
    (∀(a:Addr)(ns:List Int)(D:Ends),SqL K H a (ns.map V.int)->ns.length<=63 ->(∀(d l:Addr)(H':Hp),H d=none->H l=none->mz H' d l->lA H H'->D.nx ([some (.ref a),some (.ref d)]++Ri n none) H')->t1 D ([some (.ref a),none]++Ri n none) H) /\
    ∀ ns:List Int,ns.length<=63->qs { nx:=fun _=>False,rt:=fun t=>t = .b true } ([.r (.z ns),.r .lb]++Ri n .no)):aQ P w K mg base CX0 (k+1) f fd ["_law_script"] (oO K):=by
 refine F.ok S (fun vs H Q E h=>?_) (fun cdv A outer s H vs Q E hr h=>?_)
 ·obtain⟨a,ns,rfl,_⟩:=h;rfl
 ·obtain⟨a,ns,rfl,hS,hlen,k⟩:=h;obtain⟨t1,t,qs,h1,hb,r1,hq⟩:=ma cdv A outer s H E hr;rw[hst];refine⟨_,bA h1 hb.h,?_⟩;have es:start N [V.ref a] = [some (.ref a),none]++Ri n none:=by
   unfold start;rw[hN];rfl
  rw[es];refine r1 a ns _ hS.sq hlen fun d l H' hd hl D1 sm=>?_
  have Dq:Dls [(d,l)] H':=fun p hp=>by rw[Es.mp hp];exact D1
  have rp:Rps K [(d,l)] H' [.ref a,.ref d] [.z ns,.lb] ([]++([] ++ [])):=⟨.cons (.z (hS.same sm)) (.cons (.x (l:=l) (Es.mpr rfl)) .nil),fun _ z=>nomatch z⟩
  have R:=rC (n:=n+2) Dq rp (by simp)
  refine hb.s [(d,l)] H' [] H' _ _ _ _ R (hq ns hlen) ⟨fun _ _ _ _ z=>z.elim,fun _ _ _ _ z=>z.elim,fun _ _ _ _ z=>z.elim,fun v t F H2 _ r' _ _ _ hz=>?_,fun _ _ _ _ _ _ _ _ _ _ _ _ z=>z.elim⟩
  subst hz;obtain⟨rfl,_⟩:=r'.r.bl;exact k H2
variable{p1:Pos}{p2:Pos}{bP:Pos}
section
variable{X:Cx}{K:W.Frag}{dl:Dl}
variable{tg e a b c:Expr}{te ta tb:TE}{qe qa qb:QE}{tl:TA}{ql:QA}{pos p:Pos}
def MG(qe:QE):QE:=fun q Q=>qe q fun t=>match t with | .t xs=>T.ims xs=true/\Q (.l xs.reverse) | _=>False
theorem ai.snoc{v:V}{t:T}(hv:aq K dl H v t []){vs:List V}{ts:List T}{F:List Addr}(h:ai K dl H vs ts F):F = []->ai K dl H (vs ++ [v]) (ts ++ [t]) [] :=
 h.ind (M:=fun vs ts F=>F = []->ai K dl H (vs ++ [v]) (ts ++ [t]) []) (fun _=>.cons (F:=[]) (G:=[]) hv .nil) fun _ _ _ _ _ _ h _ ih e=>by
  obtain⟨e1,e2⟩:=Ry.mp e;subst e1;exact .cons (F:=[]) (G:=[]) h (ih e2)
theorem ai.rev{vs:List V}{ts:List T}{F:List Addr}(h:ai K dl H vs ts F):F = []->ai K dl H vs.reverse ts.reverse [] :=
 h.ind (M:=fun vs ts F=>F = []->ai K dl H vs.reverse ts.reverse []) (fun _=>.nil) fun _ _ _ _ _ _ h _ ih e=>by
  obtain⟨e1,e2⟩:=Ry.mp e;subst e1;rw[Sw,Sw];exact ai.snoc h (ih e2) rfl
theorem sT(hK:X.K=K)(hc:X.calm=true)(hg1:Gl X "list")(hm1:X.mg "list" = none)(hg2:Gl X "reversed")(hm2:X.mg "reversed" = none)(he:PE X e te)
  (hs1:L9 [e] X.env = [(false,eval e X.env)]) (hs2:L9 [.Call (.Name "reversed" p2) [e] [] bP] X.env = [(false,eval (.Call (.Name "reversed" p2) [e] [] bP) X.env)]) :
  PE X (.Call (.Name "list" p1) [.Call (.Name "reversed" p2) [e] [] bP] [] pos) (mE K te):=by subst hK;exact vm hc hg1 hm1 hg2 hm2 he hs1 hs2
theorem va{p1 p2 bP:Pos}(hc:X.calm=true)(hg1:Gl X "list")(hm1:X.mg "list" = none)(hg2:Gl X "reversed")(hm2:X.mg "reversed" = none)(he:QPE X K e te qe)
  (hs1:L9 [e] X.env = [(false,eval e X.env)]:=by rfl) (hs2:L9 [.Call (.Name "reversed" p2) [e] [] bP] X.env = [(false,eval (.Call (.Name "reversed" p2) [e] [] bP) X.env)]:=by rfl) (hK:X.K=K:=by rfl) :
  QPF X K (.Call (.Name "list" p1) [.Call (.Name "reversed" p2) [e] [] bP] [] pos) (mE K te) (MG qe) :=
 ⟨sT hK hc hg1 hm1 hg2 hm2 he.h hs1 hs2,fun dl H σ q Q R rd hq k=>he.s dl H σ q _ _ rd hq fun v t F H1 e1 r hz=>by
  split at hz
  ·obtain⟨i1,hz⟩:=hz;obtain rfl:=r.r.im (t:=.t _) i1;obtain⟨l,vs,rfl,h1,h2⟩:=r.r.tup;refine⟨l,vs,rfl,SqT.of h1,fun p hp=>?_⟩
   have rs:Rps K dl H1 vs.reverse _ []:=⟨h2.rev rfl,fun _ z=>nomatch z⟩
   exact k _ _ [p] _ (e1.new hp) (rs.lst e1.d hp) (fun b hb=>by rw[Es.mp hb];exact e1.free hp) (by simp) hz
  ·exact hz.elim⟩
variable{o:Expr}{apos aM:Pos}
end
variable{d:Addr}{l:Addr}
section
variable{X:Cx}{K:W.Frag}{dl:Dl}{v:V}{F:List Addr}
theorem aq.Qi{o:Obj}{vs:List (Key×V)}{ts:List (Key×T)}(h:aq K dl H v (.fd o vs ts) F):∃ a,v = .ref a/\F = []/\H a=some (.frz o (.dK vs))/\aF K dl H vs ts []:=by cases h with|fd h r=>exact⟨_,rfl,rfl,h,r⟩
variable{tg e a b:Expr}{te ta tb:TE}{qe qa qb:QE}{pos:Pos}
theorem mz.oth{a:Addr}{o:HO}(D:mz H d l)(h1:a≠d)(h2:a≠l):mz (upd H a o) d l:=by
 obtain⟨s,n,ls,Q⟩:=D;exact⟨s,n,ls,by rw[ah h1.symm];exact Q.hd,by rw[ah h2.symm];exact Q.hl,Q.s0,Q.s1,Q.n0,Q.l0⟩
end
section
variable{X:Cx}{K:W.Frag}{dl:Dl}{v:V}{F:List Addr}
theorem ai.lookup{f:Str}:∀{ns:List Str}{vs:List V}{ts:List T}{F:List Addr}{u:T},ai K dl H vs ts F ->(ns.zip ts).lookup f=some u->∃ w G,(ns.zip vs).lookup f=some w/\aq K dl H w u G/\∀ b∈G,b∈F
 | [],_,_,_,_,_,h=>by simp at h
 | _::_,_,_,_,_,.nil,h=>by simp at h
 | n::ns,_,_,_,u,.cons h1 r,h=>by
  rw[List.zip_cons_cons,QZ]at h ⊢;cases e:(f==n)with
  | true =>
   rw[e]at h;cases h;exact⟨_,_,rfl,h1,fun b hb=>QP _ hb⟩
  | false =>
   rw[e]at h;obtain⟨w,G,a1,a2,a3⟩:=ai.lookup (ns:=ns) r h;exact⟨w,G,a1,a2,fun b hb=>PJ _ (a3 b hb)⟩
end
variable{H₀:Hp}{q:Sq}{F':List Addr}{tg:Expr}
section
variable{X:Cx}{K:W.Frag}{dl:Dl}{a b e:Expr}{ta tb te:TE}{qa qb qe:QE}{pos:Pos}
def Pn(qa qb:QE):QE:=fun q Q=>qa q fun t=>qb q fun u=>match t,u with
 | .l xs,.i k=>∃ x,atI xs k=some x/\Q x
 | _,_=>False
theorem sL(ha:QPF X K a ta qa)(hb:QPE X K b tb qb)(hs:mx b:=by intro _ _;rfl)(hK:X.K=K:=by rfl):QPF X K (.Subscript a b pos) (tOp (rIx K) ta tb) (Pn qa qb):=by
 refine⟨by subst hK;exact za xY ha.h hb.h hs,fun dl H σ q Q R rd hq k=>?_⟩
 refine ha.s dl H σ q _ _ rd hq fun v t F H1 e1 r1 f1 n1 hq1=>?_
 refine hb.s dl H1 σ q _ _ (rd.evo e1) hq1 fun w u G H2 e2 r2 hq2=>?_
 have r1:=r1.evo e1.d e2
 split at hq2
 ·obtain⟨rfl,rfl⟩:=r2.r.int;obtain⟨p,vs,G,rfl,rfl,h1,h2⟩:=r1.r.lst;obtain⟨z,hz,hq⟩:=hq2;obtain⟨j,hj,hi⟩:=mr hz h2.len.symm;obtain⟨v,G',hv,rv,hs⟩:=h2.Lk hj;have sub:∀ c∈G',c∈p::G:=fun c hc=>j5 _ (hs.subset hc)
  exact .inl ⟨p,vs,_,v,rfl,rfl,SqL.of h1,nj hi hv,k v z G' H2 (e1.trans e2) (Rp.sub rv r1.n sub) (fun c hc=>f1 c (sub c hc)) ((Q5.mp n1).2.sublist hs) hq⟩
 ·exact hq2.elim
def vh(q:Sq):List Nat->List T->Option Sq
 | [],[]=>some q
 | i::is,x::xs=>if i<q.length then vh (q.set i (.o x)) is xs else none
 | _,_=>none
theorem Rel.vh{hs:List (V×T)}{σ:St}{F:Nat->List Addr}{i:Nat}{v:V}{t:T}(r:Rel K dl H₀ hs H σ q F)(hi:i<q.length)(hv:Rp K dl H v t F')(hn:F'.Nodup)(h0:∀ b∈F',H₀ b=none)(hd:∀ j,∀ b∈F',b ∉ F j)
  (hh:∀ p∈hs,∃ Fp,Rp K dl H p.1 p.2 Fp/\(∀(j:Nat)(t:T),q[j]? = some (.o t)->∀ b∈F j,b ∉ Fp)/\∀ b∈F',b ∉ Fp):Rel K dl H₀ hs H (σ.set i (some v)) (q.set i (.o t)) (oS F i F'):=by
 refine⟨r.d,fun j x u h1 h2=>?_,fun j x h1 h2=>?_,fun j hj=>?_,fun j u h1=>?_,fun p hp=>?_,r.f,by simp[r.l]⟩
 ·rcases get_set h1 with⟨rfl,rfl,_⟩ |⟨ne,h1⟩
  ·cases h2;exact⟨v,by rw[Rx (by rw[<- r.l];exact hi)],by rw[aB];exact hv⟩
  ·obtain⟨w,h3,h4⟩:=r.g j x u h1 h2;exact⟨w,by rw[Rq (fun z=>ne z.symm)];exact h3,by rw[au ne];exact h4⟩
 ·rcases get_set h1 with⟨rfl,rfl,_⟩ |⟨ne,h1⟩
  ·cases h2
  ·rw[au ne];exact r.n j x h1 h2
 ·rw[Rz]at hj;rw[au (by omega)]
  exact r.z j hj
 ·rcases get_set h1 with⟨rfl,_,_⟩ |⟨ne,h1⟩
  ·rw[aB];exact⟨hn,h0,fun k hk b hb=>by rw[au hk];exact hd k b hb⟩
  ·rw[au ne];obtain⟨o1,o2,o3⟩:=r.o j u h1;refine⟨o1,o2,fun k hk b hb=>?_⟩
   by_cases ek:k=i
   ·subst ek;rw[aB];exact fun z=>hd j b z hb
   ·rw[au ek];exact o3 k hk b hb
 ·obtain⟨Fp,h1,h2,h3⟩:=hh p hp;refine⟨Fp,h1,fun j u hj b hb=>?_⟩
  rcases get_set hj with⟨rfl,_,_⟩ |⟨ne,hj⟩
  ·rw[aB]at hb;exact h3 b hb
  ·rw[au ne]at hb;exact h2 j u hj b hb
theorem oY{H₀:Hp}{hs:List (V×T)}:∀{is:List Nat}{vs:List V}{xs:List T}{G:List Addr}{σ:St}{q q':Sq}{F:Nat->List Addr}{R:St->Hp->Prop},Rel K dl H₀ hs H σ q F->ai K dl H vs xs G ->(∀ b∈G,Nd dl b)->G.Nodup ->(∀ b∈G,H₀ b=none) ->
  (∀ j,∀ b∈G,b ∉ F j) ->(∀ p∈hs,∃ Fp,Rp K dl H p.1 p.2 Fp/\(∀(j:Nat)(t:T),q[j]? = some (.o t)->∀ b∈F j,b ∉ Fp)/\∀ b∈G,b ∉ Fp)->L2.vh q is xs=some q' ->(∀ σ',gE K dl H₀ hs H σ' q'->R σ' H)->jV is vs σ H R
 | [],vs,xs,G,σ,q,q',F,R,r,rs,_,_,_,_,_,hp,k=>by
  cases xs with
  | cons _ _=>cases hp
  | nil =>
   cases rs;cases hp;exact⟨rfl,k σ ⟨F,r⟩⟩
 | i::is,vs,xs,G,σ,q,q',F,R,r,rs,gn,gd,g0,gf,gh,hp,k=>by
  cases xs with
  | nil=>cases hp
  | cons x xs =>
   cases rs with
   | @cons v _ vs _ F1 G1 h1 h2 =>
    unfold L2.vh at hp
    split at hp
    ·rename_i hi;obtain⟨d1,d2,d3⟩:=Rm.mp gd;have r2:=r.vh hi ⟨h1,fun b hb=>gn b (QP _ hb)⟩ d1 (fun b hb=>g0 b (QP _ hb)) (fun j b hb=>gf j b (QP _ hb)) fun p hp=>by
      obtain⟨Fp,a1,a2,a3⟩:=gh p hp;exact⟨Fp,a1,a2,fun b hb=>a3 b (QP _ hb)⟩
     refine⟨v,vs,rfl,oY (is:=is) r2 h2 (fun b hb=>gn b (PJ _ hb)) d2 (fun b hb=>g0 b (PJ _ hb)) (fun j b hb=>?_) (fun p hp=>?_) hp k⟩
     ·by_cases ej:j=i
      ·rw[ej,aB];exact fun z=>d3 b z b hb rfl
      ·rw[au ej];exact gf j b (PJ _ hb)
     ·obtain⟨Fp,a1,a2,a3⟩:=gh p hp;refine⟨Fp,a1,fun j u hj b hb=>?_,fun b hb=>a3 b (PJ _ hb)⟩
      rcases get_set hj with⟨rfl,_,_⟩ |⟨ne,hj⟩
      ·rw[aB]at hb;exact a3 b (QP _ hb)
      ·rw[au ne]at hb;exact a2 j u hj b hb
    ·cases hp
def IY(is:List Nat)(qe:QE):QS:=fun D q=>qe q fun t=>match t with
 | .t xs=>∃ q',vh q is xs=some q'/\D.nx q'
 | _=>False
theorem Ca{is:List Nat}(he:mw K te qe):uz K (ku te (x5 K is.length (jV is))) (IY is qe):=fun dl H₀ hs H σ q Dq D ⟨F,r⟩ hq E=>he dl H σ q _ _ r.rd hq fun v t F' H' e1 r1 f1 n1 hz=>by
 split at hz
 ·obtain⟨q',hp,hz⟩:=hz;obtain⟨p,vs,rfl,h1,h2⟩:=r1.r.tup;have hl:∀{is:List Nat}{xs:List T}{q q':Sq},vh q is xs=some q'->xs.length=is.length:=by
   intro is
   induction is with
   | nil =>
    intro xs q q' h;cases xs with
    | nil=>rfl
    | cons _ _=>cases h
   | cons i is ih =>
    intro xs q q' h;cases xs with
    | nil=>cases h
    | cons x xs =>
     unfold vh at h
     split at h
     ·simp[ih h]
     ·cases h
  refine⟨p,vs,rfl,SqT.of h1,by rw[h2.len];exact hl hp,?_⟩
  refine oY (r.evo e1) h2 r1.n n1 (fun b hb=>r.fz (f1 b hb)) (fun j b hb z=>(r.cV z).no (f1 b hb)) (fun w hw=>?_) hp fun σ' r'=>E.nx _ _ _ r' hz
  obtain⟨Fp,a1,a2⟩:=r.h w hw;exact⟨Fp,a1.evo r.d e1,a2,fun b hb z=>cg.no (a1.r.there b z) (f1 b hb)⟩
 ·exact hz.elim
theorem Gh{is:List Nat}(he:QPF X K e te qe)(hg:PG X tg (x5 K is.length (jV is)))(hs:swapsWithSole [tg] e pos.line X.env=pure false:=by rfl)(hw:swappedStores [tg] e X.env=pure none:=by rfl)
  (h1:(assignEach [tg] X.env).map (·.2) = [assign tg X.env]:=by rfl):QPS X K (.Assign [tg] e pos) (ku te (x5 K is.length (jV is))) (IY is qe):=⟨xh he.h hg hs hw h1,Ca he.s⟩
end
section
variable{X:Cx}{K:W.Frag}{dl:Dl}{a e:Expr}{te:TE}{qe:QE}{tl:TA}{ql:QA}{pos p:Pos}
def Ki(qe:QE):QE:=fun q Q=>qe q fun t=>match t with | .l xs=>T.ims xs=true/\Q (.l xs.reverse) | _=>False
theorem vn(hK:X.K=K)(hc:X.calm=true)(hg1:Gl X "list")(hm1:X.mg "list" = none)(hg2:Gl X "reversed")(hm2:X.mg "reversed" = none)(he:PE X e te)
  (hs1:L9 [e] X.env = [(false,eval e X.env)]) (hs2:L9 [.Call (.Name "reversed" p2) [e] [] bP] X.env = [(false,eval (.Call (.Name "reversed" p2) [e] [] bP) X.env)]) :
  PE X (.Call (.Name "list" p1) [.Call (.Name "reversed" p2) [e] [] bP] [] pos) (oM K te):=by subst hK;exact pw hc hg1 hm1 hg2 hm2 he hs1 hs2
theorem vd{p1 p2 bP:Pos}(hc:X.calm=true)(hg1:Gl X "list")(hm1:X.mg "list" = none)(hg2:Gl X "reversed")(hm2:X.mg "reversed" = none)(he:QPE X K e te qe)
  (hs1:L9 [e] X.env = [(false,eval e X.env)]:=by rfl) (hs2:L9 [.Call (.Name "reversed" p2) [e] [] bP] X.env = [(false,eval (.Call (.Name "reversed" p2) [e] [] bP) X.env)]:=by rfl) (hK:X.K=K:=by rfl) :
  QPF X K (.Call (.Name "list" p1) [.Call (.Name "reversed" p2) [e] [] bP] [] pos) (oM K te) (Ki qe) :=
 ⟨vn hK hc hg1 hm1 hg2 hm2 he.h hs1 hs2,fun dl H σ q Q R rd hq k=>he.s dl H σ q _ _ rd hq fun v t F H1 e1 r hz=>by
  split at hz
  ·obtain⟨i1,hz⟩:=hz;obtain⟨l,vs,G,rfl,rfl,h1,h2⟩:=r.r.lst;obtain rfl:=h2.im i1;refine⟨l,vs,rfl,SqL.of h1,fun p hp=>?_⟩
   have rs:Rps K dl H1 vs.reverse _ []:=⟨h2.rev rfl,fun _ z=>nomatch z⟩
   exact k _ _ [p] _ (e1.new hp) (rs.lst e1.d hp) (fun b hb=>by rw[Es.mp hb];exact e1.free hp) (by simp) hz
  ·exact hz.elim⟩
end
variable{j:Nat}{A:Around}
section
variable{X:Cx}{K:W.Frag}{dl:Dl}
variable{e o:Expr}{te to:TE}{qe qo:QE}
theorem iw{vs:List V}{ts:List T}{F:List Addr}(h:ai K dl H vs ts F){v:V}(hv:vs[j]? = some v):∃ t G,ts[j]? = some t/\aq K dl H v t G:=by
 have hl:=h.len;have hj:j<ts.length:=by rw[<- hl];exact(Qx.mp hv).1
 obtain⟨w,G,hw,r,_⟩:=h.get (show ts[j]? = some ts[j]from by simp[hj])
 rw[hv]at hw;cases hw;exact⟨_,G,by simp[hj],r⟩
theorem DR{k:Nat}(hr:bT k A):A.units+150<cLine:=by have:=hr.un;omega
variable{es:List Expr}{tl:TA}{ql:QA}
end
variable{dl:Dl}
section
variable{X:Cx}{K:W.Frag}{a b e o:Expr}{ta tb te:TE}{qa qb qe:QE}{pos pos':Pos}
theorem Evo.fresh{a:Addr}{o:HO}(e:Evo dl H H')(ha:H a=none)(nd:Nd dl a):Evo dl H (upd H' a o) :=
 ⟨fun b u h n r=>by rw[ah (aH h ha)];exact e.k b u h n r,fun p hp=>(e.d p hp).oth (nd p hp).1 (nd p hp).2,fun b x h=>let⟨y,hy,e'⟩:=e.r b x h;⟨y,hy,by rw[ah (aH h ha)];exact e'⟩⟩
end
section
variable{X:Cx}{K:W.Frag}{e a b o:Expr}{es:List Expr}{te tk tv:TE}{tl:TA}{qe qk qv:QE}{ql:QA}{pos pos' p:Pos}{k:Nat}{f:Addr}{prs:List Str}{ps:PSp}{i:Nat}
theorem ai.im1{vs:List V}{ts:List T}{F:List Addr}(h:ai K dl H vs ts F)(him:T.ims ts=true):∀(n:Nat)(v:V)(t:T),vs[n]? = some v->ts[n]? = some t->aq K dl H v t []:=by
 obtain rfl:=h.im him;intro n v t h1 h2;obtain⟨v',G,e1,r,s⟩:=h.Lk h2;rw[h1]at e1;cases e1;rw[SD.mp s]at r;exact r
end
def T.dof:T->Option (List (Key×T))
 | .d ks=>some ks
 | .fd _ _ ks=>some ks
 | .dp _ ks=>some ks
 | _=>none
section
variable{X:Cx}{K:W.Frag}{v:V}{F:List Addr}{a b c e:Expr}{ta tb tk tx te:TE}{qa qb qk qx qe:QE}{pos apos aM:Pos}
theorem aq.dof{t:T}{ks:List (Key×T)}(h:aq K dl H v t F)(e:t.dof=some ks):∃ a vs G,v = .ref a/\Rd H a (.dK vs)/\aF K dl H vs ks G/\∀ b∈G,b∈F:=by
 cases t with
 | d ks' =>
  cases e;obtain⟨a,vs,G,rfl,rfl,h1,h2⟩:=h.dic;exact⟨a,vs,G,rfl,.inl h1,h2,fun _ hb=>j5 _ hb⟩
 | fd o vs ks' =>
  cases e;obtain⟨a,rfl,rfl,h1,h2⟩:=h.Qi;exact⟨a,vs,[],rfl,.inr ⟨_,h1⟩,h2,fun _ hb=>hb⟩
 | dp a ks' =>
  cases e;obtain⟨vs,G,rfl,rfl,h1,h2⟩:=h.dpp;exact⟨a,vs,G,rfl,.inl h1,h2,fun _ hb=>j5 _ hb⟩
 | _=>cases e
def CO:Q2:=fun t u Q=>match t.dof with
 | some ks=>match u.key with
  | some k=>∃ x,eT ks k=some x/\Q x
  | none=>False
 | none=>False
def CB:R2:=fun x y H Q=>∃ a kvs k v,x = .ref a/\y=kV k/\Rd H a (.dK kvs)/\fQ kvs k=some v/\Q v H
theorem DK:IxR X CB:=by
 intro value slice j0 s σ H x y v u Q I rx ry h hs;obtain⟨a,kvs,k,w,rfl,rfl,ha,hv,q⟩:=h;cases rx;obtain⟨z,hd,vs,rel,dd⟩:=vL I.hok ha;obtain⟨w',hw,rw'⟩:=jt.some_of (v:=w) (o:=valueAt vs k) (by rw[<- hv];exact rel.val k)
 exact subscriptTail_builtinR (x:=w') dd.typeIs PySem.F.slot_dict_getitem.lookup (wpAny_getItem_of (Q:=fun r s'=>r=w'/\EP X j0 σ Q r s') (rL ry) dd.mapOf hw ⟨rfl,w,H,I.tok _,rw',q⟩) hs
theorem Cg:IA K CB CO:=by
 intro dl H x y t u F G Q R D r1 r2 hq k;unfold CO at hq
 split at hq
 ·rename_i ks eks
  split at hq
  ·rename_i k0 ek;obtain⟨z,hz,hq⟩:=hq;obtain⟨p,vs,G,rfl,h1,h2,sub⟩:=r1.r.dof eks;rw[r2.r.key ek];rcases h2.look k0 with⟨z1,z2⟩ |⟨t',v,G',z1,z2,z3,z4⟩
   ·rw[z1]at hz;cases hz
   ·rw[z1]at hz;cases hz;exact⟨p,vs,k0,v,rfl,rfl,h1,z2,k v _ G' H (.refl D) (Rp.sub z3 r1.n fun b hb=>sub b (z4 b hb)) hq⟩
  ·exact hq.elim
 ·exact hq.elim
theorem sJ(ha:QPE X K a ta qa)(hb:QPE X K b tb qb)(hs:mx b:=by intro _ _;rfl):QPE X K (.Subscript a b pos) (tOp CB ta tb) (qOp CO qa qb):=⟨za DK ha.h hb.h hs,wJ Cg ha.s hb.s⟩
end
section
variable{X:Cx}{j0:List (Addr×Obj)}{σ:St}{s:Shared}{u1 u2 v1 v2:HO}{C:Addr}{fs:List (Str×V)}
theorem Inv.Cu(I:Inv X j0 σ H s)(ne:d≠a)(ha:H a=some v1)(hd:H d=some v2)(t1:∀ xs,v1 ≠ .tup xs)(t2:∀ xs,v2 ≠ .tup xs)(b1:∀ ps,v1 ≠ .tbl ps)(b2:∀ ps,v2 ≠ .tbl ps)(z1:∀ o v,v1 ≠ .frz o v)(z2:∀ o v,v2 ≠ .frz o v)(w1:∀ c,v1 ≠ .own c)(w2:∀ c,v2 = .own c->c=a)
  (PN:bO X.prog X.w (upd (upd H a u1) d u2) s.heap a u1) (PL:bO X.prog X.w (upd (upd H a u1) d u2) s.heap d u2):Inv X j0 σ (upd (upd H a u1) d u2) s:=by
 have nea:∀{b:Addr}{o:HO},H b=some o->o≠v1->b≠a:=fun e n z=>by rw[z,ha]at e;exact n (Option.some.inj e).symm
 have ned:∀{b:Addr}{o:HO},H b=some o->o≠v2->b≠d:=fun e n z=>by rw[z,hd]at e;exact n (Option.some.inj e).symm
 have n0:∀{b:Addr},H b=none->b≠a/\b≠d:=fun{b} e=>⟨fun z=>(by rw[z,ha]at e;cases e),fun z=>(by rw[z,hd]at e;cases e)⟩
 have st:∀{b:Addr},b≠a->b≠d->upd (upd H a u1) d u2 b=H b:=fun h1 h2=>by rw[ah h2,ah h1]
 refine⟨I.ok,I.os,I.bare,⟨I.base.keep,I.base.slot,fun b o e n hx=>?_,I.base.there,fun b xs e=>?_,fun b o v e=>?_,fun b ps e=>?_⟩,I.loc,I.cell,?_,fun x c e=>?_,fun p hp=>?_,fun b o e=>?_,I.len⟩
 ·have:=I.base.free b o e n hx
  rw[st (n0 this).1 (n0 this).2];exact this
 ·have:=I.base.oJ b xs e
  rw[st (nea this fun z=>t1 _ z.symm) (ned this fun z=>t2 _ z.symm)]
  exact this
 ·have:=I.base.mY b o v e
  rw[st (nea this fun z=>z1 _ _ z.symm) (ned this fun z=>z2 _ _ z.symm)]
  exact this
 ·obtain⟨more,this⟩:=I.base.oK b ps e;refine⟨more,?_⟩;rw[st (nea this fun z=>b1 _ z.symm) (ned this fun z=>b2 _ z.symm)]
  exact this
 ·rw[st (n0 I.free).1 (n0 I.free).2];exact I.free
 ·rw[st (n0 (I.gx x c e)).1 (n0 (I.gx x c e)).2];exact I.gx x c e
 ·obtain⟨p1,p2,p3⟩:=I.pin p hp;exact⟨p1,by rw[st (n0 p2).1 (n0 p2).2];exact p2,p3⟩
 ·by_cases hbd:b=d
  ·subst hbd;rw[ar]at e;cases e;exact PL
  ·by_cases hba:b=a
   ·subst hba;rw[ah hbd,ar]at e;cases e;exact PN
   ·rw[st hba hbd]at e;refine(I.hok b o e).cL (fun _ _ _ q=>q) (fun c q=>?_) fun c xs q=>?_
    ·rw[st (nea q fun z=>w1 _ z.symm) (fun z=>by rw[z,hd]at q;exact hba (w2 b (Option.some.inj q)))];exact q
    ·rw[st (nea q fun z=>t1 _ z.symm) (ned q fun z=>t2 _ z.symm)];exact q
theorem Inv.LY(I:Inv X j0 σ H s)(ha:H a=some (.ins C d fs)):d≠a/\fs.length<=1000/\H d=some (.own a)/\Inv X j0 σ (upd (upd H a (.ext (rj a C d))) d (.ext (XD d fs))) s:=by
 obtain⟨hd,hl,ne,e,mA,n,r,w⟩:=(show bO X.prog X.w H s.heap a (.ins C d fs)from I.hok a _ ha);exact⟨ne,hl,hd,I.Cu ne ha hd (fun _ z=>nomatch z) (fun _ z=>nomatch z) (fun _ z=>nomatch z) (fun _ z=>nomatch z) (fun _ _ z=>nomatch z) (fun _ _ z=>nomatch z) (fun _ z=>nomatch z) (fun c z=>by cases z;rfl)
  ⟨e,⟨_,e⟩,fun h1 h2 p k=>k _ p⟩ (XD.ok ⟨mA,n,r,w⟩)⟩
theorem Inv.Pu(I:Inv X j0 σ H s)(ne:d≠a)(hl:fs.length<=1000)(ha:H a=some (.ext (rj a C d)))(hd:H d=some (.ext (XD d fs))):Inv X j0 σ (upd (upd H a (.ins C d fs)) d (.own a)) s:=by
 have e:rj a C d s.heap:=(I.hok a _ ha).1;obtain⟨mA,n,r,w⟩:XD d fs s.heap:=(I.hok d _ hd).1;refine I.Cu ne ha hd (fun _ z=>nomatch z) (fun _ z=>nomatch z) (fun _ z=>nomatch z) (fun _ z=>nomatch z) (fun _ _ z=>nomatch z) (fun _ _ z=>nomatch z) (fun _ z=>nomatch z) (fun c z=>nomatch z) ⟨ar,hl,ne,e,mA,n,r,w⟩ ?_
 obtain⟨o,_,_,e',_⟩:=n;exact⟨o,e'⟩
end
variable{C:Addr}{ns:List Str}{prs:List Str}
section
variable{X:Cx}{K:W.Frag}{e:Expr}{es:List Expr}{te:TE}{qe:QE}{tl:TA}{ql:QA}{pos p:Pos}{f:Str}
def IK(K:W.Frag)(ta:TE)(f:Str):TE:=fun σ H Q=>ta σ H fun x H1=>∃ a C fs v,x = .ref a/\ObH H1 a C fs/\fs.length<=1000/\Cls K C/\bc K C f/\fs.lookup f=some v/\Q v H1
theorem GW(he:PE X e te)(hb:attributeBase e f X.env (eval e X.env)=eval e X.env):PE X (.Attribute e f pos) (IK X.K te f):=by
 intro j0 s σ H Q I h;refine zJ hb (thn (he j0 s σ H _ I h) fun u s1 ⟨x,H1,I1,rx,a,C,fs,v,ex,⟨dx,ne,h1,h2⟩,hl,c,n,l,q⟩=>?_)
 subst ex;obtain rfl:u=Value.ref a:=rx;refine k9 (I1.Pu ne hl h1 h2) (C:=C) (dx:=dx) (fs:=fs) (by rw[ah ne.symm,ar]) c n l fun u' s2 I2 ru=>⟨v,H1,?_,ru,q⟩
 obtain⟨_,_,_,I3⟩:=I2.LY (a:=a) (C:=C) (d:=dx) (fs:=fs) (by rw[ah ne.symm,ar])
 have e:upd (upd (upd (upd H1 a (.ins C dx fs)) dx (.own a)) a (.ext (rj a C dx))) dx (.ext (XD dx fs))=H1:=by
  funext b
  by_cases hbd:b=dx
  ·rw[hbd,ar,h2]
  ·by_cases hba:b=a
   ·rw[ah hbd,hba,ar,h1]
   ·rw[ah hbd,ah hba,ah hbd,ah hba]
 rw[e]at I3;exact I3
def MK(C:Addr)(f:Str)(qe:QE):QE:=fun q Q=>qe q fun t=>match t with
 | .ob C' ns ts=>C'=C/\ns.length<=1000/\∃ x,(ns.zip ts).lookup f=some x/\Q x
 | _=>False
theorem yW(hc:Cls K C)(hn:bc K C f)(he:QPE X K e te qe)(hb:attributeBase e f X.env (eval e X.env)=eval e X.env:=by rfl)(hK:X.K=K:=by rfl):QPE X K (.Attribute e f pos) (IK K te f) (MK C f qe):=⟨by subst hK;exact GW he.h hb,fun dl H σ q Q R rd hq k=>he.s dl H σ q _ _ rd hq fun v t F H1 e1 r1 hz=>by
 split at hz
 ·obtain⟨rfl,hl,x,hx,hz⟩:=hz;obtain⟨a,vs,rfl,rfl,ho,rs⟩:=r1.r.obj;obtain⟨w,G,e2,r2,s2⟩:=rs.lookup hx;refine⟨a,_,_,w,rfl,ho,?_,hc,hn,e2,k _ _ G H1 e1 ⟨r2,fun b hb=>nomatch s2 b hb⟩ hz⟩
  rw[Sm];exact Ra (Nat.min_le_left _ _) hl
 ·exact hz.elim⟩
def wH(C:Addr)(ns:List Str):Sp:=fun vs H Q _=>∃ x dx args,vs = .ref x::args/\args.length=ns.length/\H x=some (.ins C dx [])/\Q .non (upd H x (.ins C dx (ns.zip args)))
def B3(C:Addr)(ns:List Str)(t:TA):TE:=fun σ H Q=>t σ H fun vs H1=>vs.length=ns.length/\∀ x dx,H1 x=none->H1 dx=none->dx≠x->Q (.ref x) (upd (upd H1 x (.ext (rj x C dx))) dx (.ext (XD dx (ns.zip vs))))
theorem C6{g:Addr}{k:Nat}(M:Mk X.K C g)(G:aQ X.prog X.w X.K X.mg X.base CX0 k g fd prs (wH C ns))(hr:bT (k+1) X.A)(hg:Gl X x)(hm:X.mg x=some (.ref C))(hb:Binds X.K fd prs [])(ha:PA X (e::es) tl)
  (hdb:(x ==("__debug__":Str))=false:=by decide) (he:L9 (e::es) X.env =(false,eval e X.env)::L9 es X.env:=by rfl) (hpl:(backTo pos (L9 es X.env)).any (·.1)=false:=by rfl) :
  PE X (.Call (.Name x p) (e::es) [] pos) (B3 C ns tl):=by
 intro j0 s σ H Q I h;refine Rr (oC I hg hm ?_ hdb);refine W.callWith_K (h₀:=X.base) I.ok.mod.kin M.kp (thn (ha pos j0 s σ H _ I h) fun us s1 ⟨vs,H1,I1,r,q⟩=>⟨I1.kIn,?_⟩) he hpl
 refine thn (uX (Q:=fun v H2=>∃ a dx fs,v = .ref a/\H2 a=some (.ins C dx fs)/\Q v (upd (upd H2 a (.ext (rj a C dx))) dx (.ext (XD dx fs)))) M G hr hb .nil l6 I1 r fun x dx hx hd ne=>⟨x,dx,vs,by simp,q.1,ar,rfl,x,dx,ns.zip vs,rfl,ar,?_⟩) fun u s' ⟨v,H',I',rv,a,dx,fs,e1,e2,qq⟩=>?_
 ·have e:upd (upd (upd (upd (upd H1 dx (.own x)) x (.ins C dx [])) x (.ins C dx (ns.zip vs))) x (.ext (rj x C dx))) dx (.ext (XD dx (ns.zip vs)))=upd (upd H1 x (.ext (rj x C dx))) dx (.ext (XD dx (ns.zip vs))):=by
   funext b
   by_cases hbd:b=dx
   ·rw[hbd,ar,ar]
   ·by_cases hba:b=x
    ·rw[ah hbd,ah hbd,hba,ar,ar]
    ·rw[ah hbd,ah hba,ah hba,ah hba,ah hbd,ah hbd,ah hba]
  rw[e];exact q.2 x dx hx hd ne
 ·obtain⟨_,_,_,I2⟩:=I'.LY e2;exact⟨v,_,I2,rv,qq⟩
def Kg(C:Addr)(ns:List Str)(ql:QA):QE:=fun q Q=>ql q fun ts=>T.ims ts=true/\ts.length=ns.length/\Q (.ob C ns ts)
theorem pb{g:Addr}{k:Nat}(hK:X.K=K)(M:Mk K C g)(G:aQ X.prog X.w X.K X.mg X.base CX0 k g fd prs (wH C ns))(hr:bT (k+1) X.A)(hg:Gl X x)(hm:X.mg x=some (.ref C))(hb:Binds X.K fd prs [])(ha:QPA X K (e::es) tl ql)
  (hdb:(x ==("__debug__":Str))=false:=by decide) (he:L9 (e::es) X.env =(false,eval e X.env)::L9 es X.env:=by rfl) (hpl:(backTo pos (L9 es X.env)).any (·.1)=false:=by rfl) :
  QPF X K (.Call (.Name x p) (e::es) [] pos) (B3 C ns tl) (Kg C ns ql):=by
 subst hK;refine⟨C6 M G hr hg hm hb ha.h hdb he hpl,fun dl H σ q Q R rd hq k=>ha.s dl H σ q _ _ rd hq fun vs ts F H1 e1 r1 _ hz=>?_⟩
 obtain⟨z1,z2,z3⟩:=hz;obtain rfl:=r1.r.im z1;refine⟨r1.r.len.trans z2,fun x dx hx hd ne=>?_⟩
 have ev:Evo dl H1 (upd (upd H1 x (.ext (rj x C dx))) dx (.ext (XD dx (ns.zip vs)))):=((Evo.refl e1.d).new hx).new (by rw[ah ne];exact hd)
 have r2:=r1.evo e1.d ev;exact k _ _ [] _ (e1.trans ev) ⟨.ob ⟨dx,ne,by rw[ah ne.symm,ar],ar⟩ r2.r,fun _ z=>nomatch z⟩ (fun _ z=>nomatch z) QG z3
end
def Alk:Nat->T->T->Prop
 | 0,t,u=>(∃ x y,t = .s x/\u = .s y)\/∃ x y,t = .i x/\u = .i y
 | n+1,t,u=>(∃ x y,t = .s x/\u = .s y)\/(∃ x y,t = .i x/\u = .i y)\/∃ ts us,t = .t ts/\u = .t us/\∀(j:Nat)(x y:T),ts[j]? = some x->us[j]? = some y->Alk n x y
def Dep:Nat->T->Prop
 | 0,t=>(∃ x,t = .s x)\/∃ x,t = .i x
 | n+1,t=>(∃ x,t = .s x)\/(∃ x,t = .i x)\/∃ ts,t = .t ts/\∀ x∈ts,Dep n x
theorem Dep.s:Dep n (.s x):=by cases n <;> exact .inl ⟨x,rfl⟩
theorem Dep.i{x:Int}:Dep n (.i x):=by
 cases n
 ·exact .inr ⟨x,rfl⟩
 ·exact .inr (.inl ⟨x,rfl⟩)
variable{G:List Addr}{j0:List (Addr×Obj)}
section
variable{X:Cx}{K:W.Frag}
theorem yo{s:Shared}{t u:T}{v w:V}{F:List Addr}{x y:Value}(h:(∃ x y,t = .s x/\u = .s y)\/∃ x y,t = .i x/\u = .i y)(r1:aq K dl H v t F)(r2:aq K dl H w u G)(rx:RelV v x)(ry:RelV w y):∃ c:Bool,(c=true ↔ t=u)/\SeqAt.EqAt A s x y c:=by
 rcases h with⟨z,z',rfl,rfl⟩ |⟨z,z',rfl,rfl⟩
 ·obtain⟨rfl,_⟩:=r1.str;obtain⟨rfl,_⟩:=r2.str;exact⟨_,by simp[eqV],pV (A:=A) (s:=s) rx ry rfl rfl⟩
 ·obtain⟨rfl,_⟩:=r1.int;obtain⟨rfl,_⟩:=r2.int;exact⟨_,by simp[eqV],pV (A:=A) (s:=s) rx ry rfl rfl⟩
theorem zw{ts us:List T}{n n1 n2:Nat}{e:Nat->Bool}(hn:n1=ts.length)(hm:n2=us.length)(he:∀(j:Nat)(x y:T),ts[j]? = some x->us[j]? = some y ->(e j=true ↔ x=y)):((Rf (min n1 n2)).all e&&n1==n2)=true ↔ ts=us:=by
 subst hn hm;rw[QY,RG,beq_iff_eq]
 constructor
 ·rintro⟨h1,h2⟩
  refine TC h2 fun i g1 g2=>?_
  exact(he i _ _ (QU g1) (QU g2)).mp (h1 i (Sd.mpr (by omega)))
 ·rintro rfl
  refine⟨fun j hj=>?_,rfl⟩
  have hj:j<ts.length:=by have:=Sd.mp hj;omega
  exact(he j _ _ (QU hj) (QU hj)).mpr rfl
theorem EE:∀(n:Nat){t u:T}{v:V}{F G:List Addr},Alk n t u->aq K dl H v t F->aq K dl H v u G->t=u:=by
 intro n;have sc:∀{t u:T}{v:V}{F G:List Addr},((∃ x y,t = .s x/\u = .s y)\/∃ x y,t = .i x/\u = .i y)->aq K dl H v t F->aq K dl H v u G->t=u:=fun h r1 r2=>by
  rcases h with⟨z,z',rfl,rfl⟩ |⟨z,z',rfl,rfl⟩
  ·obtain⟨rfl,_⟩:=r1.str;obtain⟨e,_⟩:=r2.str;cases e;rfl
  ·obtain⟨rfl,_⟩:=r1.int;obtain⟨e,_⟩:=r2.int;cases e;rfl
 induction n with
 | zero=>exact fun h r1 r2=>sc h r1 r2
 | succ n ih =>
  intro t u v F G h r1 r2;rcases h with h|h |⟨ts,us,rfl,rfl,ht⟩
  ·exact sc (.inl h) r1 r2
  ·exact sc (.inr h) r1 r2
  ·obtain⟨a,vs,rfl,h1,f1⟩:=r1.tup;obtain⟨b,ws,e,h2,f2⟩:=r2.tup;cases e;rw[h1]at h2;cases h2;have l3:=f1.len;have l4:=f2.len;refine congrArg L2.T.t (TC (by omega) fun i g1 g2=>?_)
   have gv:i<vs.length:=by omega
   obtain⟨t1,G1,et1,rt1⟩:=iw f1 (QU gv);obtain⟨t2,G2,et2,rt2⟩:=iw f2 (QU gv);rw[QU g1]at et1;rw[QU g2]at et2;cases et1;cases et2;exact ih (ht i _ _ (QU g1) (QU g2)) rt1 rt2
theorem D8{σ:St}{s:Shared}(I:Inv X j0 σ H s)(hK:X.K=K):∀(n:Nat)(A:Around)(t u:T)(v w:V)(F G:List Addr)(x y:Value),Alk n t u->aq K dl H v t F->aq K dl H w u G->RelV v x->RelV w y->A.units+n<cLine->∃ c:Bool,(c=true ↔ t=u)/\SeqAt.EqAt A s x y c:=by
 intro n
 induction n with
 | zero =>
  intro A t u v w F G x y ht r1 r2 rx ry hu;exact yo ht r1 r2 rx ry
 | succ n ih =>
  intro A t u v w F G x y ht r1 r2 rx ry hu;rcases ht with h|h |⟨ts,us,rfl,rfl,ht⟩
  ·exact yo (.inl h) r1 r2 rx ry
  ·exact yo (.inr h) r1 r2 rx ry
  ·obtain⟨a,vs,rfl,h1,f1⟩:=r1.tup;obtain⟨b,ws,rfl,h2,f2⟩:=r2.tup;cases rx;cases ry;obtain⟨its,q1,p1,_⟩:=I.tuple (SqT.of h1);obtain⟨bK,q2,p2,_⟩:=I.tuple (SqT.of h2);have l1:=q1.length;have l2:=q2.length;have l3:=f1.len;have l4:=f2.len;have go:∀ j,∃ c:Bool,∀(g1:j<its.toArray.size)(g2:j<bK.toArray.size),(∀(x y:T),ts[j]? = some x->us[j]? = some y ->(c=true ↔ x=y))/\SeqAt.EqAt A.in1 s its.toArray[j] bK.toArray[j] c:=fun j=>by
    by_cases g:j<its.toArray.size/\j<bK.toArray.size
    ·obtain⟨g1,g2⟩:=g;obtain⟨v1,e1,rv1⟩:=q1.at' g1;obtain⟨v2,e2,rv2⟩:=q2.at' g2;obtain⟨t1,G1,et1,rt1⟩:=iw f1 e1;obtain⟨t2,G2,et2,rt2⟩:=iw f2 e2;obtain⟨c,hc,hE⟩:=ih A.in1 t1 t2 v1 v2 G1 G2 _ _ (ht j t1 t2 et1 et2) rt1 rt2 rv1 rv2 (by show A.units+1+n<_;omega)
     refine⟨c,fun _ _=>⟨fun x y hx hy=>?_,hE⟩⟩
     rw[et1]at hx;rw[et2]at hy;cases hx;cases hy;exact hc
    ·exact⟨true,fun g1 g2=>absurd ⟨g1,g2⟩ g⟩
   have hc:=fun j=>Classical.choose_spec (go j)
   have key:((Rf (min its.toArray.size bK.toArray.size)).all (fun j=>Classical.choose (go j))&&its.toArray.size==bK.toArray.size)=true ↔ ts=us:=by
    have e1:its.toArray.size=ts.length:=by simp;omega
    have e2:bK.toArray.size=us.length:=by simp;omega
    refine zw (n:=n) e1 e2 fun j x y hx hy=>?_
    have g1:=(Qx.mp hx).1;have g2:=(Qx.mp hy).1;exact(hc j (by omega) (by omega)).1 x y hx hy
   by_cases hab:a=b
   ·subst hab;exact⟨true,⟨fun _=>EE (n+1) (.inr (.inr ⟨ts,us,rfl,rfl,ht⟩)) r1 r2,fun _=>rfl⟩,SeqAt.EqAt.same _⟩
   ·refine⟨_,⟨fun h=>congrArg L2.T.t (key.mp h),fun h=>key.mpr (by cases h;rfl)⟩,SeqAt.EqAt.of_refs hab (SeqAt.RcAt.tuples (A:=A) (e:=fun j=>Classical.choose (go j)) (show s.heap.IsTuple a its.toArray from p1) (show s.heap.IsTuple b bK.toArray from p2) (by omega) fun j g1 g2=>(hc j g1 g2).2)⟩
end
variable{pos':Pos}{N':List Str}{sc:Scope}{fp:List Addr}
section
variable{X:Cx}{K:W.Frag}{e a b:Expr}{es:List Expr}{te ta tb:TE}{qe qa qb:QE}{tl:TA}{ql:QA}{pos p apos:Pos}{k k':Nat}{f:Addr}
structure Dn(K:W.Frag)(mg:Str->Option Value)(x:Str)(st:Stmt)(f:Addr)(fd:FuncData)(ps:List Str):Prop where
 F:Fun K x x st f fd
 m:mg x=some (.ref f)
 b:Binds K fd ps []
theorem dt{ps:PSp}(F:aQ X.prog X.w X.K X.mg X.base CX0 k f fd prs (spQ K ps))(hr:bT k' X.A)(D:Dn X.K X.mg x st f fd prs)(ha:QPA X K (e::es) tl ql)(hk:k<=k':=by first|decide|omega)(hg:Gl X x:=by exact rfl)
  (hdb:(x ==("__debug__":Str))=false:=by decide) (he:L9 (e::es) X.env =(false,eval e X.env)::L9 es X.env:=by rfl) (hpl:(backTo pos (L9 es X.env)).any (·.1)=false:=by rfl) :
  QPF X K (.Call (.Name x p) (e::es) [] pos) (yL (spQ K ps) [] E0 tl) (CS ps ql):=Gz F (hr.mono hk) hg D.m D.F.kp D.b ha hdb he hpl
theorem aJ:QPA X K [] jq MC:=uA.w aw
theorem ao{i j}:QPE X K (.Constant (.int i) j pos) (tC (.int i)) (qC (.i i)):=QPF.w dP
theorem mQ(hm:X.mg "len" = none)(ha:QPA X K (e::es) tl ql)(hg:Gl X "len":=by exact rfl)(hK:X.K=K:=by exact rfl)
  (he:L9 (e::es) X.env =(false,eval e X.env)::L9 es X.env:=by rfl) (hpl:(backTo pos (L9 es X.env)).any (·.1)=false:=by rfl):QPF X K (.Call (.Name "len" p) (e::es) [] pos) (tCB (CA K) tl) (qCB Kh ql):=jD (Bj hK) FY hg hm (by kernel_rfl) ha (by decide) (by decide) he hpl
theorem aE(i:Nat)(hN:X.N.Nodup)(he:QPF X K e te qe)(hi:X.N[i]? = some x:=by rfl)(hx:Loc X.env.scope x:=by first|exact .inl rfl|exact .inr rfl)(hs:swapsWith e (some (.Name x pos')) pos.line X.env=pure false:=by rfl)(hf:X.fn x=true\/X.env.scope.names.lookup x=some .local:=by first|exact .inl rfl|exact .inr rfl|assumption) :
  QPS X K (.Assign [.Name x pos'] e pos) (ku te (gw i)) (GA i qe):=J7 hN hi hx he hs hf
theorem iT(i:Nat)(hN:X.N.Nodup)(hi:X.N[i]? = some x:=by rfl)(hx:Loc X.env.scope x:=by first|exact .inl rfl|exact .inr rfl)(hf:X.fn x=true\/X.env.scope.names.lookup x=some .local:=by first|exact .inl rfl|exact .inr rfl|assumption):PG X (.Name x pos) (gw i):=l5 hN hi hx hf
theorem xo{cl:List (Str×Addr)}{s₂:Shared}{H₂:Hp}(i:Nat)(hN:N'.Nodup:=by decide +kernel)(hi:N'[i]? = some x:=by rfl)(hx:Loc (blk X N' sc cl C s₂ H₂ fp).env.scope x:=by first|exact .inl rfl|exact .inr rfl)(hf:(blk X N' sc cl C s₂ H₂ fp).env.scope.names.lookup x=some .local:=by rfl):PG (blk X N' sc cl C s₂ H₂ fp) (.Name x pos) (gw i):=l5 (X:=blk X N' sc cl C s₂ H₂ fp) hN hi hx (.inr hf)
theorem GQ{x1 x2:Str}{t1 t2:TG}{j:Nat}(h1:PG X (.Name x1 p1) t1)(h2:PG X (.Name x2 p2) t2)(hK:X.K=K:=by exact rfl)(hc:X.calm=true:=by exact rfl)
  (hn:(assignEach [.Name x1 p1,.Name x2 p2] X.env).length=2:=by rfl) (hst:(assignEach [.Name x1 p1,.Name x2 p2] X.env).findIdx? (·.1)=none:=by rfl):PG X (.Tuple [.Name x1 p1,.Name x2 p2] j pos) (x5 K 2 (zt t1 (zt t2 Ln))):=y8 hK hc (ix h1 (ix h2 y7)) hn hst
theorem fV(hu:X.A.units+1<cLine)(ha:QPE X K a ta qa)(hb:QPE X K b tb qb)(hK:X.K=K:=by exact rfl):QPT X K (.Compare a [.Eq] [b] pos) (yI (tOp (J4 K) ta tb)) (CM (qOp Kj qa qb)):=cX (pI hu hK) lI (bI _) ha hb
def IT(ha:QPE X K a ta qa)(hb:QPE X K b tb qb):=cX (pos:=pos) M4 (wO (K:=K) (g':=fun i j=>.b (decide (i<j))) fun _ _ _ _=>.b _) (bI _) ha hb
def yT(ha:QPE X K a ta qa)(hb:QPE X K b tb qb):=cX (pos:=pos) Dg (wO (K:=K) (g':=fun i j=>.b (decide (j<i))) fun _ _ _ _=>.b _) (bI _) ha hb
end
abbrev NI(K:W.Frag)(x:Str)(f:Addr):Prop:=W.nsIn K mainGlobals x=some (some (.ref f))
abbrev LK(K:W.Frag)(f:Addr)(x q:Str)(st:Stmt)(oc:Value)(od:Option Addr)(kV dc pm:Value)(an:Option Addr)(cd ct:Value)(sl:Array (Option Value)):Prop:=K.lookup f=some ⟨oc,od,.func (W.fnOf x q (dD st) (bH st) (ak st) .none kV dc pm an cd ct),sl⟩
abbrev CI(K:W.Frag)(cd:Value)(x:Str):Prop:=W.codeIn K cd x=true
abbrev KI(K:W.Frag)(f:Addr):Prop:=W.keepIn K (.ref f)=true
variable{p3:Str}
section
variable{K:W.Frag}{h:Heap}{q:Str}{f:Addr}{oc kV dc pm cd ct:Value}{od an:Option Addr}{sl:Array (Option Value)}
theorem Fun.b1{p1:Str}(F:Fun K x q st f fd)(hb:∀ kV dc pm an cd ct u1,bindArgs (W.fnOf x q (dD st) (bH st) (ak st) .none kV dc pm an cd ct) ⟨[u1],[]⟩=pure [(p1,u1)]:=by intros;rfl):Binds K fd [p1] []:=F.binds fun kV dc pm an cd ct us hl=>Np (P:=fun us=>bindArgs _ ⟨us,[]⟩=pure (Tt _ us)) (hb kV dc pm an cd ct) us hl
theorem Fun.b2{p1 p2:Str}(F:Fun K x q st f fd)(hb:∀ kV dc pm an cd ct u1 u2,bindArgs (W.fnOf x q (dD st) (bH st) (ak st) .none kV dc pm an cd ct) ⟨[u1,u2],[]⟩=pure [(p1,u1),(p2,u2)]:=by intros;rfl):Binds K fd [p1,p2] []:=F.binds fun kV dc pm an cd ct us hl=>Nn (P:=fun us=>bindArgs _ ⟨us,[]⟩=pure (Tt _ us)) (hb kV dc pm an cd ct) us hl
theorem Fun.b3{p1 p2:Str}(F:Fun K x q st f fd)(hb:∀ kV dc pm an cd ct u1 u2 u3,bindArgs (W.fnOf x q (dD st) (bH st) (ak st) .none kV dc pm an cd ct) ⟨[u1,u2,u3],[]⟩=pure [(p1,u1),(p2,u2),(p3,u3)]:=by intros;rfl):Binds K fd [p1,p2,p3] []:=F.binds fun kV dc pm an cd ct us hl=>Nm (P:=fun us=>bindArgs _ ⟨us,[]⟩=pure (Tt _ us)) (hb kV dc pm an cd ct) us hl
theorem Fun.b4{p1 p2 p4:Str}(F:Fun K x q st f fd)(hb:∀ kV dc pm an cd ct u1 u2 u3 u4,bindArgs (W.fnOf x q (dD st) (bH st) (ak st) .none kV dc pm an cd ct) ⟨[u1,u2,u3,u4],[]⟩=pure [(p1,u1),(p2,u2),(p3,u3),(p4,u4)]:=by intros;rfl):Binds K fd [p1,p2,p3,p4] []:=F.binds fun kV dc pm an cd ct us hl=>Nl (P:=fun us=>bindArgs _ ⟨us,[]⟩=pure (Tt _ us)) (hb kV dc pm an cd ct) us hl
theorem Fun.b5{p1 p2 p4 p5:Str}(F:Fun K x q st f fd)(hb:∀ kV dc pm an cd ct u1 u2 u3 u4 u5,bindArgs (W.fnOf x q (dD st) (bH st) (ak st) .none kV dc pm an cd ct) ⟨[u1,u2,u3,u4,u5],[]⟩=pure [(p1,u1),(p2,u2),(p3,u3),(p4,u4),(p5,u5)]:=by intros;rfl):Binds K fd [p1,p2,p3,p4,p5] []:=F.binds fun kV dc pm an cd ct us hl=>PU (P:=fun us=>bindArgs _ ⟨us,[]⟩=pure (Tt _ us)) (hb kV dc pm an cd ct) us hl
end
mutual
def T.pln:T->Bool
 | .n=>true
 | .b _=>true
 | .i _=>true
 | .s _=>true
 | .t xs=>T.qN xs
 | .zl xs=>T.qN xs
 | _=>false
def T.qN:List T->Bool
 | []=>true
 | x::r=>x.pln&&T.qN r
end
theorem nof{A:Prop}(h:false=true):A:=absurd h QF
theorem aq.plain{K:W.Frag}(kt:∀ a vs,H a=some (.tup vs)->H' a=some (.tup vs))(kf:∀ a o u,H a=some (.frz o u)->H' a=some (.frz o u)){v:V}{t:T}{F:List Addr}(h:aq K dl H v t F):t.pln=true->aq K dl H' v t F :=
 aq.rec (motive_1:=fun v t F _=>t.pln=true->aq K dl H' v t F) (motive_2:=fun v t F _=>T.qN t=true->ai K dl H' v t F) (motive_3:=fun _ _ _ _=>True)
  (fun _=>.n) (fun x _=>.b x) (fun x _=>.i x) (fun x _=>.s x) (fun _ h=>nof h) (fun h _ ih q=>.t (kt _ _ h) (ih q)) (fun _ _ _ h=>nof h) (fun _ _ _ h=>nof h) (fun _ h=>nof h) (fun _ h=>nof h) (fun _ h=>nof h) (fun _ _ _ h=>nof h) (fun _ h=>nof h) (fun _ _ _ h=>nof h)
  (fun _ _ h=>nof h) (fun _ _ _ h=>nof h) (fun _ _ _ h=>nof h) (fun _ _ _ h=>nof h) (fun h _ ih q=>.zl (kf _ _ _ h) (ih q)) (fun _ h=>nof h) (fun _ _ _ _ _ h=>nof h) (fun _=>.nil) (fun _ _ i1 i2 q=>.cons (i1 (QY _ _▸q).1) (i2 (QY _ _▸q).2)) trivial (fun _ _ _ _=>trivial) h
theorem ai.plain{K:W.Frag}{dl:Dl}{H H':Hp}(kt:∀ a vs,H a=some (.tup vs)->H' a=some (.tup vs))(kf:∀ a o u,H a=some (.frz o u)->H' a=some (.frz o u)){vs:List V}{ts:List T}{F:List Addr}(h:ai K dl H vs ts F):T.qN ts=true->ai K dl H' vs ts F :=
 h.ind (M:=fun vs ts F=>T.qN ts=true->ai K dl H' vs ts F) (fun _=>.nil) (fun _ _ _ _ _ _ h _ ih q=>.cons (h.plain kt kf (QY _ _▸q).1) (ih (QY _ _▸q).2))
theorem aq.Kx{K:W.Frag}{v:V}{t:T}{F:List Addr}(h:aq K dl H v t F):t.pln=true->F = [] :=
 aq.rec (motive_1:=fun _ t F _=>t.pln=true->F = []) (motive_2:=fun _ t F _=>T.qN t=true->F = []) (motive_3:=fun _ _ _ _=>True)
  (fun _=>rfl) (fun _ _=>rfl) (fun _ _=>rfl) (fun _ _=>rfl) (fun _ h=>nof h) (fun _ _ ih=>ih) (fun _ _ _ h=>nof h) (fun _ _ _ h=>nof h) (fun _ h=>nof h) (fun _ h=>nof h) (fun _ h=>nof h) (fun _ _ _ h=>nof h) (fun _ h=>nof h) (fun _ _ _ h=>nof h)
  (fun _ _ h=>nof h) (fun _ _ _ h=>nof h) (fun _ _ _ h=>nof h) (fun _ _ _ h=>nof h) (fun _ _ _ _=>rfl) (fun _ h=>nof h) (fun _ _ _ _ _ h=>nof h) (fun _=>rfl) (fun _ _ i1 i2=>pP i1 i2) trivial (fun _ _ _ _=>trivial) h
theorem ai.Kx{K:W.Frag}{dl:Dl}{H:Hp}{vs:List V}{ts:List T}{F:List Addr}(h:ai K dl H vs ts F):T.qN ts=true->F = []:=h.ind (M:=fun _ t F=>T.qN t=true->F = []) (fun _=>rfl) (fun _ _ _ _ _ _ h _ ih=>pP h.Kx ih)
variable{its:List Value}
section
variable{X:Cx}{K:W.Frag}{σ:St}{s:Shared}{e o:Expr}{te:TE}{qe:QE}{apos aM dq:Pos}
theorem Inv.HM(I:Inv X j0 σ H s)(ha:H a=some (.lst xs)):∃ o,Inv X j0 σ (upd H a (.frz o (.lst xs))) s:=by
 have hz:∀ o v,X.H₀ a≠some (.frz o v):=fun o v e=>by
  have:=I.base.mY a o v e
  rw[ha]at this;cases this
 obtain⟨z,its,n,r,e⟩:=(show bO X.prog X.w H s.heap a (.lst xs)from I.hok a _ ha);exact⟨_,I.Mg ha (fun _ z=>nomatch z) (fun _ z=>nomatch z) (fun _ z=>nomatch z) hz ⟨e,z,its,n,r,e⟩⟩
def IJ(te:TE):TE:=fun σ H Q=>te σ H fun v H1=>∃ a xs,v = .ref a/\H1 a=some (.lst xs)/\∀ o,Q v (upd H1 a (.frz o (.lst xs)))
theorem GV(he:PE X e te):PE X e (IJ te):=by
 intro j0 s σ H Q I h;refine thn (he j0 s σ H _ I h) fun u s' hPP=>?_
 obtain⟨v,H',I',r,a,xs,e1,e2,q⟩:=hPP;obtain⟨o,I2⟩:=I'.HM e2;exact⟨v,_,I2,r,q o⟩
def MJ(qe:QE):QE:=fun q Q=>qe q fun t=>match t with
 | .l ts=>T.qN ts=true/\Q (.zl ts)
 | _=>False
theorem yV(he:QPF X K e te qe):QPF X K e (IJ te) (MJ qe):=⟨GV he.h,fun dl H σ q Q R rd hq k=>he.s dl H σ q _ _ rd hq fun v t F H1 e1 r1 f1 n1 hz=>by
 split at hz
 ·obtain⟨p,vs,G,rfl,rfl,h1,h2⟩:=r1.r.lst;obtain rfl:=h2.Kx hz.1;refine⟨p,vs,rfl,h1,fun o=>?_⟩
  have e2:=e1.fresh (o:=.frz o (.lst vs)) (f1 p qr) (r1.n p qr);have ne:∀{a:Addr}{u:HO},H1 a=some u ->(∀ xs,u ≠ .lst xs)->a≠p:=fun h n z=>by rw[z,h1]at h;exact n _ (Option.some.inj h).symm
  have ts:=h2.plain (H':=upd H1 p (.frz o (.lst vs))) (fun a us h=>by rw[ah (ne h fun _ z=>nomatch z)];exact h) (fun a o u h=>by rw[ah (ne h fun _ z=>nomatch z)];exact h) hz.1
  exact k _ (.zl _) [] _ e2 ⟨.zl ar ts,fun _ z=>nomatch z⟩ (fun _ z=>nomatch z) QG hz.2
 ·exact hz.elim⟩
theorem Iy{σ:St}{s:Shared}(I:Inv X j0 σ H s)(hK:X.K=K){vs ws:List V}{ts us:List T}{F:List Addr}{bK:List Value}(q1:Vals vs its)(q2:Vals ws bK)(f1:ai K dl H vs ts F)(f2:ai K dl H ws us G)(ht:∀(j:Nat)(x y:T),ts[j]? = some x->us[j]? = some y->Alk n x y)(hu:A.units+n<cLine) :
  ∃ e:Nat->Bool,(∀(j:Nat)(g1:j<its.toArray.size)(g2:j<bK.toArray.size),SeqAt.EqAt A s its.toArray[j] bK.toArray[j] (e j))/\∀(j:Nat)(x y:T),ts[j]? = some x->us[j]? = some y ->(e j=true ↔ x=y):=by
 have l1:=q1.length;have l2:=q2.length;have l3:=f1.len;have l4:=f2.len;have go:∀ j,∃ c:Bool,∀(g1:j<its.toArray.size)(g2:j<bK.toArray.size),(∀(x y:T),ts[j]? = some x->us[j]? = some y ->(c=true ↔ x=y))/\SeqAt.EqAt A s its.toArray[j] bK.toArray[j] c:=fun j=>by
  by_cases g:j<its.toArray.size/\j<bK.toArray.size
  ·obtain⟨g1,g2⟩:=g;obtain⟨v1,e1,rv1⟩:=q1.at' g1;obtain⟨v2,e2,rv2⟩:=q2.at' g2;obtain⟨t1,G1,et1,rt1⟩:=iw f1 e1;obtain⟨t2,G2,et2,rt2⟩:=iw f2 e2;obtain⟨c,hc,hE⟩:=D8 I hK n A t1 t2 v1 v2 G1 G2 _ _ (ht j t1 t2 et1 et2) rt1 rt2 rv1 rv2 hu;refine⟨c,fun _ _=>⟨fun x y hx hy=>?_,hE⟩⟩
   rw[et1]at hx;rw[et2]at hy;cases hx;cases hy;exact hc
  ·exact⟨true,fun g1 g2=>absurd ⟨g1,g2⟩ g⟩
 refine⟨fun j=>Classical.choose (go j),fun j g1 g2=>(Classical.choose_spec (go j) g1 g2).2,fun j x y hx hy=>?_⟩
 have g1:=(Qx.mp hx).1;have g2:=(Qx.mp hy).1;exact(Classical.choose_spec (go j) (by simp;omega) (by simp;omega)).1 x y hx hy
end
end L2
namespace L2
open PySem PySem.Spec PyProof.Rows
def l9(H:Hp)(F:List Addr):Hp:=fun b=>if b∈F then none else H b
variable{H:Hp}
theorem vB{F:List Addr}{b:Addr}(h:b∈F):l9 H F b=none:=if_pos h
theorem pL{F:List Addr}{b:Addr}(h:b ∉ F):l9 H F b=H b:=if_neg h
structure fC(dl:Dl)(H:Hp)(F:List Addr)(H':Hp):Prop where
 k:∀ b o,H b=some o->b ∉ F->Nd dl b->NR o->H' b=some o
 r:∀ a x,H a=some (.room x)->a ∉ F->∃ y,y<=x/\H' a=some (.room y)
 l:∀ b xs,b∈F->H b=some (.lst xs)->∃ ys,H' b=some (.lst ys)
 d:Dls dl H'
abbrev ju:=List T ->(T->T->Prop)->Prop
def spL(K:W.Frag)(j:Nat)(ps:ju):Sp:=fun vs H Q _=>∃(dl:Dl)(ts:List T)(v0:V)(t0:T)(F0:List Addr)(Qp:T->T->Prop),Dls dl H/\vs.length=ts.length/\vs[j]? = some v0/\ts[j]? = some t0/\Rp K dl H v0 t0 F0/\F0.Nodup /\
 (∀ i v t,i≠j->vs[i]? = some v->ts[i]? = some t->Rp K dl H v t [])/\ps ts Qp /\
 ∀ v r Fr t' F' H',fC dl H F0 H'->Rp K dl H' v0 t' F'->F'.Nodup ->(∀ b∈F',b∈F0\/H b=none)->Rp K dl H' v r Fr->Fr.Nodup ->(∀ b∈Fr,b∈F0\/H b=none) ->(∀ b∈Fr,b ∉ F')->Qp r t'->Q v H'
def hsq(H:Hp)(F:List Addr):List (V×T):=F.filterMap fun b=>match H b with
 | some (.lst _)=>some (.ref b,.q)
 | _=>none
variable{dl:Dl}
theorem Lc{K:W.Frag}{F:List Addr}:∀ p∈hsq H F,Rp K dl H p.1 p.2 []:=fun p hp=>by
 obtain⟨b,_,e⟩:=So.mp hp
 split at e
 ·rename_i xs h;cases e;exact⟨.q h,fun _ z=>nomatch z⟩
 ·cases e
variable{xs:List V}
theorem HF{F:List Addr}{b:Addr}(hb:b∈F)(h:H b=some (.lst xs)):(V.ref b,T.q)∈hsq H F:=So.mpr ⟨b,hb,by rw[h]⟩
variable{N:List Str}{j:Nat}
theorem w5{K:W.Frag}{vs:List V}{ts:List T}{v0:V}{t0:T}{F0:List Addr}{hs:List (V×T)}(D:Dls dl H)(hl:vs.length=ts.length)(hv:vs[j]? = some v0)(r0:Rp K dl H v0 t0 F0)(n0:F0.Nodup)(ro:∀ i v t,i≠j->vs[i]? = some v->ts[i]? = some t->Rp K dl H v t [])(hj:j<ts.length)(hh:∀ p∈hs,Rp K dl H p.1 p.2 []) :
  Rel K dl (l9 H F0) hs H (start N vs) ((ts.map Sl.r).set j (.o t0)++Ri (N.length - ts.length) .no) (fun i=>if i=j then F0 else []):=by
 have lk:∀(i:Nat)(y:Sl),((ts.map Sl.r).set j (.o t0)++Ri (N.length - ts.length) Sl.no)[i]? = some y ->(i=j/\y = .o t0)\/(i≠j/\∃ t,ts[i]? = some t/\y = .r t)\/(ts.length<=i/\y = .no):=fun i y h=>by
  by_cases hi:i<ts.length
  ·rw[RF (by simpa using hi)]at h
   rcases get_set h with⟨e1,e2,_⟩ |⟨e1,e2⟩
   ·exact .inl ⟨e1,e2⟩
   ·rw[Q0,QU hi]at e2;exact .inr (.inl ⟨e1,ts[i],by simp,(Option.some.inj e2).symm⟩)
  ·rw[Rw (by simpa using hi),Sr]at h
   split at h
   ·exact .inr (.inr ⟨by omega,(Option.some.inj h).symm⟩)
   ·cases h
 have vat:∀(i:Nat)(v:V),vs[i]? = some v ->(start N vs)[i]? = some (some v):=fun i v e=>by
  have hi:i<vs.length:=(Qx.mp e).1;show(vs.map some++Ri (N.length - vs.length) none)[i]? = _;rw[RF (by simpa using hi),Q0,e]
  rfl
 have inF:∀ b o,l9 H F0 b=some o->H b=some o:=fun b o h=>by
  by_cases e:b∈F0
  ·rw[vB e]at h;cases h
  ·rw[pL e]at h;exact h
 refine⟨D,fun i y t h1 h2=>?_,fun i y h1 h2=>?_,fun i hi=>?_,fun i t h1=>?_,fun p hp=>⟨[],hh p hp,fun _ _ _ _ _ z=>nomatch z⟩,⟨fun b o h _ _=>inF b o h,fun b x h=>⟨x,RO _,inF b _ h⟩⟩,?_⟩
 ·rcases lk i y h1 with⟨rfl,rfl⟩ |⟨ne,u,e,rfl⟩ |⟨_,rfl⟩
  ·cases h2;refine⟨v0,vat _ _ hv,?_⟩;rw[if_pos rfl];exact r0
  ·cases h2;obtain⟨v,ev⟩:∃ v,vs[i]? = some v:=⟨vs[i]'(by rw[hl];exact(Qx.mp e).1),QU _⟩
   refine⟨v,vat _ _ ev,?_⟩;show Rp K dl H v t (if i=j then F0 else [])
   rw[if_neg ne];exact ro i v t ne ev e
  ·cases h2
 ·rcases lk i y h1 with⟨rfl,rfl⟩ |⟨ne,u,e,rfl⟩ |⟨hi,rfl⟩
  ·cases h2
  ·cases h2
  ·exact if_neg (by omega)
 ·refine if_neg ?_;simp at hi;omega
 ·rcases lk i _ h1 with⟨rfl,e⟩ |⟨ne,u,e,z⟩ |⟨_,z⟩
  ·refine⟨by rw[if_pos rfl];exact n0,fun b hb=>?_,fun k hk b hb=>?_⟩
   ·rw[if_pos rfl]at hb;exact vB hb
   ·rw[if_neg hk];exact TB
  ·cases z
  ·cases z
 ·show _ =(vs.map some++Ri (N.length - vs.length) none).length;simp[hl]
def T.adr:T->Option Addr
 | .lp a _=>some a
 | .dp a _=>some a
 | .om a _ _ _=>some a
 | _=>none
theorem aq.adr{K:W.Frag}{dl:Dl}{H:Hp}{v:V}{t:T}{F:List Addr}{a:Addr}(h:aq K dl H v t F)(e:t.adr=some a):v = .ref a:=by
 cases t with
 | lp b xs=>cases e;obtain⟨_,_,z,_⟩:=h.lpp;exact z
 | dp b xs=>cases e;obtain⟨_,_,z,_⟩:=h.dpp;exact z
 | om b _ _ _=>cases e;obtain⟨_,_,_,z,_⟩:=h.omm;exact z
 | _=>cases e
variable{P:Program}{mg:Str->Option Value}{base:Heap}{x:Str}{qual:Str}{st:Stmt}{fd:FuncData}{ps:List Str}
theorem Fun.okL{w:World}{K:W.Frag}{f:Addr}{k:Nat}{psp:ju}(F:Fun K x qual st f fd)(S:aA N ps (ak st))(len:∀ ts Q,psp ts Q->ts.length=ps.length)
  (ma:∀(cdv:Value)(A:Around)(outer:List Env)(s:Shared)(H:Hp)(E:XK),bT k (A.deeper (envOfC qual (ak st) s.heap.objs.size f cdv)) ->
   ∃ t qs,oh (qW CX0 P w K mg base N qual (ak st) f cdv A outer s H E).nox K (bH st) t qs/\∀ ts Q t0 a,psp ts Q->ts[j]? = some t0->t0.adr=some a->qs { nx:=fun q=>∃ t',q[j]? = some (.o t')/\t'.adr=some a/\Q .n t',rt:=fun _=>False,ru:=fun q r=>∃ t',q[j]? = some (.o t')/\t'.adr=some a/\Q r t' } ((ts.map Sl.r).set j (.o t0)++Ri (N.length - ts.length) .no))
  (Qe:∀ ts Q,psp ts Q->∃ t0 a,ts[j]? = some t0/\t0.adr=some a):aQ P w K mg base CX0 (k+1) f fd ps (spL K j psp):=by
 refine F.ok S (fun vs H Q E h=>?_) (fun cdv A outer s H vs Q E hr h=>?_)
 ·obtain⟨dl,ts,v0,t0,F0,Qp,_,hl,_,_,_,_,_,h,_⟩:=h;rw[hl];exact len ts Qp h
 ·obtain⟨dl,ts,v0,t0,F0,Qp,D,hl,hv,ht,r0,n0,ro,h,fin⟩:=h;obtain⟨t,qs,hb,hq⟩:=ma cdv A outer s H E hr;refine⟨t,hb.h,?_⟩;obtain⟨t0',a,ht',ea⟩:=Qe ts Qp h;rw[ht]at ht';cases ht';have z:=hq ts Qp t0 a h ht ea;have hj:j<ts.length:=(Qx.mp ht).1;have R:=w5 (N:=N) (hs:=hsq H F0) D hl hv r0 n0 ro hj Lc;have ev0:=r0.r.adr ea;have inF:∀{b:Addr}{o:HO},H b=some o->b ∉ F0->l9 H F0 b=some o:=fun h n=>by rw[pL n];exact h
  have vC:∀{H':Hp}{σ:St}{q:Sq}{F':Nat->List Addr},Rel K dl (l9 H F0) (hsq H F0) H' σ q F'->fC dl H F0 H':=fun{H' σ q F'} r' =>
   ⟨fun b o e n nd nr=>r'.f.k b o (inF e n) nd nr,fun b x e n=>r'.f.r b x (inF e n),fun b xs hb e=>(by
    obtain⟨Fp,rq,_⟩:=r'.h _ (HF hb e);cases rq.r with
    | q h=>exact⟨_,h⟩),r'.d⟩
  have fr:∀{b:Addr},l9 H F0 b=none->b∈F0\/H b=none:=fun{b} h=>by
   by_cases e:b∈F0
   ·exact .inl e
   ·rw[pL e]at h;exact .inr h
  have at':∀{H':Hp}{σ:St}{q:Sq}{F':Nat->List Addr}{t':T},Rel K dl (l9 H F0) (hsq H F0) H' σ q F'->q[j]? = some (.o t')->t'.adr=some a->Rp K dl H' v0 t' (F' j):=fun{H' σ q F' t'} r' e1 e2=>by
   obtain⟨v',_,rp⟩:=r'.g j _ _ e1 rfl;rw[ev0,<- rp.r.adr e2];exact rp
  refine hb.s dl (l9 H F0) (hsq H F0) H _ _ _ _ ⟨_,R⟩ z ⟨fun H' σ q hr hz=>?_,fun _ _ _ _ hz=>hz.elim,fun _ _ _ _ hz=>hz.elim,fun _ _ _ _ _ _ _ _ _ hz=>hz.elim,fun H' σ q F' v r Fr r' rv f1 n1 dj hz=>?_⟩
  ·obtain⟨F',r'⟩:=hr;obtain⟨t',e1,e2,hz⟩:=hz;obtain⟨o1,o2,_⟩:=r'.o j t' e1;exact fin .non .n [] t' (F' j) H' (vC r') (at' r' e1 e2) o1 (fun b hb=>fr (o2 b hb)) ⟨.n,fun _ z=>nomatch z⟩ QG (fun _ z=>nomatch z) (fun _ z=>nomatch z) hz
  ·obtain⟨t',e1,e2,hz⟩:=hz;obtain⟨o1,o2,_⟩:=r'.o j t' e1;exact fin v r Fr t' (F' j) H' (vC r') (at' r' e1 e2) o1 (fun b hb=>fr (o2 b hb)) rv n1 (fun b hb=>fr (f1 b hb)) (dj j) hz
variable{F':List Addr}
section
variable{X:Cx}{K:W.Frag}{H₀ H':Hp}{hs:List (V×T)}{σ:St}{q:Sq}{F:Nat->List Addr}
theorem Rel.Nk{i:Nat}{t t':T}{v:V}(r:Rel K dl H₀ hs H σ q F)(hi:q[i]? = some (.o t))(hv:σ[i]? = some (some v))(f:fC dl H (F i) H')(hr:Rp K dl H' v t' F')(n':F'.Nodup)(hF:∀ b∈F',b∈F i\/H b=none):Rel K dl H₀ hs H' σ (q.set i (.o t')) (oS F i F'):=by
 have th:∀{b:Addr},b∈F i->cg H b:=fun hb=>r.cV hb
 have ne:∀{b:Addr}{o:HO},H b=some o->o.mt=false->b ∉ F i:=fun{b o} h n1 z=>by
  obtain⟨_,e,m⟩:=th z;rw[h]at e;cases e;rw[n1]at m;cases m
 have tf:TF H H':=⟨fun b vs h=>f.k b _ h (ne h rfl) (r.d.nd h (fun _ z=>nomatch z) fun _ z=>nomatch z) (fun _ z=>nomatch z),fun b o u h=>f.k b _ h (ne h rfl) (r.d.nd h (fun _ z=>nomatch z) fun _ z=>nomatch z) (fun _ z=>nomatch z),
  fun b φ h=>f.k b _ h (ne h rfl) (r.d.nd h (fun _ z=>nomatch z) fun _ z=>nomatch z) (fun _ z=>nomatch z),fun b xs h=>(by
  by_cases hb:b∈F i
  ·exact f.l b xs hb h
  ·by_cases hn:Nd dl b
   ·exact⟨xs,f.k b _ h hb hn (fun _ z=>nomatch z)⟩
   ·unfold Nd at hn;obtain⟨p,hp,z⟩:∃ p∈dl,¬(b≠p.1/\b≠p.2):=Classical.byContradiction fun c=>hn fun p hp=>Classical.byContradiction fun z=>c ⟨p,hp,z⟩
    obtain⟨s,n,ls,Q⟩:=r.d p hp;obtain⟨s',n',ls',Q'⟩:=f.d p hp;have h1:b≠p.1:=jL h Q.hd (fun z=>nomatch z)
    have h2:b=p.2:=Classical.byContradiction fun z'=>z ⟨h1,z'⟩
    exact⟨_,by rw[h2];exact Q'.hl⟩),fun b x h=>f.r b x h (ne h rfl)⟩
 have st:∀{w:V}{u:T}{Fw:List Addr},Rp K dl H w u Fw ->(∀ b∈Fw,b ∉ F i)->Rp K dl H' w u Fw:=fun{w u Fw} h np =>
  ⟨h.r.cL tf (fun _ z=>z) fun b hb o e=>f.k b o e (np b hb) (h.n b hb) (.of (h.r.there b hb) e),h.n⟩
 obtain⟨o1,o2,o3⟩:=r.o i t hi;have out:∀ j,j≠i->∀ b∈F',b ∉ F j:=fun j hj b hb z=>by
  rcases hF b hb with h|h
  ·exact o3 j hj b h z
  ·exact(r.cV z).no h
 refine⟨f.d,fun j x u h1 h2=>?_,fun j x h1 h2=>?_,fun j hj=>?_,fun j u h1=>?_,fun p hp=>?_,⟨fun b o h n nr=>?_,fun b x h=>?_⟩,by simp[r.l]⟩
 ·rcases get_set h1 with⟨rfl,rfl,_⟩ |⟨ne',h1⟩
  ·cases h2;exact⟨v,hv,by rw[aB];exact hr⟩
  ·obtain⟨w,h3,h4⟩:=r.g j x u h1 h2;exact⟨w,h3,by rw[au ne'];exact st h4 fun b hb z=>o3 j ne' b z hb⟩
 ·rcases get_set h1 with⟨rfl,rfl,_⟩ |⟨ne',h1⟩
  ·cases h2
  ·rw[au ne'];exact r.n j x h1 h2
 ·have hl:i<q.length:=(Qx.mp hi).1;rw[Rz]at hj;rw[au (by omega)]
  exact r.z j hj
 ·rcases get_set h1 with⟨rfl,e,_⟩ |⟨ne',h1⟩
  ·rw[aB];exact⟨n',fun b hb=>(hF b hb).elim (o2 b) r.fz,fun k hk b hb=>by rw[au hk];exact out k hk b hb⟩
  ·obtain⟨p1,p2,p3⟩:=r.o j u h1;rw[au ne'];refine⟨p1,p2,fun k hk b hb z=>?_⟩
   by_cases ek:k=i
   ·subst ek;rw[aB]at z;exact out j ne' b z hb
   ·rw[au ek]at z;exact p3 k hk b hb z
 ·obtain⟨Fp,h1,h2⟩:=r.h p hp;refine⟨Fp,st h1 (fun b hb z=>h2 i t hi b z hb),fun j u hj b hb z=>?_⟩
  rcases get_set hj with⟨rfl,e,_⟩ |⟨ne',hj⟩
  ·rw[aB]at hb;rcases hF b hb with h|h
   ·exact h2 j t hi b h z
   ·exact cg.no (h1.r.there b z) h
  ·rw[au ne']at hb;exact h2 j u hj b hb z
 ·exact f.k b o (r.f.k b o h n nr) (fun z=>by rw[o2 b z]at h;cases h) n nr
 ·obtain⟨y,hy,e1⟩:=r.f.r b x h;obtain⟨y',hy',e2⟩:=f.r b y e1 (fun z=>by rw[o2 b z]at h;cases h)
  exact⟨y',RU hy' hy,e2⟩
end
section
variable{X:Cx}{K:W.Frag}{H₀ H':Hp}{hs:List (V×T)}{σ:St}{q:Sq}{F:Nat->List Addr}{a b e o:Expr}{es:List Expr}{te tk tv:TE}{qe qk qv:QE}{tl:TA}{ql:QA}{pos pos' p apos aM dq:Pos}
theorem Gj(he:QPF X K e te qe):QPS X K (.Return (some e) pos) (FH te) (fun D q=>qe q fun r=>D.ru q r):=⟨mS he.h,fun dl H₀ hs H σ q Dq D ⟨F,r⟩ hq E =>
 he.s dl H σ q _ _ r.rd hq fun v t F' H' e1 r1 f1 n1 hz=>E.ru H' σ q F v t F' (r.evo e1) r1 (fun b hb=>r.fz (f1 b hb)) n1 (fun _ b hb z=>(r.cV z).no (f1 b hb)) hz⟩
end
end L2
namespace PySem
open Sem (wp)
end PySem
namespace PySem
open Sem (wp)
end PySem
namespace PySem
open Sem (wp)
namespace F
end F
end PySem
namespace PySem
open Sem (wp)
end PySem
namespace PySem
open Sem (wp)
open PyProof.Rows (StrsAre strOf strsAre_map)
end PySem
namespace PySem
open Sem (wp)
open PyProof.Rows (StrsAre strOf strsAre_map seqObj)
end PySem
namespace L2
open PySem PySem.Spec PyProof.Rows
abbrev Way:=List (Sum Str Nat)
def putN(f:Str):List Str->List Str
 | []=>[f]
 | g::r=>if g=f then g::r else g::putN f r
def dQ{α:Type}(f:Str)(y:α):List Str->List α->List α
 | [],_=>[y]
 | g::r,x::ts=>if g=f then y::ts else x::dQ f y r ts
 | _::_,[]=>[]
def T.sub:Way->T->Option T
 | [],x=>some x
 | .inl f::p,.om _ _ ns ts=>match(ns.zip ts).lookup f with
  | some u=>T.sub p u
  | none=>none
 | .inr m::p,.l ts=>match ts[m]? with
  | some u=>T.sub p u
  | none=>none
 | _::_,_=>none
def T.put(u:T):Way->T->T
 | [],_=>u
 | .inl f::p,.om a C ns ts=>match(ns.zip ts).lookup f with
  | some x=>.om a C ns (dQ f (T.put u p x) ns ts)
  | none=>.om a C ns ts
 | .inr m::p,.l ts=>match ts[m]? with
  | some x=>.l (ts.set m (T.put u p x))
  | none=>.l ts
 | _::_,x=>x
def VAt(H:Hp):Way->V->V->Prop
 | [],v,w=>v=w
 | .inl f::p,v,w=>∃ a C dx fs x,v = .ref a/\H a=some (.ins C dx fs)/\fs.lookup f=some x/\VAt H p x w
 | .inr m::p,v,w=>∃ a xs x,v = .ref a/\H a=some (.lst xs)/\xs[m]? = some x/\VAt H p x w
theorem VAt.uniq{H:Hp}:∀{p:Way}{v w w':V},VAt H p v w->VAt H p v w'->w=w'
 | [],_,_,_,h,h'=>h.symm.trans h'
 | .inl f::p,_,_,_,⟨a,C,dx,fs,x,e,h1,h2,h3⟩,⟨a',C',dx',fs',x',e',h1',h2',h3'⟩=>by
  subst e;cases e';rw[h1]at h1';cases h1';rw[h2]at h2';cases h2';exact VAt.uniq h3 h3'
 | .inr m::p,_,_,_,⟨a,xs,x,e,h1,h2,h3⟩,⟨a',xs',x',e',h1',h2',h3'⟩=>by
  subst e;cases e';rw[h1]at h1';cases h1';rw[h2]at h2';cases h2';exact VAt.uniq h3 h3'
theorem VAt.snoc{H:Hp}{s:Sum Str Nat}:∀{p:Way}{v w x:V},VAt H p v w->VAt H [s] w x->VAt H (p ++ [s]) v x
 | [],_,_,_,h,h'=>by cases h;exact h'
 | .inl f::p,_,_,_,⟨a,C,dx,fs,x,e,h1,h2,h3⟩,h'=>⟨a,C,dx,fs,x,e,h1,h2,h3.snoc h'⟩
 | .inr m::p,_,_,_,⟨a,xs,x,e,h1,h2,h3⟩,h'=>⟨a,xs,x,e,h1,h2,h3.snoc h'⟩
theorem T.sub_snoc{s:Sum Str Nat}:∀{p:Way}{t u x:T},T.sub p t=some u->T.sub [s] u=some x->T.sub (p ++ [s]) t=some x
 | [],_,_,_,h,h'=>by cases h;exact h'
 | .inl f::p,y,_,_,h,h'=>by
  cases y with
  | om a C ns ts =>
   unfold T.sub at h;show T.sub (.inl f ::(p ++ [s])) _=_;unfold T.sub
   split at h
   ·exact T.sub_snoc h h'
   ·cases h
  | _=>cases h
 | .inr m::p,y,_,_,h,h'=>by
  cases y with
  | l ts =>
   unfold T.sub at h;show T.sub (.inr m ::(p ++ [s])) _=_;unfold T.sub
   split at h
   ·exact T.sub_snoc h h'
   ·cases h
  | _=>cases h
theorem yF{f:Str}{v:V}:∀{ns:List Str}{vs:List V},ns.length=vs.length->dm f v (ns.zip vs) =(putN f ns).zip (dQ f v ns vs)
 | [],[],_=>rfl
 | g::r,x::vs,h=>by
  show dm f v ((g,x)::r.zip vs)=_;unfold dm putN dQ
  split
  ·rfl
  ·rw[yF (Nat.succ.inj h)];rfl
theorem yX{α:Type}{f:Str}{y:α}:∀{ns:List Str}{ts:List α},ns.length=ts.length ->(putN f ns).length =(dQ f y ns ts).length
 | [],[],_=>rfl
 | g::r,x::ts,h=>by
  unfold putN dQ
  split
  ·exact h
  ·exact congrArg (· + 1) (yX (Nat.succ.inj h))
theorem vf{f:Str}{v:V}:∀{ns:List Str}{vs:List V},(ns.zip vs).lookup f=some v->putN f ns=ns/\(ns.length=vs.length->dQ f v ns vs=vs)
 | [],_,h=>by cases h
 | g::r,[],h=>by cases h
 | g::r,x::vs,h=>by
  rw[show(g::r).zip (x::vs) =(g,x)::r.zip vs from rfl,QZ]at h;unfold putN dQ;by_cases e:g=f
  ·subst e;rw[beq_self_eq_true]at h;cases h;exact⟨if_pos rfl,fun _=>if_pos rfl⟩
  ·have hb:(f==g)=false:=beq_eq_false_iff_ne.mpr fun z=>e z.symm
   rw[hb]at h;obtain⟨h1,h2⟩:=vf h;rw[if_neg e,if_neg e,h1];exact⟨rfl,fun l=>by rw[h2 (Nat.succ.inj l)]⟩
theorem Dy{α β:Type}{f:Str}:∀{ns:List Str}{vs:List α}{ts:List β},vs.length=ts.length ->((ns.zip ts).lookup f=none ↔ (ns.zip vs).lookup f=none)
 | [],_,_,_=>by simp
 | g::r,[],[],_=>by simp
 | g::r,x::vs,y::ts,h=>by
  rw[show(g::r).zip (x::vs) =(g,x)::r.zip vs from rfl,show(g::r).zip (y::ts) =(g,y)::r.zip ts from rfl,QZ,QZ]
  split
  ·simp
  ·exact Dy (Nat.succ.inj h)
variable{a:Addr}
section
variable{X:Cx}{K:W.Frag}{dl:Dl}{H:Hp}
theorem ai.fld{f:Str}{vs:List V}{ts:List T}{F:List Addr}(h:ai K dl H vs ts F):∀{ns:List Str}{c:T},(ns.zip ts).lookup f=some c->∃ w Fc G,(ns.zip vs).lookup f=some w/\aq K dl H w c Fc/\F.Perm (Fc++G) /\
  ∀ H' w' c' Fc',TF H H' ->(∀ b∈G,∀ o,H b=some o->H' b=some o)->aq K dl H' w' c' Fc'->∃ F',ai K dl H' (dQ f w' ns vs) (dQ f c' ns ts) F'/\F'.Perm (Fc'++G) :=
 h.ind (M:=fun vs ts F=>∀{ns:List Str}{c:T},(ns.zip ts).lookup f=some c->∃ w Fc G,(ns.zip vs).lookup f=some w/\aq K dl H w c Fc/\F.Perm (Fc++G) /\
  ∀ H' w' c' Fc',TF H H' ->(∀ b∈G,∀ o,H b=some o->H' b=some o)->aq K dl H' w' c' Fc'->∃ F',ai K dl H' (dQ f w' ns vs) (dQ f c' ns ts) F'/\F'.Perm (Fc'++G))
  (fun{ns c} e=>by cases ns <;> cases e) fun v x vs ts F G hx hr ih ns c e=>by
  cases ns with
  | nil=>cases e
  | cons g r =>
   rw[show(g::r).zip (x::ts) =(g,x)::r.zip ts from rfl,QZ]at e;by_cases eg:g=f
   ·subst eg;rw[beq_self_eq_true]at e;cases e;refine⟨v,F,G,?_,hx,.refl _,fun H' w' c' Fc' tf k h'=>⟨Fc'++G,?_,.refl _⟩⟩
    ·rw[show(g::r).zip (v::vs) =(g,v)::r.zip vs from rfl,QZ,beq_self_eq_true]
    ·unfold dQ;rw[if_pos rfl,if_pos rfl];exact .cons h' (hr.cL tf (fun _ z=>z) k)
   ·have hb:(f==g)=false:=beq_eq_false_iff_ne.mpr fun z=>eg z.symm
    rw[hb]at e;obtain⟨w,Fc,G1,h1,h2,h3,h4⟩:=ih e;refine⟨w,Fc,F++G1,?_,h2,((h3.append_left F).trans (RN _ _ _)),fun H' w' c' Fc' tf k h'=>?_⟩
    ·rw[show(g::r).zip (v::vs) =(g,v)::r.zip vs from rfl,QZ,hb];exact h1
    ·obtain⟨F',q1,q2⟩:=h4 H' w' c' Fc' tf (fun b hb=>k b (PJ _ hb)) h'
     unfold dQ;rw[if_neg eg,if_neg eg];exact⟨F++F',.cons (hx.cL tf (fun _ z=>z) fun b hb=>k b (QP _ hb)) q1,(q2.append_left F).trans (RN _ _ _)⟩
theorem ai.D6{f:Str}{w:V}{c:T}{Fc:List Addr}(hw:aq K dl H w c Fc):∀{ns:List Str}{vs:List V}{ts:List T}{F:List Addr},ai K dl H vs ts F->ns.length=ts.length ->(ns.zip ts).lookup f=none->ai K dl H (dQ f w ns vs) (dQ f c ns ts) (F++(Fc ++ []))
 | [],_,_,_,.nil,_,_=>.cons (F:=Fc) (G:=[]) hw .nil
 | [],_,_,_,.cons _ _,l,_=>nomatch l
 | g::r,_,_,_,.nil,l,_=>nomatch l
 | g::r,_,_,_,.cons (x:=x) (ts:=ts) hx hr,l,e=>by
  rw[show(g::r).zip (x::ts) =(g,x)::r.zip ts from rfl,QZ]at e;by_cases eg:g=f
  ·subst eg;rw[beq_self_eq_true]at e;cases e
  ·have hb:(f==g)=false:=beq_eq_false_iff_ne.mpr fun z=>eg z.symm
   rw[hb]at e;unfold dQ;rw[if_neg eg,if_neg eg,RT];exact .cons hx (ai.D6 hw hr (Nat.succ.inj l) e)
theorem ai.itm{vs:List V}{ts:List T}{F:List Addr}(h:ai K dl H vs ts F):∀{i:Nat}{c:T},ts[i]? = some c->∃ w Fc G,vs[i]? = some w/\aq K dl H w c Fc/\F.Perm (Fc++G) /\
  ∀ H' w' c' Fc',TF H H' ->(∀ b∈G,∀ o,H b=some o->H' b=some o)->aq K dl H' w' c' Fc'->∃ F',ai K dl H' (vs.set i w') (ts.set i c') F'/\F'.Perm (Fc'++G) :=
 h.ind (M:=fun vs ts F=>∀{i:Nat}{c:T},ts[i]? = some c->∃ w Fc G,vs[i]? = some w/\aq K dl H w c Fc/\F.Perm (Fc++G) /\
  ∀ H' w' c' Fc',TF H H' ->(∀ b∈G,∀ o,H b=some o->H' b=some o)->aq K dl H' w' c' Fc'->∃ F',ai K dl H' (vs.set i w') (ts.set i c') F'/\F'.Perm (Fc'++G))
  (fun{i c} e=>nomatch e) fun v x vs ts F G hx hr ih i c e=>by
  cases i with
  | zero =>
   cases e;exact⟨v,F,G,rfl,hx,.refl _,fun H' w' c' Fc' tf k h'=>⟨Fc'++G,.cons h' (hr.cL tf (fun _ z=>z) k),.refl _⟩⟩
  | succ i =>
   obtain⟨w,Fc,G1,h1,h2,h3,h4⟩:=ih (i:=i) (by simpa using e)
   refine⟨w,Fc,F++G1,by simpa using h1,h2,((h3.append_left F).trans (RN _ _ _)),fun H' w' c' Fc' tf k h'=>?_⟩
   obtain⟨F',q1,q2⟩:=h4 H' w' c' Fc' tf (fun b hb=>k b (PJ _ hb)) h'
   exact⟨F++F',.cons (hx.cL tf (fun _ z=>z) fun b hb=>k b (QP _ hb)) q1,(q2.append_left F).trans (RN _ _ _)⟩
theorem pm2{b:Addr}{A B C:List Addr}:(a::b ::(A++B++C)).Perm (A++(a::b ::(B++C))):=by
 rw[RT];exact(TH.trans (List.perm_middle.cons _)).symm
theorem pm1{A B C:List Addr}:(a ::(A++B++C)).Perm (A++(a ::(B++C))):=by
 rw[RT];exact TH.symm
theorem Aa{α:Type}{xs:List α}{i:Nat}{x:α}(h:xs[i]? = some x):xs.set i x=xs:=by
 obtain⟨hl,rfl⟩:=Qx.mp h;exact List.set_getElem_self hl
theorem aq.zip:∀(p:Way){v:V}{t u:T}{F:List Addr},aq K dl H v t F->T.sub p t=some u->∃ w Fu G,(∀ H1:Hp,(∀ b∈G,∀ o,H b=some o->H1 b=some o)->VAt H1 p v w)/\aq K dl H w u Fu/\F.Perm (Fu++G) /\
  ∀ H' u' Fu',TF H H' ->(∀ b∈G,∀ o,H b=some o->H' b=some o)->aq K dl H' w u' Fu'->∃ F',aq K dl H' v (T.put u' p t) F'/\F'.Perm (Fu'++G)
 | [],v,y,u,F,h,ex=>by
  cases ex;exact⟨v,F,[],fun _ _=>rfl,h,by rw[Q6],fun H' u' Fu' _ _ h'=>⟨Fu',h',by rw[Q6]⟩⟩
 | .inl f::p,v,y,u,F,h,ex=>by
  cases y with
  | om a C ns ts =>
   obtain⟨dx,vs,G0,rfl,rfl,h1,h2,h3,h4⟩:=h.omm;unfold T.sub at ex
   split at ex
   ·next c ec =>
    obtain⟨w1,F1,G1,a1,a2,a3,a4⟩:=h4.fld ec;obtain⟨w,Fu,G2,b1,b2,b3,b4⟩:=aq.zip p a2 ex;refine⟨w,Fu,a::dx ::(G2++G1),fun H1 k1=>⟨a,C,dx,_,w1,rfl,k1 a qr _ h1,a1,b1 H1 fun b hb=>k1 b (j5 _ (j5 _ (QP _ hb)))⟩,b2,((a3.trans (b3.append_right G1)).cons dx |>.cons a).trans pm2,fun H' u' Fu' tf k h'=>?_⟩
    obtain⟨F',q1,q2⟩:=b4 H' u' Fu' tf (fun b hb=>k b (j5 _ (j5 _ (QP _ hb)))) h'
    obtain⟨F2,q3,q4⟩:=a4 H' w1 _ F' tf (fun b hb=>k b (j5 _ (j5 _ (PJ _ hb)))) q1
    obtain⟨s1,s2⟩:=vf a1;have hl:=h4.len;rw[s2 (by omega)]at q3
    refine⟨a::dx::F2,?_,((q4.trans (q2.append_right G1)).cons dx |>.cons a).trans pm2⟩
    unfold T.put;rw[ec];exact .om (k a qr _ h1) (k dx (j5 _ qr) _ h2) (h3.trans (h4.len.symm.trans q3.len)) q3
   ·cases ex
  | _=>cases ex
 | .inr m::p,v,y,u,F,h,ex=>by
  cases y with
  | l ts =>
   obtain⟨a,vs,G0,rfl,rfl,h1,h4⟩:=h.lst;unfold T.sub at ex
   split at ex
   ·next c ec =>
    obtain⟨w1,F1,G1,a1,a2,a3,a4⟩:=h4.itm ec;obtain⟨w,Fu,G2,b1,b2,b3,b4⟩:=aq.zip p a2 ex;refine⟨w,Fu,a ::(G2++G1),fun H1 k1=>⟨a,_,w1,rfl,k1 a qr _ h1,a1,b1 H1 fun b hb=>k1 b (j5 _ (QP _ hb))⟩,b2,((a3.trans (b3.append_right G1)).cons a).trans pm1,fun H' u' Fu' tf k h'=>?_⟩
    obtain⟨F',q1,q2⟩:=b4 H' u' Fu' tf (fun b hb=>k b (j5 _ (QP _ hb))) h'
    obtain⟨F2,q3,q4⟩:=a4 H' w1 _ F' tf (fun b hb=>k b (j5 _ (PJ _ hb))) q1
    rw[Aa a1]at q3;refine⟨a::F2,?_,((q4.trans (q2.append_right G1)).cons a).trans pm1⟩;unfold T.put;rw[ec];exact .l (k a qr _ h1) q3
   ·cases ex
  | _=>cases ex
end
variable{dl:Dl}{H:Hp}{H':Hp}
theorem fC.tf{F:List Addr}(f:fC dl H F H')(th:∀ b∈F,cg H b)(D:Dls dl H):TF H H':=by
 have ne:∀{b:Addr}{o:HO},H b=some o->o.mt=false->b ∉ F:=fun{b o} h n1 z=>by
  obtain⟨_,e,m⟩:=th b z;rw[h]at e;cases e;rw[n1]at m;cases m
 refine⟨fun b vs h=>f.k b _ h (ne h rfl) (D.nd h (fun _ z=>nomatch z) fun _ z=>nomatch z) (fun _ z=>nomatch z),fun b o u h=>f.k b _ h (ne h rfl) (D.nd h (fun _ z=>nomatch z) fun _ z=>nomatch z) (fun _ z=>nomatch z),
  fun b φ h=>f.k b _ h (ne h rfl) (D.nd h (fun _ z=>nomatch z) fun _ z=>nomatch z) (fun _ z=>nomatch z),fun b xs h=>?_,fun b x h=>f.r b x h (ne h rfl)⟩
 by_cases hb:b∈F
 ·exact f.l b xs hb h
 ·by_cases hn:Nd dl b
  ·exact⟨xs,f.k b _ h hb hn (fun _ z=>nomatch z)⟩
  ·unfold Nd at hn;obtain⟨p,hp,z⟩:∃ p∈dl,¬(b≠p.1/\b≠p.2):=Classical.byContradiction fun c=>hn fun p hp=>Classical.byContradiction fun z=>c ⟨p,hp,z⟩
   obtain⟨s,n,ls,Q⟩:=D p hp;obtain⟨s',n',ls',Q'⟩:=f.d p hp;have h1:b≠p.1:=jL h Q.hd (fun z=>nomatch z)
   have h2:b=p.2:=Classical.byContradiction fun z'=>z ⟨h1,z'⟩
   exact⟨_,by rw[h2];exact Q'.hl⟩
variable{j:Nat}
section
variable{X:Cx}{K:W.Frag}{H₀:Hp}{hs:List (V×T)}{σ:St}{q:Sq}{F:Nat->List Addr}
theorem Rel.mod{i:Nat}{p:Way}{t u:T}(r:Rel K dl H₀ hs H σ q F)(hi:q[i]? = some (.o t))(hu:T.sub p t=some u):∃ v w Fu,σ[i]? = some (some v)/\(∀ H1,Evo dl H H1->VAt H1 p v w)/\Rp K dl H w u Fu/\Fu.Nodup /\
  ∀ H' u' Fu',fC dl H Fu H'->Rp K dl H' w u' Fu'->Fu'.Nodup ->(∀ b∈Fu',b∈Fu\/H b=none)->∃ F',Rel K dl H₀ hs H' σ (q.set i (.o (T.put u' p t))) F':=by
 obtain⟨v,hv,rp⟩:=r.g i _ t hi rfl;obtain⟨w,Fu,G,h1,h2,h3,h4⟩:=rp.r.zip p hu;obtain⟨o1,o2,o3⟩:=r.o i t hi;have nd:=(h3.nodup_iff.mp o1);obtain⟨n1,n2,n3⟩:=Rm.mp nd;have inF:∀ b,b∈Fu\/b∈G->b∈F i:=fun b hb=>h3.mem_iff.mpr (Q7.mpr hb)
 refine⟨v,w,Fu,hv,fun H1 e=>h1 H1 fun b hb o eo=>e.k b o eo (rp.n b (inF b (.inr hb))) (.of (r.cV (inF b (.inr hb))) eo),⟨h2,fun b hb=>rp.n b (inF b (.inl hb))⟩,n1,fun H' u' Fu' f r' n' hF=>?_⟩
 have kG:∀ b∈G,∀ o,H b=some o->H' b=some o:=fun b hb o e=>f.k b o e (fun z=>n3 b z b hb rfl) (rp.n b (inF b (.inr hb))) (.of (r.cV (inF b (.inr hb))) e)
 obtain⟨F',q1,q2⟩:=h4 H' u' Fu' (f.tf (fun b hb=>h2.there b hb) r.d) kG r'.r
 have f2:fC dl H (F i) H':=⟨fun b o e n=>f.k b o e fun z=>n (inF b (.inl z)),fun b x e n=>f.r b x e fun z=>n (inF b (.inl z)),fun b xs hb e=>(by
  by_cases z:b∈Fu
  ·exact f.l b xs z e
  ·exact⟨xs,f.k b _ e z (rp.n b hb) fun _ z=>nomatch z⟩),f.d⟩
 refine⟨_,r.Nk hi hv f2 ⟨q1,fun b hb=>?_⟩ (q2.nodup_iff.mpr (Rm.mpr ⟨n',n2,fun x hx y hy e=>?_⟩)) fun b hb=>?_⟩
 ·rcases Q7.mp (q2.mem_iff.mp hb)with z|z
  ·exact r'.n b z
  ·exact rp.n b (inF b (.inr z))
 ·subst e;rcases hF x hx with z|z
  ·exact n3 x z x hy rfl
  ·exact(r.cV (inF x (.inr hy))).no z
 ·rcases Q7.mp (q2.mem_iff.mp hb)with z|z
  ·rcases hF b z with z|z
   ·exact .inl (inF b (.inl z))
   ·exact .inr z
  ·exact .inl (inF b (.inr z))
theorem RdR.part{p:Way}{t u:T}{v w:V}(rd:RdR K dl H σ q)(hj:q[j]? = some (.o t))(hv:σ[j]? = some (some v))(hu:T.sub p t=some u)(hw:VAt H p v w):∃ Fu,Rp K dl H w u Fu:=by
 obtain⟨v',F,h1,rp⟩:=rd.g j _ t hj rfl;rw[hv]at h1;cases h1;obtain⟨w',Fu,G,h1,h2,h3,_⟩:=rp.r.zip p hu;cases hw.uniq (h1 H fun _ _ _ z=>z)
 exact⟨Fu,h2,fun b hb=>rp.n b (h3.mem_iff.mpr (QP _ hb))⟩
end
abbrev QL:=Sq ->(Way->T->Prop)->Prop
def N5(K:W.Frag)(j:Nat)(te:TE)(ql:QL):Prop:=∀(dl:Dl)(H:Hp)(σ:St)(q:Sq)(P:Way->T->Prop)(R:V->Hp->Prop),RdR K dl H σ q->ql q P ->
 (∀ t v p u w,q[j]? = some (.o t)->σ[j]? = some (some v)->T.sub p t=some u->VAt H p v w->P p u->R w H)->te σ H R
structure QPL(X:Cx)(K:W.Frag)(j:Nat)(e:Expr)(te:TE)(ql:QL):Prop where
 h:PE X e te
 s:N5 K j te ql
variable{x:Str}
section
variable{X:Cx}{K:W.Frag}{a b e o:Expr}{es:List Expr}{te tb tv:TE}{qe qb qv:QE}{tl:TA}{qa:QA}{ql:QL}{pos pos' apos aM dq:Pos}{f:Str}{C:Addr}
def IV(j:Nat):QL:=fun q P=>match q[j]? with
 | some (.o t)=>P [] t
 | _=>False
theorem az{pos:Pos}(hN:X.N[j]? = some x:=by rfl)(hv:Vis X.env.scope x:=by first|exact Or.inl rfl|exact Or.inr (Or.inl rfl)|exact Or.inr (Or.inr rfl))(hd:(x ==("__debug__":Str))=false:=by decide)
  (hcd:(x ==("__classdict__":Str))=false:=by decide):QPL X K j (.Name x pos) (di j) (IV j):=⟨sS hN hv hd hcd,fun dl H σ q P R rd hq k=>by
 unfold IV at hq
 split at hq
 ·rename_i t e;obtain⟨v,F,h1,h2⟩:=rd.g j _ t e rfl;exact⟨v,h1,k t v [] t v e h1 rfl rfl hq⟩
 ·exact hq.elim⟩
def Mv(j i:Nat):QL:=fun q P=>∃ x t p C ns ts,(q[i]? = some (.r (.rf x))\/q[i]? = some (.o (.rf x)))/\q[j]? = some (.o t)/\T.sub p t=some (.om x C ns ts)/\P p (.om x C ns ts)
theorem b6{i:Nat}{pos:Pos}(hN:X.N[i]? = some x:=by rfl)(hv:Vis X.env.scope x:=by first|exact Or.inl rfl|exact Or.inr (Or.inl rfl)|exact Or.inr (Or.inr rfl))(hd:(x ==("__debug__":Str))=false:=by decide)
  (hcd:(x ==("__classdict__":Str))=false:=by decide):QPL X K j (.Name x pos) (di i) (Mv j i):=⟨sS hN hv hd hcd,fun dl H σ q P R rd hq k=>by
 obtain⟨x,t,p,C,ns,ts,hi,hj,hs,hp⟩:=hq;obtain⟨v,F,h1,rp⟩:=rd.g j _ t hj rfl;obtain⟨w,Fu,G,h2,h3,_,_⟩:=rp.r.zip p hs;obtain⟨dx,vs,G',rfl,_⟩:=h3.omm;have hi':σ[i]? = some (some (.ref x)):=by
  rcases hi with hi|hi
  ·obtain⟨vi,Fi,e1,e2⟩:=rd.g i _ _ hi rfl;obtain⟨rfl,_⟩:=e2.r.rff;exact e1
  ·obtain⟨vi,Fi,e1,e2⟩:=rd.g i _ _ hi rfl;obtain⟨rfl,_⟩:=e2.r.rff;exact e1
 exact⟨_,hi',k t v p _ _ hj h1 hs (h2 H fun _ _ _ z=>z) hp⟩⟩
def Mw(C:Addr)(f:Str)(ql:QL):QL:=fun q P=>ql q fun p u=>match u with
 | .om _ C' ns ts=>C'=C/\∃ x,(ns.zip ts).lookup f=some x/\P (p ++ [.inl f]) x
 | _=>False
theorem a6(hc:Cls K C)(hn:bc K C f)(he:QPL X K j e te ql)(hb:attributeBase e f X.env (eval e X.env)=eval e X.env:=by rfl)(hK:X.K=K:=by rfl):QPL X K j (.Attribute e f pos) (JQ K te f) (Mw C f ql) :=
 ⟨by subst hK;exact C9 he.h hb,fun dl H σ q P R rd hq k=>he.s dl H σ q _ _ rd hq fun t v p u w hj hv hs hw hz=>by
  split at hz
  ·rename_i x C' ns ts;obtain⟨rfl,y,hy,hz⟩:=hz;obtain⟨Fu,rp⟩:=rd.part hj hv hs hw;obtain⟨dx,vs,G,rfl,rfl,h1,h2,h3,h4⟩:=rp.r.omm;obtain⟨w1,_,_,l1,_⟩:=h4.fld hy;exact⟨x,_,dx,_,w1,rfl,h1,hc,hn,l1,k t v _ y w1 hj hv (T.sub_snoc hs (by unfold T.sub;rw[hy];rfl)) (hw.snoc (show VAt H [.inl f] (.ref x) w1 from⟨x,_,dx,_,w1,rfl,h1,l1,rfl⟩)) hz⟩
  ·exact hz.elim⟩
def Pg(n:Int)(ql:QL):QL:=fun q P=>ql q fun p u=>match u with
 | .l xs=>∃ m x,ixN xs.length n=some m/\xs[m]? = some x/\P (p ++ [.inr m]) x
 | _=>False
theorem IU{n:Int}(he:QPL X K j e te ql)(hb:PE X b tb)(hn:∀ σ H R,R (.int n) H->tb σ H R)(hs:mx b:=by intro _ _;rfl)(hK:X.K=K:=by rfl):QPL X K j (.Subscript e b pos) (tOp (rIx K) te tb) (Pg n ql) :=
 ⟨by subst hK;exact za xY he.h hb hs,fun dl H σ q P R rd hq k=>he.s dl H σ q _ _ rd hq fun t v p u w hj hv hs hw hz=>by
  split at hz
  ·obtain⟨m,x,hm,hx,hz⟩:=hz;obtain⟨Fu,rp⟩:=rd.part hj hv hs hw;obtain⟨a,vs,G,rfl,rfl,h1,h2⟩:=rp.r.lst;obtain⟨w1,_,_,l1,_⟩:=h2.itm hx;refine hn _ _ _ (.inl ⟨a,vs,n,w1,rfl,rfl,SqL.of h1,nj (by rw[h2.len];exact hm) l1,k t v _ x w1 hj hv (T.sub_snoc hs (by unfold T.sub;rw[hx];rfl)) (hw.snoc (show VAt H [.inr m] (.ref a) w1 from⟨a,_,w1,rfl,h1,l1,rfl⟩)) hz⟩)
  ·exact hz.elim⟩
def Pl(ql:QL):QE:=fun q Q=>ql q fun _ u=>Q u
theorem aS(he:QPL X K j e te ql):QPE X K e te (Pl ql):=⟨he.h,fun dl H σ q Q R rd hq k=>he.s dl H σ q _ _ rd hq fun t v p u w hj hv hs hw hz=>by
 obtain⟨Fu,rp⟩:=rd.part hj hv hs hw;exact k w u Fu H (.refl rd.d) rp hz⟩
def Pk(ql:QL):QE:=fun q Q=>ql q fun _ u=>match u with
 | .om x _ _ _=>Q (.rf x)
 | _=>False
theorem J9(he:QPL X K j e te ql):QPF X K e te (Pk ql):=⟨he.h,fun dl H σ q Q R rd hq k=>he.s dl H σ q _ _ rd hq fun t v p u w hj hv hs hw hz=>by
 split at hz
 ·obtain⟨Fu,rp⟩:=rd.part hj hv hs hw;obtain⟨dx,vs,G,rfl,_⟩:=rp.r.omm;exact k _ _ [] H (.refl rd.d) ⟨.rf _,fun _ z=>nomatch z⟩ (fun _ z=>nomatch z) QG hz
 ·exact hz.elim⟩
end
theorem wy{x b:Addr}{o:HO}{S:List Addr}(hx:x ∉ S)(hb:b∈S):upd H x o b=H b:=ah fun z=>hx (by rw[<- z];exact hb)
theorem BZ{x b:Addr}{o:HO}{S:List Addr}(hx:x∈S)(hb:b ∉ S):upd H x o b=H b:=ah fun z=>hb (by rw[z];exact hx)
variable{H1:Hp}
theorem fC.uP{Fu:List Addr}{x:Addr}{o:HO}(e:Evo dl H H1)(hx:x∈Fu)(hn:∀ b∈Fu,Nd dl b)(hl:∀ xs,H x=some (.lst xs)->∃ ys,o = .lst ys):fC dl H Fu (upd H1 x o) where
 k:=fun b ob h nb n nr=>by rw[BZ hx nb];exact e.k b ob h n nr
 r:=fun b y h nb=>by rw[BZ hx nb];exact e.r b y h
 l:=fun b xs hb h=>by
  by_cases z:b=x
  ·subst z;obtain⟨ys,rfl⟩:=hl xs h;exact⟨ys,ar⟩
  ·exact⟨xs,by rw[ah z];exact e.k b _ h (hn b hb) fun _ z=>nomatch z⟩
 d:=fun p hp=>(e.d p hp).other (hn x hx p hp).1 (hn x hx p hp).2
section
variable{X:Cx}{K:W.Frag}
theorem Rp.dm{f:Str}{x C dx:Addr}{ns:List Str}{vs:List V}{ts:List T}{G Fy:List Addr}{y:V}{ty:T}{w:V}(hu:Rp K dl H w (.om x C ns ts) (x::dx::G))(e:Evo dl H H1)(D:Dls dl H)(hvs:H1 x=some (.ins C dx (ns.zip vs)))(hy:Rp K dl H1 y ty Fy)(nu:(x::dx::G).Nodup)(ny:Fy.Nodup)(fy:∀ b∈Fy,H b=none)(hv:vs.length=ns.length) :
  ∃ Fu',Rp K dl (upd H1 x (.ins C dx (L2.dm f y (ns.zip vs)))) w (.om x C (putN f ns) (dQ f ty ns ts)) Fu'/\Fu'.Nodup/\∀ b∈Fu',b∈x::dx::G\/H b=none:=by
 have hu1:=hu.evo D e;obtain⟨dx',vs',G',rfl,eG,h1,h2,h3,h4⟩:=hu1.r.omm;injection eG with _ eG
 injection eG with e1 eG
 subst e1 eG;rw[hvs]at h1;injection h1 with h1
 injection h1 with _ _ h1
 have hl4:=h4.len;obtain rfl:=zip_inj hv (hl4.trans h3.symm) h1;have nxd:x≠dx:=fun z=>(Q5.mp nu).1 (by rw[z];exact qr)
 have nxG:x ∉ G:=fun z=>(Q5.mp nu).1 (j5 _ z)
 have L:=fC.uP (o:=.ins C dx (L2.dm f y (ns.zip vs))) e (qr (a:=x) (l:=dx::G)) hu.n (fun xs h=>by
  rw[e.k x _ h (hu.n x qr) (fun _ z=>nomatch z)]at hvs;cases hvs)
 have tf1:TF H1 (upd H1 x (.ins C dx (L2.dm f y (ns.zip vs)))):=fC.tf (F:=[x]) (fC.uP (.refl e.d) (qr (a:=x) (l:=[])) (fun b hb=>by rw[Es.mp hb];exact hu.n x qr) (fun xs h=>by rw[h]at hvs;cases hvs)) (fun b hb=>by rw[Es.mp hb];exact⟨_,hvs,rfl⟩) e.d
 have th:∀ b,b∈x::dx::G->cg H b:=fun b hb=>hu.r.there b hb
 have yx:∀ b∈Fy,b ∉ x::dx::G:=fun b hb z=>(th b z).no (fy b hb)
 have ky:∀ b∈Fy,∀ o,H1 b=some o->upd H1 x (.ins C dx (L2.dm f y (ns.zip vs))) b=some o:=fun b hb o h=>by
  rw[ah fun z=>yx b hb (by rw[z];exact qr)];exact h
 have ry:=hy.r.cL tf1 (fun _ z=>z) ky
 have hd2:upd H1 x (.ins C dx (L2.dm f y (ns.zip vs))) dx=some (.own x):=by rw[ah nxd.symm];exact h2
 have hx2:upd H1 x (.ins C dx (L2.dm f y (ns.zip vs))) x=some (.ins C dx ((putN f ns).zip (dQ f y ns vs))):=by rw[ar,yF (by omega)]
 obtain⟨F',q1,q2,q3⟩:∃ F',ai K dl (upd H1 x (.ins C dx (L2.dm f y (ns.zip vs)))) (dQ f y ns vs) (dQ f ty ns ts) F'/\F'.Nodup/\∀ b∈F',b∈G\/b∈Fy:=by
  have nG:G.Nodup:=(Q5.mp (Q5.mp nu).2).2;cases hl:(ns.zip ts).lookup f with
  | none =>
   refine⟨G++(Fy ++ []),ai.D6 ry (h4.cL tf1 (fun _ z=>z) fun b hb o h=>by rw[wy nxG hb];exact h) h3 hl,?_,fun b hb=>?_⟩
   ·rw[Q6];exact Rm.mpr ⟨nG,ny,fun a ha b hb z=>yx b hb (by rw[<- z];exact j5 _ (j5 _ ha))⟩
   ·rw[Q6]at hb;exact Q7.mp hb
  | some c =>
   obtain⟨w1,Fc,G1,_,_,a3,a4⟩:=h4.fld hl;obtain⟨F',q1,q2⟩:=a4 _ y ty Fy tf1 (fun b hb o h=>by rw[wy nxG (a3.mem_iff.mpr (PJ _ hb))];exact h) ry
   have n1:=(Rm.mp (a3.nodup_iff.mp nG)).2.1;refine⟨F',q1,q2.nodup_iff.mpr (Rm.mpr ⟨ny,n1,fun a ha b hb z=>yx a ha (by rw[z];exact j5 _ (j5 _ (a3.mem_iff.mpr (PJ _ hb))))⟩),fun b hb=>?_⟩
   rcases Q7.mp (q2.mem_iff.mp hb)with z|z
   ·exact .inr z
   ·exact .inl (a3.mem_iff.mpr (PJ _ z))
 have out:∀ b∈F',b≠x/\b≠dx:=fun b hb=>by
  rcases q3 b hb with z|z
  ·exact⟨fun e=>nxG (e▸z),fun e=>(Q5.mp (Q5.mp nu).2).1 (e▸z)⟩
  ·exact⟨fun e=>yx b z (by rw[e];exact qr),fun e=>yx b z (by rw[e];exact j5 _ qr)⟩
 refine⟨x::dx::F',⟨.om hx2 hd2 (yX (by omega)) q1,fun b hb=>?_⟩,Q5.mpr ⟨fun z=>?_,Q5.mpr ⟨fun z=>(out dx z).2 rfl,q2⟩⟩,fun b hb=>?_⟩
 ·rcases QH.mp hb with z|hb
  ·rw[z];exact hu.n x qr
  ·rcases QH.mp hb with z|hb
   ·rw[z];exact hu.n dx (j5 _ qr)
   ·rcases q3 b hb with z|z
    ·exact hu.n b (j5 _ (j5 _ z))
    ·exact hy.n b z
 ·rcases QH.mp z with z|z
  ·exact nxd z
  ·exact(out x z).1 rfl
 ·rcases QH.mp hb with z|hb
  ·rw[z];exact .inl qr
  ·rcases QH.mp hb with z|hb
   ·rw[z];exact .inl (j5 _ qr)
   ·rcases q3 b hb with z|z
    ·exact .inl (j5 _ (j5 _ z))
    ·exact .inr (fy b z)
end
section
variable{X:Cx}{K:W.Frag}{a b e o:Expr}{es:List Expr}{te tb tv:TE}{qe qb qv:QE}{tl:TA}{qa:QA}{ql:QL}{pos pos' apos aM dq B1:Pos}{f:Str}{C:Addr}
def Mz(j:Nat)(C:Addr)(f:Str)(ql:QL)(qv:QE):QS:=fun D q=>qv q fun y=>ql q fun p u=>match u with
 | .om x C' ns ts=>C'=C/\ns.length<1000/\∃ t,q[j]? = some (.o t)/\D.nx (q.set j (.o (T.put (.om x C (putN f ns) (dQ f y ns ts)) p t)))
 | _=>False
theorem cQ(hc:Cls K C)(hn:bc K C f)(he:QPL X K j o te ql)(hv:QPF X K b tv qv)(hs:swapsWith b (some (.Attribute o f pos')) pos.line X.env=pure false:=by rfl)(hK:X.K=K:=by rfl) :
  QPS X K (.Assign [.Attribute o f pos'] b pos) (Mf K te tv f) (Mz j C f ql qv):=⟨by subst hK;exact sQ he.h hv.h hs,fun dl H₀ hs H σ q Dq D ⟨F,r⟩ hq E=>by
 refine hv.s dl H σ q _ _ r.rd hq fun y ty Fy H1 e1 r1 f1 n1 hz=>?_
 refine he.s dl H1 σ q _ _ (r.rd.evo e1) hz fun t v p u w hj hv' hs hw hz=>?_
 split at hz
 ·rename_i x C' ns ts;obtain⟨rfl,hl,t',hj',hz⟩:=hz;rw[hj]at hj';cases hj';obtain⟨v2,w2,Fu,hv2,hw2,ru,nu,md⟩:=r.mod hj hs;rw[hv']at hv2;cases hv2;cases hw.uniq (hw2 H1 e1);obtain⟨dx,vs,G,rfl,rfl,h1,h2,h3,h4⟩:=ru.r.omm;have hl4:=h4.len;have hx1:=e1.k x _ h1 (ru.n x qr) (fun _ z=>nomatch z)
  obtain⟨Fu',q1,q2,q3⟩:=Rp.dm (f:=f) ru e1 r.d hx1 r1 nu n1 f1 (by omega)
  obtain⟨F',r'⟩:=md _ _ Fu' (fC.uP e1 qr ru.n fun xs h=>by rw[h]at h1;cases h1) q1 q2 q3
  exact⟨x,_,dx,_,rfl,hx1,hc,hn,by rw[Sm];omega,E.nx _ σ _ ⟨_,r'⟩ hz⟩
 ·exact hz.elim⟩
end
variable{l:Addr}{G:List Addr}{d:Addr}
section
variable{X:Cx}{K:W.Frag}
theorem Rp.putL{w:V}{xs ys:List T}{ws:List V}{G':List Addr}(hu:Rp K dl H w (.l xs) (l::G))(D:Dls dl H)(nu:(l::G).Nodup)(e:Evo dl H H1)(rs:ai K dl H1 ws ys G')(nG:∀ b∈G',Nd dl b)(hn:G'.Nodup)(hG:∀ b∈G',b∈G\/H b=none) :
  Rp K dl (upd H1 l (.lst ws)) w (.l ys) (l::G')/\(l::G').Nodup/\(∀ b∈l::G',b∈l::G\/H b=none)/\fC dl H (l::G) (upd H1 l (.lst ws)):=by
 obtain⟨l',vs,G0,rfl,eG,h1,h2⟩:=hu.r.lst;injection eG with e1 eG
 subst e1 eG;have lG:l ∉ G':=fun z=>by
  rcases hG l z with z|z
  ·exact(Q5.mp nu).1 z
  ·rw[h1]at z;cases z
 have h1':=e.k l _ h1 (hu.n l qr) (fun _ z=>nomatch z)
 have tf1:TF H1 (upd H1 l (.lst ws)):=fC.tf (F:=[l]) (fC.uP (.refl e.d) (qr (a:=l) (l:=[])) (fun b hb=>by rw[Es.mp hb];exact hu.n l qr) (fun xs _=>⟨ws,rfl⟩)) (fun b hb=>by rw[Es.mp hb];exact⟨_,h1',rfl⟩) e.d
 refine⟨⟨.l ar (rs.cL tf1 (fun _ z=>z) fun b hb o h=>by rw[wy lG hb];exact h),fun b hb=>?_⟩,Q5.mpr ⟨lG,hn⟩,fun b hb=>?_,fC.uP e qr hu.n fun xs _=>⟨ws,rfl⟩⟩
 ·rcases QH.mp hb with z|z
  ·rw[z];exact hu.n l qr
  ·exact nG b z
 ·rcases QH.mp hb with z|z
  ·rw[z];exact .inl qr
  ·exact(hG b z).imp (j5 _) id
theorem Rp.putD{w:V}{xs ys:List (Key×T)}{ws:List (Key×V)}(hu:Rp K dl H w (.d xs) (d::G))(D:Dls dl H)(e:Evo dl H H1)(rs:aF K dl H1 ws ys []) :
  Rp K dl (upd H1 d (.dK ws)) w (.d ys) [d]/\fC dl H (d::G) (upd H1 d (.dK ws)):=by
 obtain⟨d',vs,G0,rfl,eG,h1,h2⟩:=hu.r.dic;injection eG with e1 eG
 subst e1 eG;have h1':=e.k d _ h1 (hu.n d qr) (fun _ z=>nomatch z)
 have tf1:TF H1 (upd H1 d (.dK ws)):=fC.tf (F:=[d]) (fC.uP (.refl e.d) (qr (a:=d) (l:=[])) (fun b hb=>by rw[Es.mp hb];exact hu.n d qr) (fun xs h=>by rw[h]at h1';cases h1')) (fun b hb=>by rw[Es.mp hb];exact⟨_,h1',rfl⟩) e.d
 exact⟨⟨.d ar (rs.cL tf1 (fun _ z=>z) fun _ z=>nomatch z),fun b hb=>by rw[Es.mp hb];exact hu.n d qr⟩,fC.uP e qr hu.n fun xs h=>by rw[h]at h1;cases h1⟩
end
section
variable{X:Cx}{K:W.Frag}{a b e o:Expr}{es:List Expr}{te tb tk tv:TE}{qe qb qk qv:QE}{tl:TA}{qa:QA}{ql:QL}{pos pos' apos aM dq B1:Pos}{f:Str}{C:Addr}
def MN(j:Nat)(C:Addr)(f:Str)(ql:QL)(qv:QE):QS:=fun D q=>ql q fun p u=>match u with
 | .om x C' ns ts=>C'=C/\ns.length<1000/\∃ n,(ns.zip ts).lookup f=some (.i n)/\qv q fun y=>match y with
  | .i m=>∃ t,q[j]? = some (.o t)/\D.nx (q.set j (.o (T.put (.om x C (putN f ns) (dQ f (.i (n+m)) ns ts)) p t)))
  | _=>False
 | _=>False
theorem sI(hc:Cls K C)(hn:bc K C f)(hop:LC X .Add J5)(he:QPL X K j o te ql)(hv:QPE X K b tv qv)(hK:X.K=K:=by rfl) :
  QPS X K (.AugAssign (.Attribute o f B1) .Add b pos) (yQ K te tv J5 f) (MN j C f ql qv):=⟨by subst hK;exact Aj he.h hv.h hop,fun dl H₀ hs H σ q Dq D ⟨F,r⟩ hq E=>by
 refine he.s dl H σ q _ _ r.rd hq fun t v p u w hj hv' hs hw hz=>?_
 split at hz
 ·rename_i x C' ns ts;obtain⟨rfl,hl,n,hlk,hz⟩:=hz;obtain⟨v2,w2,Fu,hv2,hw2,ru,nu,md⟩:=r.mod hj hs;rw[hv']at hv2;cases hv2;cases hw.uniq (hw2 H (.refl r.d));obtain⟨dx,vs,G,rfl,rfl,h1,h2,h3,h4⟩:=ru.r.omm;obtain⟨w1,_,_,l1,l2,_⟩:=h4.fld hlk;obtain⟨rfl,_⟩:=l2.int;refine⟨x,_,dx,_,_,rfl,h1,hc,hn,l1,hv.s dl H σ q _ _ r.rd hz fun y ty Fy H1 e1 r1 hz=>?_⟩
  split at hz
  ·rename_i m;obtain⟨t',hj',hz⟩:=hz;rw[hj]at hj';cases hj';obtain⟨rfl,rfl⟩:=r1.r.int;have hl4:=h4.len;have hx1:=e1.k x _ h1 (ru.n x qr) (fun _ z=>nomatch z)
   obtain⟨Fu',q1,q2,q3⟩:=Rp.dm (f:=f) (y:=.int (n+m)) (ty:=.i (n+m)) (Fy:=[]) ru e1 r.d hx1 ⟨.i _,fun _ z=>nomatch z⟩ nu QG (fun _ z=>nomatch z) (by omega)
   obtain⟨F',r'⟩:=md _ _ Fu' (fC.uP e1 qr ru.n fun xs h=>by rw[h]at h1;cases h1) q1 q2 q3
   exact⟨n,m,rfl,rfl,dx,_,hx1,by rw[Sm];omega,E.nx _ σ _ ⟨_,r'⟩ hz⟩
  ·exact hz.elim
 ·exact hz.elim⟩
def MO(j:Nat)(ql:QL)(qv:QE):QS:=fun D q=>ql q fun p u=>match u with
 | .l xs=>xs.length<QD/\qv q fun y=>∃ t,q[j]? = some (.o t)/\D.nx (q.set j (.o (T.put (.l (xs ++ [y])) p t)))
 | _=>False
theorem Gu(he:QPL X K j o te ql)(hv:QPF X K e tv qv)(hK:X.K=K:=by rfl)(cP:attributeBase o "append" X.env (eval o X.env)=eval o X.env:=by rfl)
  (k7:((backTo aM (L9 [e] X.env)).all (fun x=>!x.1)&&(backToKw aM (keywordEach [] X.env)).all (fun x=>x.1.isSome)
   && decide (([e]:List Expr).length+([]:List Keyword).length+(if([]:List Keyword).isEmpty then 0 else 1)<30))=true:=by rfl)
  (cO:(apos.endLine==aM.line)=true:=by rfl) (hs:L9 [e] X.env =(false,eval e X.env)::L9 [] X.env:=by rfl) (c7:(backTo aM (L9 [] X.env)).any (·.1)=false:=by rfl)
  (hsw:swapsWith (.Call (.Attribute o "append" apos) [e] [] aM) none dq.line X.env=pure false:=by rfl) :
  QPS X K (.Expr (.Call (.Attribute o "append" apos) [e] [] aM) dq) (kE (tBM K "list" lR te (il tv jq))) (MO j ql qv) :=
 ⟨iM (by subst hK;exact vo PySem.F.plainAttrs_list PySem.F.slot_list_append PySem.F.type_list_append rH he.h (cC hv.h h8 hs) cP k7 cO hs c7) hsw,fun dl H₀ hs H σ q Dq D ⟨F,r⟩ hq E=>by
 refine he.s dl H σ q _ _ r.rd hq fun t v p u w hj hv' hs hw hz=>?_
 split at hz
 ·rename_i xs;obtain⟨hl,hz⟩:=hz;obtain⟨v2,w2,Fu,hv2,hw2,ru,nu,md⟩:=r.mod hj hs;rw[hv']at hv2;cases hv2;cases hw.uniq (hw2 H (.refl r.d));obtain⟨l,vs,G,rfl,rfl,h1,h2⟩:=ru.r.lst;refine⟨.inl ⟨rfl,vs,SqL.of h1⟩,hv.s dl H σ q _ _ r.rd hz fun y ty Fy H1 e1 r1 f1 n1 hz=>?_⟩
  obtain⟨t',hj',hz⟩:=hz;rw[hj]at hj';cases hj';have ru1:=ru.evo r.d e1;obtain⟨l',vs',G',el,eG,h1',h2'⟩:=ru1.r.lst;cases el;cases eG;have e0:=e1.k l _ h1 (ru.n l qr) (fun _ z=>nomatch z)
  rw[e0]at h1';cases h1';obtain⟨q1,q2,q3,q4⟩:=Rp.putL ru r.d nu e1 (h2'.append (.cons r1.r .nil)) (fun b hb=>by
   rw[Q6]at hb;rcases Q7.mp hb with z|z
   ·exact ru.n b (j5 _ z)
   ·exact r1.n b z) (by
   rw[Q6];exact Rm.mpr ⟨(Q5.mp nu).2,n1,fun a ha b hb z=>(ru.r.there a (j5 _ ha)).no (f1 a (by rw[z];exact hb))⟩) (fun b hb=>by
   rw[Q6]at hb;rcases Q7.mp hb with z|z
   ·exact .inl z
   ·exact .inr (f1 b z))
  obtain⟨F',r'⟩:=md _ _ _ q4 q1 q2 q3;exact⟨l,_,y,rfl,rfl,e0,by rw[h2.len];exact hl,E.nx _ σ _ ⟨_,r'⟩ hz⟩
 ·exact hz.elim⟩
def MB(j:Nat)(ql:QL):QS:=fun D q=>ql q fun p u=>match u with
 | .l xs=>xs ≠ []/\∃ t,q[j]? = some (.o t)/\D.nx (q.set j (.o (T.put (.l xs.dropLast) p t)))
 | _=>False
theorem Gm(he:QPL X K j o te ql)(hK:X.K=K:=by rfl)(cP:attributeBase o "pop" X.env (eval o X.env)=eval o X.env:=by rfl)(cO:(apos.endLine==aM.line)=true:=by rfl)
  (hsw:swapsWith (.Call (.Attribute o "pop" apos) [] [] aM) none dq.line X.env=pure false:=by rfl) :
  QPS X K (.Expr (.Call (.Attribute o "pop" apos) [] [] aM) dq) (kE (FI K "list" Ge te)) (MB j ql) :=
 ⟨iM (by subst hK;exact xq PySem.F.plainAttrs_list PySem.F.slot_list_pop PySem.F.type_list_pop xB he.h cP cO) hsw,fun dl H₀ hs H σ q Dq D ⟨F,r⟩ hq E=>by
 refine he.s dl H σ q _ _ r.rd hq fun t v p u w hj hv' hs hw hz=>?_
 split at hz
 ·rename_i xs;obtain⟨hl,t',hj',hz⟩:=hz;rw[hj]at hj';cases hj';obtain⟨v2,w2,Fu,hv2,hw2,ru,nu,md⟩:=r.mod hj hs;rw[hv']at hv2;cases hv2;cases hw.uniq (hw2 H (.refl r.d));obtain⟨l,vs,G,rfl,rfl,h1,h2⟩:=ru.r.lst;have hlen:=h2.len;have Nw:0<vs.length:=by rw[hlen];exact Ta.mpr hl
  obtain⟨G',g1,g2⟩:=h2.take (xs.length - 1);rw[<- S6,<- hlen,<- S6]at g1;obtain⟨q1,q2,q3,q4⟩:=Rp.putL ru r.d nu (.refl r.d) g1 (fun b hb=>ru.n b (j5 _ (g2.subset hb))) (g2.nodup (Q5.mp nu).2) (fun b hb=>.inl (g2.subset hb))
  obtain⟨F',r'⟩:=md _ _ _ q4 q1 q2 q3;exact⟨.inl ⟨rfl,vs,SqL.of h1⟩,l,vs,vs[vs.length - 1],rfl,rfl,h1,QU (by omega),E.nx _ σ _ ⟨_,r'⟩ hz⟩
 ·exact hz.elim⟩
def MA(j:Nat)(ql:QL)(qk qv:QE):QS:=fun D q=>qv q fun y=>ql q fun p u=>match u with
 | .d xs=>qk q fun z=>match z.key with
  | some k=>xs.length<QD/\T.imk xs=true/\y.im=true/\∃ t,q[j]? = some (.o t)/\D.nx (q.set j (.o (T.put (.d (kS xs k y)) p t)))
  | none=>False
 | _=>False
theorem Gk(hu:X.A.units+1<cLine)(he:QPL X K j o te ql)(hk:QPE X K a tk qk)(hv:QPE X K b tv qv)(hs:swapsWith b (some (.Subscript o a pos')) pos.line X.env=pure false:=by rfl) :
  QPS X K (.Assign [.Subscript o a pos'] b pos) (IP te tk tv) (MA j ql qk qv):=⟨oA hu he.h hk.h hv.h hs,fun dl H₀ hs H σ q Dq D ⟨F,r⟩ hq E=>by
 refine hv.s dl H σ q _ _ r.rd hq fun y ty Fy H1 e1 r1 hz=>?_
 refine he.s dl H1 σ q _ _ (r.rd.evo e1) hz fun t v p u w hj hv' hs hw hz=>?_
 split at hz
 ·rename_i xs;refine hk.s dl H1 σ q _ _ (r.rd.evo e1) hz fun z tz Fz H2 e2 r2 hz=>?_
  split at hz
  ·rename_i k ek;obtain⟨hl,im1,im2,t',hj',hz⟩:=hz;rw[hj]at hj';cases hj';obtain⟨v2,w2,Fu,hv2,hw2,ru,nu,md⟩:=r.mod hj hs;rw[hv']at hv2;cases hv2;cases hw.uniq (hw2 H1 e1);obtain rfl:=r1.r.im im2;have e12:=e1.trans e2;obtain⟨d,vs,G,rfl,rfl,h1,h2⟩:=ru.r.dic;obtain rfl:=h2.im im1;have h1':=e12.k d _ h1 (ru.n d qr) (fun _ z=>nomatch z)
   rw[r2.r.key ek];obtain⟨q1,q2⟩:=Rp.putD ru r.d e12 (aF.put (r1.evo e1.d e2).r (h2.cL (e12.tf r.d) (fun _ z=>z) fun _ z=>nomatch z))
   obtain⟨F',r'⟩:=md _ _ _ q2 q1 (by simp) (fun b hb=>by rw[Es.mp hb];exact .inl qr)
   exact⟨d,_,rfl,uC.k h1' (by rw[h2.len];exact hl),E.nx _ σ _ ⟨_,r'⟩ hz⟩
  ·exact hz.elim
 ·exact hz.elim⟩
end
theorem fC.pre{F:List Addr}(e:Evo dl H H1)(f:fC dl H1 F H')(hn:∀ b∈F,Nd dl b):fC dl H F H' where
 k:=fun b o h nb n nr=>f.k b o (e.k b o h n nr) nb n nr
 r:=fun b x h nb=>let⟨y,hy,e1⟩:=e.r b x h;let⟨z,hz,e2⟩:=f.r b y e1 nb;⟨z,RU hz hy,e2⟩
 l:=fun b xs hb h=>f.l b xs hb (e.k b _ h (hn b hb) fun _ z=>nomatch z)
 d:=f.d
variable{n:Nat}{H₀:Hp}{q:Sq}
section
variable{X:Cx}{K:W.Frag}{k:Nat}{a b e o:Expr}{es:List Expr}{te to:TE}{qo:QE}{tl:TA}{qa:QA}{ql:QL}{pos pos' apos aM dq:Pos}{m:Str}{C f:Addr}{fd:FuncData}{prs:List Str}{ps:PSp}{pl:ju}
def xb(C:Addr)(m:Str)(ps:PSp)(qo:QE)(qa:QA):QE:=fun q Q=>qo q fun t=>match t with
 | .om x C' ns ts=>C'=C/\(ns.zip ts).lookup m=none/\qa q fun us=>ps (.om x C' ns ts::us) Q
 | _=>False
theorem rB(ho:nt K to qo)(ha:yz K n tl qa):mw K (lE C m (spQ K ps) [] E0 to tl) (xb C m ps qo qa):=fun dl H σ q Q R rd hq kk=>ho dl H σ q _ _ rd hq fun w t Fu H1 e1 r1 hz=>by
 split at hz
 ·rename_i x C' ns ts;obtain⟨rfl,hl,hz⟩:=hz;obtain⟨dx,vs,G,rfl,rfl,h1,h2,h3,h4⟩:=r1.r.omm;refine⟨x,dx,_,rfl,h1,(Dy h4.len).mp hl,ha dl H1 σ q _ _ (rd.evo e1) hz fun ws us Fa H2 e2 r2 _ hz=>?_⟩
  show spQ K ps (V.ref x ::(ws ++ [])) H2 _ _;rw[Q6];have r1':=r1.evo e1.d e2;refine⟨dl,_,_,_,e2.d,⟨.cons r1'.r r2.r,fun b hb=>(Q7.mp hb).elim (r1'.n b) (r2.n b)⟩,hz,fun v t F' H' e3 r3 f3 n3 hz=>kk v t F' H' ((e1.trans e2).trans e3) r3 (fun b hb=>(e1.trans e2).free (f3 b hb)) n3 hz⟩
 ·exact hz.elim
theorem u9(hc:Cls K C)(hm:Meth K C m f)(G:aQ X.prog X.w X.K X.mg X.base CX0 k f fd prs (spQ K ps))(hr:bT k X.A)(hb:Binds K fd prs [])(ho:QPE X K o to qo)(ha:QPA X K (e::es) tl qa)(hK:X.K=K:=by rfl)
  {plb:Sem Bool} (hst:L9 (e::es) X.env =(false,eval e X.env)::L9 es X.env:=by rfl) (hpl:(backTo pos (L9 es X.env)).any (·.1)=false:=by rfl)
  (ht:eval (.Call (.Attribute o m apos) (e::es) [] pos) X.env =(do
   let ov <- eval o X.env
   standAt apos.atName
   let(f,first) <- holding [ov] (getMethod ov m plb)
   callWith pos f first (backTo pos (L9 (e::es) X.env)) (backToKw pos (keywordEach [] X.env))):=by rfl) :
  QPF X K (.Call (.Attribute o m apos) (e::es) [] pos) (lE C m (spQ K ps) [] E0 to tl) (xb C m ps qo qa):=⟨by subst hK;exact y9 ho.h hc hm G hr hb .nil l6 ha.h hst hpl ht,rB ho.s ha.s⟩
theorem oQ:yz K 0 jq (fun _ Q=>Q []):=fun dl H σ q Q R rd hq kk=>kk [] [] [] H (.refl rd.d) ⟨.nil,fun _ z=>nomatch z⟩ rfl hq
theorem bw(hc:Cls K C)(hm:Meth K C m f)(G:aQ X.prog X.w X.K X.mg X.base CX0 k f fd prs (spQ K ps))(hr:bT k X.A)(hb:Binds K fd prs [])(ho:QPE X K o to qo)(hK:X.K=K:=by rfl)
  {plb:Sem Bool} (ht:eval (.Call (.Attribute o m apos) [] [] pos) X.env =(do
   let ov <- eval o X.env
   standAt apos.atName
   let(f,first) <- holding [ov] (getMethod ov m plb)
   callWith pos f first (backTo pos (L9 [] X.env)) (backToKw pos (keywordEach [] X.env))):=by rfl) :
  QPF X K (.Call (.Attribute o m apos) [] [] pos) (lE C m (spQ K ps) [] E0 to jq) (xb C m ps qo fun _ Q=>Q []):=⟨by subst hK;exact pq ho.h hc hm G hr hb .nil l6 ht,rB ho.s oQ⟩
def sM(j:Nat)(C:Addr)(m:Str)(pl:ju)(ql:QL)(qa:QA)(q:Sq)(R:T->Sq->Prop):Prop:=ql q fun p u=>match u with
 | .om x C' ns ts=>C'=C/\(ns.zip ts).lookup m=none/\qa q fun us=>T.ims us=true/\pl (.om x C' ns ts::us) fun r u'=>u'.adr=some x/\r.im=true/\∃ t,q[j]? = some (.o t)/\R r (q.set j (.o (T.put u' p t)))
 | _=>False
theorem mF{hs:List (V×T)}{σ:St}{R:T->Sq->Prop}{Q:VK}(ho:N5 K j to ql)(ha:yz K n tl qa)(hr:gE K dl H₀ hs H σ q)(hq:sM j C m pl ql qa q R)
  (kk:∀ v r q' H',gE K dl H₀ hs H' σ q'->Rp K dl H' v r []->R r q'->Q v H'):lE C m (spL K 0 pl) [] E0 to tl σ H Q:=by
 obtain⟨F,r⟩:=hr;refine ho dl H σ q _ _ r.rd hq fun t v p u w hj hv hs' hw hz=>?_
 split at hz
 ·rename_i x C' ns ts;obtain⟨rfl,hl,hz⟩:=hz;obtain⟨v2,w2,Fu,hv2,hw2,ru,nu,md⟩:=r.mod hj hs';rw[hv]at hv2;cases hv2;cases hw.uniq (hw2 H (.refl r.d));obtain⟨dx,vs,G,rfl,eF,h1,h2,h3,h4⟩:=ru.r.omm;refine⟨x,dx,_,rfl,h1,(Dy h4.len).mp hl,ha dl H σ q _ _ r.rd hz fun ws us Fa H2 e2 r2 _ hz=>?_⟩
  obtain⟨him,hz⟩:=hz;show spL K 0 pl (V.ref x ::(ws ++ [])) H2 _ _;rw[Q6];refine⟨dl,_,.ref x,.om x C' ns ts,Fu,_,e2.d,by rw[Rj,Rj,r2.r.len],rfl,rfl,ru.evo r.d e2,nu,fun i v t ne a1 a2=>?_,hz,fun v rr Fr t' F' H' vC rp' n' hF' rv _ _ _ hz=>?_⟩
  ·cases i with
   | zero=>exact absurd rfl ne
   | succ i=>exact⟨r2.r.im1 him i v t (by simpa using a1) (by simpa using a2),fun _ z=>nomatch z⟩
  ·obtain⟨_,ri,t0,hj0,hz⟩:=hz;rw[hj]at hj0;cases hj0;obtain⟨F2,r'⟩:=md H' t' F' (vC.pre e2 ru.n) rp' n' fun b hb=>(hF' b hb).imp id e2.free
   obtain rfl:=rv.r.im ri;exact kk v rr _ H' ⟨F2,r'⟩ rv hz
 ·exact hz.elim
theorem bW(hc:Cls K C)(hm:Meth K C m f)(G:aQ X.prog X.w X.K X.mg X.base CX0 k f fd prs (spL K 0 pl))(hr:bT k X.A)(hb:Binds K fd prs [])(ho:QPL X K j o to ql)(ha:QPA X K (e::es) tl qa)(hK:X.K=K:=by rfl)
  {plb:Sem Bool} (hst:L9 (e::es) X.env =(false,eval e X.env)::L9 es X.env:=by rfl) (hpl:(backTo pos (L9 es X.env)).any (·.1)=false:=by rfl)
  (ht:eval (.Call (.Attribute o m apos) (e::es) [] pos) X.env =(do
   let ov <- eval o X.env
   standAt apos.atName
   let(f,first) <- holding [ov] (getMethod ov m plb)
   callWith pos f first (backTo pos (L9 (e::es) X.env)) (backToKw pos (keywordEach [] X.env))):=by rfl) (hs:swapsWith (.Call (.Attribute o m apos) (e::es) [] pos) none dq.line X.env=pure false:=by rfl) :
  QPS X K (.Expr (.Call (.Attribute o m apos) (e::es) [] pos) dq) (kE (lE C m (spL K 0 pl) [] E0 to tl)) (fun D q=>sM j C m pl ql qa q fun _ q'=>D.nx q') :=
 ⟨iM (by subst hK;exact y9 ho.h hc hm G hr hb .nil l6 ha.h hst hpl ht) hs,fun dl H₀ hs H σ q Dq D r hq E=>mF ho.s ha.s r hq fun v rr q' H' r' _ hz=>E.nx H' σ q' r' hz⟩
theorem mK(hc:Cls K C)(hm:Meth K C m f)(G:aQ X.prog X.w X.K X.mg X.base CX0 k f fd prs (spL K 0 pl))(hr:bT k X.A)(hb:Binds K fd prs [])(ho:QPL X K j o to ql)(hK:X.K=K:=by rfl)
  {plb:Sem Bool} (ht:eval (.Call (.Attribute o m apos) [] [] pos) X.env =(do
   let ov <- eval o X.env
   standAt apos.atName
   let(f,first) <- holding [ov] (getMethod ov m plb)
   callWith pos f first (backTo pos (L9 [] X.env)) (backToKw pos (keywordEach [] X.env))):=by rfl) (hs:swapsWith (.Call (.Attribute o m apos) [] [] pos) none dq.line X.env=pure false:=by rfl) :
  QPS X K (.Expr (.Call (.Attribute o m apos) [] [] pos) dq) (kE (lE C m (spL K 0 pl) [] E0 to jq)) (fun D q=>sM j C m pl ql (fun _ Q=>Q []) q fun _ q'=>D.nx q') :=
 ⟨iM (by subst hK;exact pq ho.h hc hm G hr hb .nil l6 ht) hs,fun dl H₀ hs H σ q Dq D r hq E=>mF ho.s oQ r hq fun v rr q' H' r' _ hz=>E.nx H' σ q' r' hz⟩
def CN(C:Addr)(pl:ju)(qa:QA):QE:=fun q Q=>qa q fun us=>T.ims us=true/\∀ x,pl (.om x C [] []::us) fun r u'=>r = .n/\u'.adr=some x/\Q u'
theorem z9(ha:yz K n tl qa):mw K (B4 C (spL K 0 pl) [] E0 tl) (CN C pl qa):=fun dl H σ q Q R rd hq kk=>ha dl H σ q _ _ rd hq fun ws us Fa H1 e1 r1 _ hz=>by
 obtain⟨him,hz⟩:=hz;intro x dx nx ndx ne;show spL K 0 pl (V.ref x ::(ws ++ [])) _ _ _;rw[Q6];have e2:Evo dl H1 (upd (upd H1 dx (.own x)) x (.ins C dx [])):=((Evo.refl e1.d).new ndx).new (by rw[ah ne.symm];exact nx)
 have r2:=r1.evo e1.d e2;have ro:Rp K dl (upd (upd H1 dx (.own x)) x (.ins C dx [])) (.ref x) (.om x C [] []) [x,dx]:=⟨.om (vs:=[]) ar (by rw[ah ne,ar]) rfl .nil,fun b hb=>by
  rcases QH.mp hb with z|z
  ·rw[z];exact e1.d.nd0 nx
  ·rw[Es.mp z];exact e1.d.nd0 ndx⟩
 refine⟨dl,_,.ref x,.om x C [] [],[x,dx],_,e2.d,by rw[Rj,Rj,r2.r.len],rfl,rfl,ro,by simp[ne.symm],fun i v t hi a1 a2=>?_,hz x,fun v rr Fr t' F' H' vC rp' n' hF' rv _ _ _ hz=>?_⟩
 ·cases i with
  | zero=>exact absurd rfl hi
  | succ i=>exact⟨r2.r.im1 him i v t (by simpa using a1) (by simpa using a2),fun _ z=>nomatch z⟩
 ·obtain⟨rfl,_,hz⟩:=hz;obtain⟨rfl,_⟩:=rv.r.non;have out:∀{b:Addr}{o:HO},H b=some o->b ∉ [x,dx]:=fun{b o} h z=>by
   rcases QH.mp z with z|z
   ·rw[z,e1.free nx]at h;cases h
   ·rw[Es.mp z,e1.free ndx]at h;cases h
  have ev:Evo dl H H':=⟨fun b o h n nr=>vC.k b o (e2.k b o (e1.k b o h n nr) n nr) (out h) n nr,vC.d,fun b y h=>let⟨y1,l1,h1⟩:=(e1.trans e2).r b y h;let⟨y2,l2,h2⟩:=vC.r b y1 h1 (out h);⟨y2,RU l2 l1,h2⟩⟩
  refine⟨rfl,kk _ t' F' H' ev rp' (fun b hb=>?_) n' hz⟩
  rcases hF' b hb with z|z
  ·rcases QH.mp z with z|z
   ·rw[z];exact e1.free nx
   ·rw[Es.mp z];exact e1.free ndx
  ·exact(e1.trans e2).free z
theorem jC(M:Mk K C f)(G:aQ X.prog X.w X.K X.mg X.base CX0 k f fd prs (spL K 0 pl))(hr:bT (k+1) X.A)(hg:Gl X x)(hm:X.mg x=some (.ref C))(hb:Binds K fd prs [])(ha:QPA X K (e::es) tl qa)(hK:X.K=K:=by rfl)
  (hdb:(x ==("__debug__":Str))=false:=by decide) (hst:L9 (e::es) X.env =(false,eval e X.env)::L9 es X.env:=by rfl) (hpl:(backTo pos (L9 es X.env)).any (·.1)=false:=by rfl) :
  QPF X K (.Call (.Name x pos') (e::es) [] pos) (B4 C (spL K 0 pl) [] E0 tl) (CN C pl qa):=⟨by subst hK;exact GS M G hr hg hm hb .nil l6 ha.h hdb hst hpl,z9 ha.s⟩
end
abbrev QTL:=Sq ->(Bool->Sq->Prop)->Prop
def JG(K:W.Frag)(tc:TT)(qc:QTL):Prop:=∀(dl:Dl)(H₀:Hp)(hs:List (V×T))(H:Hp)(σ:St)(q:Sq)(R:Bool->Sq->Prop)(Q:Bool->Hp->Prop),gE K dl H₀ hs H σ q->qc q R ->(∀ b q' H',gE K dl H₀ hs H' σ q'->R b q'->Q b H')->tc σ H Q
structure Bq(X:Cx)(K:W.Frag)(c:Expr)(tc:TT)(qc:QTL):Prop where
 h:PT X c tc
 s:JG K tc qc
structure Bp(X:Cx)(K:W.Frag)(c:Expr)(tc:TT)(qc:QTL):Prop where
 h:PW X c tc
 s:JG K tc qc
section
variable{X:Cx}{K:W.Frag}{k:Nat}{a b c e o:Expr}{es rest:List Expr}{tA tB tc:TT}{qA:QT}{qa' qB qc:QTL}{te to:TE}{ql:QL}{pos apos:Pos}{m:Str}{C f:Addr}{fd:FuncData}{prs:List Str}{pl:ju}{body:List Stmt}{t:TS}{qt:QS}
theorem J6(h:QPT X K a tA qA):Bq X K a tA (fun q R=>qA q fun b=>R b q):=⟨h.h,fun dl H₀ hs H σ q R Q ⟨F,r⟩ hq kk=>h.s dl H σ q _ _ r.rd hq fun b H' e1 hz=>kk b q H' ⟨F,r.evo e1⟩ hz⟩
theorem Bp.pt(h:Bp X K a tA qa'):Bq X K a tA qa':=⟨PW.pt h.h,h.s⟩
theorem CD(h:Bq X K a tA qa'):Bp X K (.BoolOp .And [a] pos) tA qa':=⟨sP h.h,h.s⟩
theorem Gg(h:Bq X K a tA qa')(h2:Bp X K (.BoolOp .And (b::rest) pos) tB qB):Bp X K (.BoolOp .And (a::b::rest) pos) (FJ tA tB) (fun q R=>qa' q fun c q'=>if c=true then qB q' R else R false q'):=⟨xf h.h h2.h,fun dl H₀ hs H σ q R Q r hq kk=>h.s dl H₀ hs H σ q _ _ r hq fun b q' H' r' hz=>by
 cases b with
 | true=>exact h2.s dl H₀ hs H' σ q' _ _ r' hz kk
 | false=>exact kk false q' H' r' hz⟩
theorem Af(hc:Cls K C)(hm:Meth K C m f)(G:aQ X.prog X.w X.K X.mg X.base CX0 k f fd prs (spL K 0 pl))(hr:bT k X.A)(hb:Binds K fd prs [])(ho:QPL X K j o to ql)(hK:X.K=K:=by rfl)
  {plb:Sem Bool} (ht:eval (.Call (.Attribute o m apos) [] [] pos) X.env =(do
   let ov <- eval o X.env
   standAt apos.atName
   let(f,first) <- holding [ov] (getMethod ov m plb)
   callWith pos f first (backTo pos (L9 [] X.env)) (backToKw pos (keywordEach [] X.env))):=by rfl)
  (he:∀ whole,isTrue (.Call (.Attribute o m apos) [] [] pos) X.env whole =(do let v <- whole;standAt (Expr.pos (.Call (.Attribute o m apos) [] [] pos));holding [v] (truthy v)):=by intro _;rfl) :
  Bq X K (.Call (.Attribute o m apos) [] [] pos) (L2.tB (lE C m (spL K 0 pl) [] E0 to jq)) (fun q R=>sM j C m pl ql (fun _ Q=>Q []) q fun r q'=>match r with | .b x=>R x q' | _=>False) :=
 ⟨Km (by subst hK;exact pq ho.h hc hm G hr hb .nil l6 ht) he,fun dl H₀ hs H σ q R Q r hq kk=>mF ho.s oQ r hq fun v rr q' H' r' rv hz=>by
  split at hz
  ·obtain⟨rfl,_⟩:=rv.r.bl;exact⟨_,rfl,kk _ q' H' r' hz⟩
  ·exact hz.elim⟩
inductive LA(c:QTL)(tb:QS)(D:qy)(q:Sq):Prop
 | mk (W:Nat->Sq->Prop) (h0:∃ m,W m q) (turn:∀ m q,W m q->c q fun b q'=>if b=true then JF tb D W m q' else D.nx q')
theorem Ag(hp:S8 (model X.prog X.w) X.A X.env X.xe)(hc:Bq X K c tc qc)(hb:oh X K body t qt):QPS X K (.While c body [] pos) (se tc t) (fun D q=>LA qc qt D q):=⟨pf hp hc.h hb.h,fun dl H₀ hs H σ q Dq D r hq E=>by
 obtain⟨W,⟨m0,w0⟩,turn⟩:=hq;refine⟨fun m σ H=>∃ q,gE K dl H₀ hs H σ q/\W m q,⟨m0,q,r,w0⟩,?_⟩
 rintro m σ H ⟨q,r,w⟩
 refine hc.s dl H₀ hs H σ q _ _ r (turn m q w) fun b q1 H1 r1 hz=>?_
 cases b with
 | false=>exact E.nx H1 σ q1 r1 hz
 | true =>
  obtain⟨N,hN,hz⟩:=hz;refine⟨fun σ' H'=>∃ q',gE K dl H₀ hs H' σ' q'/\N q',fun σ' H' ⟨q',r',n'⟩=>?_,?_⟩
  ·obtain⟨m',hm,w'⟩:=hN q' n';exact⟨m',hm,q',r',w'⟩
  ·exact hb.s dl H₀ hs H1 σ q1 _ _ r1 hz ⟨fun H σ q r n=>⟨q,r,n⟩,fun H σ q r n=>E.nx H σ q r n,fun H σ q r n=>⟨q,r,n⟩,E.rt,E.ru⟩⟩
end
end L2
namespace PySem
open Sem (wp)
section
variable{prog:Program}{w:World}{A:Around}{E:Value->Shared->Prop}
theorem qS:typeLookup (.type "zip") "keys" = pure none:=am_miss_of_fast (by decide +kernel)
theorem kC:typeLookup (.type "zip") "__getattr__" = pure none:=by rw[typeLookup_type,builtinLookup_eq_fast];kernel_rfl
theorem gH:entryFor table "zip.__getattribute__" = some Builtin.«object.__getattribute__» :=
 entryFor_alias (id':="object.__getattribute__") (by kernel_rfl) (by decide +kernel) (by decide +kernel) (by kernel_rfl)
theorem pJ(a:Addr)(vs:Array Value)(sl:Array (Option Value))(u:Tok) :
  Meets (Builtin.«object.__getattribute__» ⟨[.ref a,.str "keys" u],[]⟩) (fun A R s=>s.heap.get? a=some { cls:=.type "zip",dict:=none,data:=.fields vs,slots:=sl }/\raisesAttr (.ref a) "keys" A R s) :=
 Meets.of_wp fun prog w A R s hs=>by
  obtain⟨hp,g,d,tk,os⟩:=s;obtain⟨hx,hs⟩:=hs;have hT:(⟨hp,g,d,tk,os⟩:Shared).TypeIs (.ref a) "zip":=⟨_,hx,rfl⟩;have Qz:=qS;have pQ:(["__module__","__name__","__qualname__","__doc__","__annotations__"]:List Str).contains (Str.ofString "keys")=false:=by decide +kernel
  unfold Builtin.«object.__getattribute__»
  repeat (any_goals (first|assumption|wp_step))
  try simp only[pQ,RH,if_false]
  repeat (any_goals (first|assumption|wp_step))
  exact wpAny_raiseAttrError hs.1 hs.2 (attrMsg_fits (by decide +kernel) (by size_fits))
set_option maxRecDepth 8000 in
theorem qT{s:Shared}{a:Addr}{vs:Array Value}{sl:Array (Option Value)}{Q:Option Value->Shared->Prop}
  (hx:s.heap.get? a=some { cls:=.type "zip",dict:=none,data:=.fields vs,slots:=sl }) (hA:A.handled=none)
  (h:∀ h' tk,(∀ b o,s.heap.get? b=some o->h'.get? b=some o)->Q none { s with heap:=h',toks:=tk }) :
  wpAny (model prog w) A (getAttr? (.ref a) "keys") Q E s:=by
 obtain⟨hp,g,d,tk,os⟩:=s;have hT:∀ tk',(⟨hp,g,d,tk',os⟩:Shared).TypeIs (.ref a) "zip":=fun _=>⟨_,hx,rfl⟩
 have f1:=sub_AttributeError;have f3:=F.slot_zip_getattribute.lookup;have f4:=F.slot_zip_getattribute.bind (.ref a);have f5:=kC;unfold getAttr? getAttrBy? getAttrBy
 repeat (any_goals (first|assumption|exact hT _ |((with_reducible show wpAny _ _ (call (Value.builtin "zip.__getattribute__") _ _) _ _ _);refine call_meets F.slot_zip_getattribute (hT _) gH (F.args_zip_getattribute_2 _ _) (pJ a vs sl _) ⟨hx,hA,fun h' tk' e hx'=>?_⟩)|wp_step))
 obtain⟨t',u',he⟩:=hx'.there;show wpAny _ _ (getattributeRaised _ _ _ _ _ _ _) _ _ _;unfold getattributeRaised
 repeat (any_goals (first|assumption|wp_step))
 exact h _ _ hx'.keeps
end
end PySem
namespace L2
open PySem PySem.Spec PyProof.Rows
variable{R:Result->Shared->Prop}{S:Addr}{z:Addr}{i1:Addr}{i2:Addr}{l1:Addr}{l2:Addr}{ys:Array Value}{n:Nat}
section
variable{prog:Program}{w:World}{A:Around}{s:Shared}{κ:Type}[DecidableEq κ]{knd:KeyKind prog w κ}
theorem FE{TI TO:Addr}{t1 t2:Bool}{xs:Array Value}{pairs:List (κ×Value)}(hh:A.handled=none)(D:ZipApart z TI TO i1 i2 l1 l2)(hzS:z≠S)(Qf:TI≠S)(Lj:TO≠S)(h1S:i1≠S)(h2S:i2≠S)(P9:l1≠S)(P8:l2≠S)
  (en:n=min xs.size ys.size) (hn:n<=QD) (hpl:pairs.length=n) (hpr:∀(i:Nat) x y,xs[i]? = some x->ys[i]? = some y->∃ k,pairs[i]? = some (k,y)/\knd.is k x=true) (res:Value) {h₁:Heap}
  (hR:∀ h' tk,(∀ b o,b≠S->b≠z->b≠TO->b≠i1->b≠i2->h₁.get? b=some o->h'.get? b=some o)->h'.DictOf knd S (merged [] pairs)->R (.ok (.ret res)) { s with heap:=h',toks:=tk }) :
  ∀(k i:Nat)(h:Heap)(tk:Nat),n - i=k->i<=n->ZSt h z TI TO i1 i2 l1 l2 S t1 t2 i->aX h t1 l1 xs->aX h t2 l2 ys ->(∀ b o,b≠S->b≠z->b≠TO->b≠i1->b≠i2->h₁.get? b=some o->h.get? b=some o) ->
   h.DictOf knd S (merged [] (pairs.take i))->codeAny (model prog w) A (.builtin "dict.update.loop" ⟨[.ref S,.ref z,rawInt i,res],[]⟩) R { s with heap:=h,toks:=tk }:=by
 intro k
 induction k with
 | zero =>
  intro i h tk hk hi hst hL1 hL2 DU hS;have hin:i=n:=by omega
  refine Sn PySem.F.dC ?_;rw[RV PySem.F.bg _];show wpAny _ A.in1 (pyNext (.ref z) >>= _) _ _ _;refine j2 (FA (s:={ s with heap:=h,toks:=tk }) (A:=A.in1) hh D hst hL1 hL2 ?_ fun h' he=>?_)
  ·by_cases q:xs.size<=i
   ·exact .inl (SY q)
   ·exact .inr (SY (by omega))
  show wpAny _ A.in1 (Builtin.Dict.addKeywords S [] >>= _) _ _ _;refine j2 (Lb (Lb (hR h' tk (fun b o b1 b2 b3 b4 b5 e=>he b o b2 b3 b4 b5 (DU b o b1 b2 b3 b4 b5 e)) ?_)))
  rw[hin,<- hpl,TJ]at hS;obtain⟨o,es,ep,ho,r⟩:=hS;exact⟨o,es,ep,he S o hzS.symm Lj.symm h1S.symm h2S.symm ho,r⟩
 | succ k ih =>
  intro i h tk hk hi hst hL1 hL2 DU hS;have hlt:i<n:=by omega
  obtain⟨x,hx⟩:∃ x,xs[i]? = some x:=⟨xs[i]'(by omega),by simp[show i<xs.size by omega]⟩
  obtain⟨y,hy⟩:∃ y,ys[i]? = some y:=⟨ys[i]'(by omega),by simp[show i<ys.size by omega]⟩
  obtain⟨key,hp1,hp2⟩:=hpr i x y hx hy;have Qg:S<h.objs.size:=by obtain⟨_,_,_,e,_⟩:=hS;exact QW e
  refine Sn PySem.F.dC ?_;rw[RV PySem.F.bg _];show wpAny _ A.in1 (pyNext (.ref z) >>= _) _ _ _;refine j2 (Fx (s:={ s with heap:=h,toks:=tk }) (S:=S) D hst Qg hL1 hL2 hx hy fun h' AZ ht hz hkp=>?_)
  dsimp only at ht hz hkp ⊢;have hS':h'.DictOf knd S (merged [] (pairs.take i)):=by
   obtain⟨o,es,ep,ho,r⟩:=hS;exact⟨o,es,ep,hkp S o hzS.symm Lj.symm h1S.symm h2S.symm ho,r⟩
  show wpAny _ A.in1 (holding [Value.ref h.objs.size] _ >>= _) _ _ _;refine j2 (Rn ?_);refine j2 (wpAny_tryCatch ?_);unfold Builtin.Dict.pairItems;refine j2 (RY (T:="tuple") ⟨_,ht,rfl⟩ ?_);rw[if_pos (by decide)]
  refine j2 (wpAny_seqItems ht rfl (Lb ?_));show wpAny _ A.in1 (holding [x,y] (dictSet S x y)) _ _ _;have hml:(merged [] (pairs.take i)).length<=QD:=by
   have h1:=PySem.qQ [] (pairs.take i);rw[RP,SH]at h1;omega
  refine Rn (wpAny_dictSet_pairs (hsz:=hml) hp2 hS' fun h'' HK hsb=>?_)
  have e:=merged_take_succ [] pairs i (key,y) hp1;rw[<- e]at HK;have fr:∀ b o,b≠S->h'.get? b=some o->h''.get? b=some o:=fun b o hb eb=>(hsb.2 b hb).trans eb
  obtain⟨ob3,g3⟩:=hL1.obj;obtain⟨ob4,g4⟩:=hL2.obj;refine Lb ⟨R4 PySem.F.bg _,ih (i+1) h'' (tk+1) (by omega) hlt (AZ.keep fr hzS Qf Lj h1S h2S) ?_ ?_ (fun b o b1 b2 b3 b4 b5 eb=>fr b o b1 (hkp b o b2 b3 b4 b5 (DU b o b1 b2 b3 b4 b5 eb))) HK⟩
  ·exact hL1.at fun o e=>fr _ o P9 (hkp _ o D.l1z D.l1TO D.l1i1 D.l1i2 e)
  ·exact hL2.at fun o e=>fr _ o P8 (hkp _ o D.l2z D.l2TO D.l2i1 D.l2i2 e)
end
def uR(K:W.Frag)(t1 t2:Bool)(tl:TA):TE:=fun σ H R=>tl σ H fun vs H1=>∃(l1 l2:Addr)(ks:List Key)(ys:List V),vs = [.ref l1,.ref l2]/\SqB K t1 H1 l1 (ks.map kV)/\SqB K t2 H1 l2 ys/\∀ d,H1 d=none->R (.ref d) (upd H1 d (.dK (d7 [] (ks.zip ys))))
theorem DE:∀{ks:List Key}{ys:List V}{us:List Value},Vals ys us->KV (ks.zip ys) (ks.zip us)
 | [],_,_,_=>.nil
 | _::_,_,_,.nil=>.nil
 | k::ks,_,_,.cons h r=>.cons ⟨rfl,h⟩ (DE r)
section
variable{X:Cx}{a b:Expr}{tl:TA}{pos p bP p2:Pos}{t1 t2:Bool}
theorem xp(hg:Gl X "dict")(hm:X.mg "dict" = none)(hg2:Gl X "zip")(hm2:X.mg "zip" = none)(ha:PA X [a,b] tl)(hs:L9 [a,b] X.env = [(false,eval a X.env),(false,eval b X.env)])(hs2:L9 [b] X.env = [(false,eval b X.env)])
  (hs3:L9 [.Call (.Name "zip" p2) [a,b] [] bP] X.env =(false,eval (.Call (.Name "zip" p2) [a,b] [] bP) X.env)::L9 [] X.env) (hc:X.calm=true) :
  PE X (.Call (.Name "dict" p) [.Call (.Name "zip" p2) [a,b] [] bP] [] pos) (uR X.K t1 t2 tl):=by
 intro j0 s σ H R I h;refine Call_ (gp I hg hm (by kernel_rfl) (PyProof.Rows.callWith_type1 (T:="dict") ?_ hs3 (by rfl)))
 rw[hs3];refine Calls.spliced_cons ?_;refine Call_ (gp I hg2 hm2 (by kernel_rfl) (PyProof.Rows.callWith_type1 (T:="zip") (thn (ha bP j0 s σ H _ I h) fun us s1 ⟨vs,H1,I1,r1,q1⟩=>?_) (by rw[hs,hs2]) (by rw[hs2];rfl)))
 obtain⟨l1,l2,ks,ys,e,q2,q3,q⟩:=q1;subst e;obtain⟨u1,u2,rfl,ru1,ru2⟩:=vals2 r1;cases ru1;cases ru2;obtain⟨P0,rv1,o1,z1⟩:=I1.Me (tp:=t1) q2;obtain⟨bK,rv2,o2,z2⟩:=I1.Me (tp:=t2) q3;obtain⟨ob1,e1⟩:=o1.obj;obtain⟨ob2,e2⟩:=o2.obj;have g1:l1<s1.heap.objs.size:=QW e1;have g2:l2<s1.heap.objs.size:=QW e2;have hh:X.A.handled=none:=I1.ok.hd hc;refine ug o1 o2 fun h1 hz hTI hTO hi1 hi2 hk=>?_
 refine Calls.spliced_nil ?_;have nz:s1.heap.objs.size+4<h1.objs.size:=QW hz;have rl1:=rv1.length;have rl2:=rv2.length;rw[QR]at rl1 z1;refine callType_codes (s:={ s1 with heap:=h1 }) (Q₁:=fun obj s₁=>obj = .ref h1.objs.size/\s₁ ={ s1 with heap:=h1.push { cls:=.type "dict",data:=.dict #[] } }) F.kt_called_dict (F.kt_typeCall_dict_1 _) F.entry_dict_init (kt_code_dict_new _ ⟨rfl,rfl⟩) ?_
 rintro obj s₁ ⟨rfl,rfl⟩
 have Lf:(h1.push { cls:=.type "dict",data:=.dict #[] }).DictOf (br X.prog X.w) h1.objs.size []:=Heap.DictOf.new h1;refine⟨Lf.typeIs,F.args_dict_init_2 _ _,?_⟩;unfold Builtin.«dict.__init__»;refine j2 ?_;unfold Builtin.Dict.selfAndRest;refine j2 (wpAny_notOrdered_dict Lf.typeIs ?_);refine Lb ?_;show wpAny _ _ (Builtin.Dict.updateFrom "dict.__init__" h1.objs.size (.ref (s1.heap.objs.size+4)) [] .none) _ _ _;unfold Builtin.Dict.updateFrom;have up:∀ b o,h1.get? b=some o ->(h1.push { cls:=.type "dict",data:=.dict #[] }).get? b=some o:=fun b o e=>j3 _ e
 refine j2 (RY (T:="zip") ⟨_,up _ _ hz,rfl⟩ ?_);rw[if_pos (by decide)]
 refine j2 (qT (up _ _ hz) hh fun h2 tk2 k2=>?_)
 rw[if_pos (show(none:Option Value).isNone=true from rfl)];refine j2 (R9 ?_);refine j2 (wpAny_pyIter_zip (s:={ s1 with heap:=h2,toks:=tk2 }) (k2 _ _ (up _ _ hz)) ?_)
 have up2:∀ b o,h1.get? b=some o->h2.get? b=some o:=fun b o e=>k2 b o (up b o e)
 obtain⟨oi1,gi1,_⟩:=hi1.obj;obtain⟨oi2,gi2,_⟩:=hi2.obj;have ne:∀{b:Addr}{o:Obj},h1.get? b=some o->b≠h1.objs.size:=fun e=>Rg (QW e)
 refine Lb ⟨R4 F.bg _,FE (A:=X.A.in1) (s:=s1) (knd:=br X.prog X.w) (h₁:=h2) (t1:=t1) (t2:=t2) (xs:=P0.toArray) (ys:=bK.toArray) (pairs:=ks.zip bK) hh (uM g1 g2) (ne hz) (ne hTI) (ne hTO) (ne gi1) (ne gi2) (ne (hk _ _ e1)) (ne (hk _ _ e2)) rfl ?_ ?_ (fun i x y hx hy=>?_) .none (fun h' tk' hk' hd=>?_) _ 0 h2 tk2 rfl (RE _) ⟨up2 _ _ hTI,hi1.at fun o e=>up2 _ o e,hi2.at fun o e=>up2 _ o e,.inl ⟨up2 _ _ hz,.none,.none,up2 _ _ hTO⟩⟩ (o1.at fun o e=>up2 _ o (hk _ o e)) (o2.at fun o e=>up2 _ o (hk _ o e)) (fun _ _ _ _ _ _ _ e=>e) ?_⟩
 ·rw[P2,P2];omega
 ·rw[Sm,P2,P2];omega
 ·rw[Sy]at hx hy;have hik:i<ks.length:=by rw[rl1];exact(Qx.mp hx).1
  obtain⟨u,hu,ru⟩:=rv1.get (i:=i) (x:=kV ks[i]) (by rw[Q0,QU hik];rfl)
  rw[hx]at hu;cases hu;exact⟨ks[i],List.getElem?_zip_eq_some.mpr ⟨QU hik,hy⟩,rL ru⟩
 ·have fr:∀ b u,s1.heap.get? b=some u->h'.get? b=some u:=fun b u e=>by
   have lt:b<s1.heap.objs.size:=QW e;have ne':∀ m:Nat,s1.heap.objs.size<=m->b≠m:=fun m hm z=>absurd (z▸lt:m<s1.heap.objs.size) (by omega)
   exact hk' b u (ne (hk _ _ e)) (ne' _ (by omega)) (ne' _ (by omega)) (ne' _ (QX _)) (ne' _ (by omega)) (up2 b u (hk b u e))
  have fresh:s1.heap.objs.size<=h1.objs.size:=by omega
  refine⟨rfl,.ref h1.objs.size,_,I1.laid (t':=tk') (h':=h') (a:=h1.objs.size) (o:=.dK (d7 [] (ks.zip ys))) fr fresh ?_,rfl,q _ (I1.hok.fresh fresh)⟩;refine ya ?_ ?_ (KV.merge (DE rv2) .nil) hd
  ·have:=ie (ks.zip ys) []
   rw[Sm,SH]at this;omega
  ·have:=I1.big
   exact beq_eq_false_iff_ne.mpr (RI (Q8 this fresh))
 ·obtain⟨o,es,ep,ho,r⟩:=Lf;exact⟨o,es,ep,k2 _ _ ho,r⟩
end
def rJ:List T->Option (List Key)
 | []=>some []
 | x::r=>match x.key,rJ r with
  | some k,some ks=>some (k::ks)
  | _,_=>none
theorem ai.Jl{K:W.Frag}{dl:Dl}{H:Hp}:∀{xs:List T}{vs:List V}{F:List Addr}{ks:List Key},ai K dl H vs xs F->rJ xs=some ks->vs=ks.map kV
 | [],_,_,_,h,e=>by cases h;cases e;rfl
 | x::r,_,_,_,h,e=>by
  cases h with
  | cons h1 h2 =>
   unfold rJ at e
   split at e
   ·next k ks e1 e2 =>
    cases e;rw[h1.key e1,ai.Jl h2 e2];rfl
   ·cases e
theorem aF.LX{K:W.Frag}{dl:Dl}{H:Hp}:∀{ks:List Key}{vs:List V}{ts:List T}{F:List Addr},ai K dl H vs ts F->F = []->aF K dl H (ks.zip vs) (ks.zip ts) []
 | [],_,_,_,_,_=>.nil
 | _::_,_,_,_,.nil,_=>.nil
 | k::ks,_,_,_,.cons (F:=F) (G:=G) h r,e=>by
  obtain⟨e1,e2⟩:=Ry.mp e;subst e1 e2;exact .cons (F:=[]) h (aF.LX r rfl)
section
variable{X:Cx}{K:W.Frag}{a b:Expr}{tl:TA}{ql:QA}{pos p bP p2:Pos}
def CP(t2:Bool)(ql:QA):QE:=fun q Q=>ql q fun ts=>match ts with
 | [.l xs,.t ys]=>t2=true/\T.ims ys=true/\∃ ks,rJ xs=some ks/\Q (.d (jM [] (ks.zip ys)))
 | [.l xs,.zl ys]=>t2=false/\T.ims ys=true/\∃ ks,rJ xs=some ks/\Q (.d (jM [] (ks.zip ys)))
 | _=>False
theorem xa{t2:Bool}(hg:Gl X "dict")(hm:X.mg "dict" = none)(hg2:Gl X "zip")(hm2:X.mg "zip" = none)(ha:QPA X K [a,b] tl ql)(hK:X.K=K:=by rfl)(hs:L9 [a,b] X.env = [(false,eval a X.env),(false,eval b X.env)]:=by rfl)(hs2:L9 [b] X.env = [(false,eval b X.env)]:=by rfl)
  (hs3:L9 [.Call (.Name "zip" p2) [a,b] [] bP] X.env =(false,eval (.Call (.Name "zip" p2) [a,b] [] bP) X.env)::L9 [] X.env:=by rfl) (hc:X.calm=true:=by rfl) :
  QPF X K (.Call (.Name "dict" p) [.Call (.Name "zip" p2) [a,b] [] bP] [] pos) (uR K false t2 tl) (CP t2 ql):=⟨by subst hK;exact xp hg hm hg2 hm2 ha.h hs hs2 hs3 hc,fun dl H σ q Q R rd hq k=>ha.s dl H σ q _ _ rd hq fun vs ts F H1 e1 r1 l1 hz=>by
 have go:∀{v1 v2:V}{xs ys:List T}{F1:List Addr},aq K dl H1 v1 (.l xs) F1 ->(∃ l2 ws G,v2 = .ref l2/\SqB K t2 H1 l2 ws/\ai K dl H1 ws ys G)->T.ims ys=true ->(∃ ks,rJ xs=some ks/\Q (.d (jM [] (ks.zip ys)))) ->
   ∃(l1 l2:Addr)(ks:List Key)(ws:List V),[v1,v2] = [.ref l1,.ref l2]/\SqB K false H1 l1 (ks.map kV)/\SqB K t2 H1 l2 ws/\∀ d,H1 d=none->R (.ref d) (upd H1 d (.dK (d7 [] (ks.zip ws)))):=by
  rintro v1 v2 xs ys F1 h1 ⟨l2,ws,G,rfl,h2,h3⟩ im ⟨ks,ek,hq⟩
  obtain⟨l,vs,G1,rfl,rfl,a1,a2⟩:=h1.lst;obtain rfl:=ai.Jl a2 ek;obtain rfl:=h3.im im;refine⟨l,l2,ks,ws,rfl,SqL.of a1,h2,fun d hd=>?_⟩
  have rk:aF K dl H1 (d7 [] (ks.zip ws)) (jM [] (ks.zip ys)) []:=aF.jM (kvs':=[]) (kts':=[]) (aF.LX h3 rfl) rfl .nil;have e2:=(Evo.refl e1.d).new (o:=.dK (d7 [] (ks.zip ws))) hd;exact k _ _ [d] _ (e1.new hd) ⟨.d ar (rk.cL (e2.tf e1.d) (fun _ z=>z) fun _ z=>nomatch z),fun b hb=>by rw[Es.mp hb];exact e1.d.nd0 hd⟩ (fun b hb=>by rw[Es.mp hb];exact e1.free hd) (by simp) hq
 split at hz
 ·obtain⟨rfl,im,hz⟩:=hz;cases r1.r with
  | cons h1 r=>cases r with
   | cons h2 r2 =>
    cases r2;obtain⟨l2,ws,rfl,b1,b2⟩:=h2.tup;exact go h1 ⟨l2,ws,_,rfl,SqT.of b1,b2⟩ im hz
 ·obtain⟨rfl,im,hz⟩:=hz;cases r1.r with
  | cons h1 r=>cases r with
   | cons h2 r2 =>
    cases r2;obtain⟨l2,o,ws,rfl,_,b1,b2⟩:=h2.zls;exact go h1 ⟨l2,ws,_,rfl,.inl (.inr ⟨o,b1⟩),b2⟩ im hz
 ·exact hz.elim⟩
end
end L2
namespace PySem
open Sem (wp)
section
variable{prog:Program}{w:World}{A:Around}{R:Result->Shared->Prop}{I:Addr}{fp wr:List Addr}{n:Nat}{P:Nat->Value->Prop}{St:Nat->Heap->Prop}{kw:List (Str×Value)}
theorem AK(W:Walks prog w A.in1 I fp wr n P St)(bt:Nat->Nat->Bool)(Qc:CmpOf prog w A.in1 .Gt P bt)(S:Addr)(hSf:S ∉ fp) :
  ∀(k j:Nat)(s:Shared)(vb:Value)(c:Nat),n - (j+1)=k->j+1<=n->St (j+1) s.heap->P (argBest bt j) vb ->
  s.heap.get? S=some { cls:=.type "list",dict:=none,data:=.seq #[vb,vb] c,slots:=#[] } ->
  (∀ v h' tk,P (argBest bt (n - 1)) v ->(∀ b o,b ∉ wr->b≠S->s.heap.get? b=some o->h'.get? b=some o)->R (.ok (.ret v)) { s with heap:=h',toks:=tk }) ->
  codeAny (model prog w) A (.builtin "max.loop" ⟨[.ref I,.none,.ref S],kw⟩) R s:=by
 have hSw:S ∉ wr:=fun h=>hSf (W.sub _ h)
 have pQ:(toString "max" ++ toString ".loop":String) = "max.loop":=by decide
 intro k
 induction k with
 | zero =>
  intro j s vb c hk hj hst hPb hS hR;have hin:j+1=n:=by omega
  refine Sn F.entry_max_loop ?_;rw[RV F.plain_max_loop _];show wpAny _ A.in1 (seqItems? (.ref S) >>= _) _ _ s;refine j2 (wpAny_seqItems hS rfl ?_);show wpAny _ A.in1 (tryCatch (pyNext (.ref I)) _ >>= _) _ _ s;refine j2 (wpAny_tryCatch (W.done s _ _ (hin▸hst) fun h' tk hk'=>?_))
  have hS':=hk' S _ hSw hS;show wpAny _ A.in1 (updateSeq S (fun _=>#[]) >>= _) _ _ _
  refine j2 ?_;refine RR hS' rfl (j2 (wpAny_letGo (Lb ?_)));refine hR vb _ tk (by rw[<- hin];exact hPb) fun b o hbw hbS e=>(Rc _ _ (Ne.symm hbS)).trans (hk' b o hbw e)
 | succ k ih =>
  intro j s vb c hk hj hst hPb hS hR;have hlt:j+1<n:=by omega
  refine Sn F.entry_max_loop ?_;rw[RV F.plain_max_loop _];show wpAny _ A.in1 (seqItems? (.ref S) >>= _) _ _ s;refine j2 (wpAny_seqItems hS rfl ?_);show wpAny _ A.in1 (tryCatch (pyNext (.ref I)) _ >>= _) _ _ s;refine j2 (wpAny_tryCatch (W.item (j+1) s _ _ hlt hst fun v h' tk hP AZ hk'=>?_))
  have hS':=hk' S _ hSw hS;show wpAny _ A.in1 (tryCatch (holding [v,v] (richCompare .Gt v vb >>= _)) _ >>= _) _ _ _;refine j2 (wpAny_tryCatch (Rn (j2 (Qc (j+1) (argBest bt j) v vb _ _ _ hP hPb ?_))));refine j2 (Rn (wpAny_truthy_bool ?_));refine j2 (wpAny_letGo (Lb ?_));cases hb:bt (j+1) (argBest bt j)with
  | true =>
   simp only[if_true];refine j2 ?_;refine RR hS' rfl (j2 (wpAny_letGo ?_));rw[pQ];refine Lb ⟨R4 F.plain_max_loop _,ih (j+1) _ v _ (by omega) hlt (W.frame _ _ _ AZ fun b hbf o e=>?_) (by simp only[argBest,hb,if_true];exact hP) (Rv _ hS' rfl)
    fun v' h'' B2 hP' DV=>?_⟩
   ·exact(Rc _ _ (fun h:S=b=>hSf (by rw[h];exact hbf))).trans e
   ·exact hR v' h'' B2 hP' fun b o hbw hbS e=>DV b o hbw hbS ((Rc _ _ (Ne.symm hbS)).trans (hk' b o hbw e))
  | false =>
   simp only[RH,if_false];refine j2 (wpAny_letGo ?_);rw[pQ];refine Lb ⟨R4 F.plain_max_loop _,ih (j+1) _ vb c (by omega) hlt AZ (by simp only[argBest,hb,RH,if_false];exact hPb) hS' fun v' h'' B2 hP' DV=>?_⟩
   exact hR v' h'' B2 hP' fun b o hbw hbS e=>DV b o hbw hbS (hk' b o hbw e)
end
theorem F.Bl(a d:Value):argsOk "max" ⟨[a],[("default",d)]⟩:=by unfold argsOk;kernel_rfl
section
variable{prog:Program}{w:World}{A:Around}{E:Value->Shared->Prop}{s:Shared}
theorem ni{id:String}{b:Builtin}{args:List Value}{kw:List (Str×Value)}{Q:Value->Shared->Prop}(hk:builtinKind id=none)(hp:plainId id=true)(hb:entryFor table id=some b)(ha:argsOk id ⟨args,kw⟩)
  (hc:wpAny (model prog w) A.in1 (b ⟨args,kw⟩) (fun fin s'=>match fin with
   | .done f=>(match(Except.ok f:Result)with | .ok (.ret v)=>Q v s' | .ok _=>False | .error e=>E e s')
   | .again c'=>c'.quiet=true/\codeAny (model prog w) A c' (fun r s'=>match r with | .ok (.ret v)=>Q v s' | .ok _=>False | .error e=>E e s') s') E s) :
  wpAny (model prog w) A (call (.builtin id) args kw) Q E s:=by
 refine wpAny_call (codeAny_call_builtin hp hb ?_);simp only[checkBuiltinCall,hk];cases P4:Manifest.signature? id with
 | none=>exact Lb hc
 | some sig =>
  simp only[argsOk,P4]at ha;have h2:Bind.checkArgs id sig ⟨args,kw⟩=pure ():=ha;show wpAny _ A.in1 (Bind.checkArgs id sig ⟨args,kw⟩) _ _ s;rw[h2];exact Lb hc
theorem Bh{l:Addr}{its:Array Value}{d:Value}{Q:Value->Shared->Prop}(val:Nat->Int)(hh:A.handled=none)(hl:s.heap.IsList l its)(hv:∀(i:Nat) v,its[i]? = some v->∃ t,v = .int (val i) t)
  (hQ:∀ v h' tk,(its.size=0->v=d) ->(0<its.size->its[argBest (fun i j=>decide (val i > val j)) (its.size - 1)]? = some v) ->(∀ b o,s.heap.get? b=some o->h'.get? b=some o)->Q v { s with heap:=h',toks:=tk }) :
  wpAny (model prog w) A (call (.builtin "max") [.ref l] [("default",d)]) Q E s:=by
 have pQ:(toString "max" ++ toString ".loop":String) = "max.loop":=by decide
 obtain⟨ol,hol,hcl,nl,hdl⟩:=id hl;refine ni F.kind_max F.plain_max F.entry_max (F.Bl _ _) ?_;show wpAny _ A.in1 (Builtin.Builtins.bindParams "max" ["key","default"] 0 ⟨[],[("default",d)]⟩ >>= _) _ _ s;refine j2 (RX (show Builtin.Builtins.bindParams "max" ["key","default"] 0 ⟨[],[("default",d)]⟩=pure [none,some d]from by kernel_rfl) ?_)
 refine j2 (Lb ?_);refine j2 (wpAny_pyIter_list hl ?_);refine j2 (Ro ?_);rw[pQ];have hlt:l<s.heap.objs.size:=QW hol;have hsz:∀ o:Obj,(s.heap.push o).objs.size=s.heap.objs.size+1:=fun o=>Rb _ _
 have W:=Walks.list (prog:=prog) (w:=w) (A:=A.in1) hh s.heap.objs.size l (Rg hlt) its;have hst:(fun i (h:Heap)=>h.IsListIter s.heap.objs.size l i/\h.IsList l its) 0 ((s.heap.push { cls:=.type "list_iterator",data:=.fields #[.ref l,.int 0 0] }).push { cls:=.type "list",data:=.seq ([]:List Value).toArray }) :=
  ⟨⟨_,j3 _ (QV _ rfl),rfl,rfl⟩,⟨ol,j3 _ (j3 _ hol),hcl,nl,hdl⟩⟩
 have hS:((s.heap.push { cls:=.type "list_iterator",data:=.fields #[.ref l,.int 0 0] }).push { cls:=.type "list",data:=.seq ([]:List Value).toArray }).get? (s.heap.objs.size+1)=some { cls:=.type "list",dict:=none,data:=.seq #[],slots:=#[] }:=by
  rw[<- hsz];exact QV _ rfl
 have hSf:s.heap.objs.size+1 ∉ [s.heap.objs.size,l]:=fun z=>by
  rcases QH.mp z with z|z
  ·exact absurd z (RI (R5 _))
  ·exact absurd (Es.mp z) (RI (Sb hlt))
 have hSw:s.heap.objs.size+1 ∉ [s.heap.objs.size]:=fun z=>hSf (QH.mpr (.inl (Es.mp z)))
 have up:∀ b o,s.heap.get? b=some o ->((s.heap.push { cls:=.type "list_iterator",data:=.fields #[.ref l,.int 0 0] }).push { cls:=.type "list",data:=.seq ([]:List Value).toArray }).get? b=some o:=fun b o e=>j3 _ (j3 _ e)
 have old:∀ b o,s.heap.get? b=some o->b ∉ [s.heap.objs.size]/\b≠s.heap.objs.size+1:=fun b o e=>by
  have:@LT.lt Nat _ b s.heap.objs.size:=QW e
  exact⟨fun z=>Rg this (Es.mp z),Rg (Sb this)⟩
 rw[hsz];refine Lb ⟨R4 F.plain_max_loop _,Sn F.entry_max_loop ?_⟩;rw[RV F.plain_max_loop _];show wpAny _ A.in1 (seqItems? (.ref (s.heap.objs.size+1)) >>= _) _ _ _;refine j2 (wpAny_seqItems hS rfl ?_);show wpAny _ A.in1 (tryCatch (pyNext (.ref s.heap.objs.size)) _ >>= _) _ _ _;by_cases h0:its.size=0
 ·refine j2 (wpAny_tryCatch (W.done _ _ _ (by rw[h0];exact hst) fun h' tk hk'=>?_))
  refine j2 (R9 (Lb ?_));exact hQ d h' tk (fun _=>rfl) (fun z=>absurd z (by omega)) fun b o e=>hk' b o (old b o e).1 (up b o e)
 ·refine j2 (wpAny_tryCatch (W.item 0 _ _ _ (by omega) hst fun v h' tk hP AZ hk'=>?_))
  have hS':=hk' _ _ hSw hS;show wpAny _ A.in1 (updateSeq (s.heap.objs.size+1) (fun _=>#[v,v]) >>= _) _ _ _
  refine j2 ?_;refine RR hS' rfl ?_;rw[pQ];refine Lb ⟨R4 F.plain_max_loop _,AK W _ (CmpOf.ints_gt val hv) (s.heap.objs.size+1) hSf _ 0 _ v _ rfl (by omega) (W.frame _ _ _ AZ fun b hbf o e=>?_) hP (Rv _ hS' rfl) fun v' h'' B2 hP' DV=>?_⟩
  ·exact(Rc _ _ (fun h=>hSf (by rw[h];exact hbf))).trans e
  ·exact hQ v' h'' B2 (fun z=>absurd z h0) (fun _=>hP') fun b o e=>DV b o (old b o e).1 (old b o e).2 ((Rc _ _ (Ne.symm (old b o e).2)).trans (hk' b o (old b o e).1 (up b o e)))
end
end PySem
namespace L2
open PySem PySem.Spec PyProof.Rows
def l8(ns:List Int)(d:Int):Int:=match ns with
 | []=>d
 | x::r=>r.foldl max x
theorem foldl_max:∀(r:List Int)(x:Int),(r.foldl max x=x\/r.foldl max x∈r)/\x<=r.foldl max x/\∀ y∈r,y<=r.foldl max x
 | [],x=>⟨.inl rfl,RO _,fun _ h=>nomatch h⟩
 | y::r,x=>by
  obtain⟨h1,h2,h3⟩:=foldl_max r (max x y);refine⟨?_,RU (Int.le_max_left x y) h2,fun z hz=>?_⟩
  ·rcases h1 with h1|h1
   ·show List.foldl max (max x y) r=x\/List.foldl max (max x y) r∈y::r;rw[h1];by_cases e:x<=y
    ·rw[Int.max_eq_right e];exact .inr qr
    ·rw[Int.max_eq_left (by omega)];exact .inl rfl
   ·exact .inr (j5 _ h1)
  ·rcases QH.mp hz with rfl|hz
   ·exact RU (SV x _) h2
   ·exact h3 z hz
theorem zg{ns:List Int}{d M:Int}(h1:M∈ns)(h2:∀ y∈ns,y<=M):M=l8 ns d:=by
 cases ns with
 | nil=>cases h1
 | cons x r =>
  obtain⟨a1,a2,a3⟩:=foldl_max r x;show M=r.foldl max x;refine Int.le_antisymm ?_ ?_
  ·rcases QH.mp h1 with rfl|h
   ·exact a2
   ·exact a3 M h
  ·rcases a1 with a1|a1
   ·rw[a1];exact h2 x qr
   ·exact h2 _ (j5 _ a1)
variable{x:Str}{pos':Pos}{C:Addr}{P:Program}{mg:Str->Option Value}{base:Heap}{CX:CXT}{fd:FuncData}{ps:List Str}
section
variable{X:Cx}{K:W.Frag}{e b:Expr}{es:List Expr}{te td tv:TE}{qe qd qv:QE}{p pos kpos:Pos}
theorem vW{ns:List Int}(h:0<ns.length):∃ M,ns[argBest (fun i j=>decide (ns.getD i 0 > ns.getD j 0)) (ns.length - 1)]? = some M/\M=l8 ns 0:=by
 obtain⟨h1,h2⟩:=argBest_gt (fun i=>ns.getD i 0) (ns.length - 1)
 have hlt:argBest (fun i j=>decide (ns.getD i 0 > ns.getD j 0)) (ns.length - 1)<ns.length:=by omega
 refine⟨_,QU hlt,zg (Ru hlt) fun y hy=>?_⟩
 obtain⟨j,hj,rfl⟩:=List.getElem_of_mem hy
 have:=h2 j (by omega)
 rw[RC,RC,QU hj,QU hlt]at this;exact this
theorem fP:∀{ns:List Int}{its:List Value},Vals (ns.map V.int) its->∀(i:Nat)(v:Value),its[i]? = some v->∃ t,v = .int (ns.getD i 0) t
 | [],_,h,i,v,e=>by cases h;simp at e
 | n::r,_,h,i,v,e=>by
  cases h with
  | cons h1 h2 =>
   cases i with
   | zero =>
    simp at e;obtain⟨t,e1⟩:=h1;exact⟨t,by rw[<- e,e1];rfl⟩
   | succ i =>
    obtain⟨t,e1⟩:=fP h2 i v (by simpa using e)
    exact⟨t,by rw[e1];rfl⟩
def II(K:W.Frag)(te:TE)(d:Int):TE:=fun σ H Q=>te σ H fun v H1=>∃ l ns,v = .ref l/\SqL K H1 l (ns.map V.int)/\Q (.int (l8 ns d)) H1
theorem GR{d:Int}{j1}{p3:Pos}(hg:Gl X "max")(hm:X.mg "max" = none)(he:PE X e te)(hc:X.calm=true)(hs:L9 [e] X.env = [(false,eval e X.env)]:=by rfl) :
  PE X (.Call (.Name "max" p) [e] [⟨some "default",.Constant (.int d) j1 p3,kpos⟩] pos) (II X.K te d):=by
 intro j0 s σ H Q I h;refine Rr (gp (u:=.builtin "max") I hg hm (by kernel_rfl) ?_)
 refine PyProof.Rows.callWith_kw ?_ (by rw[hs];rfl) (by rw[hs];rfl)
 rw[hs];show wpAny _ _ (spliced ((false,eval e X.env)::backTo pos (L9 [] X.env))) _ _ s;refine Calls.spliced_cons (thn (he j0 s σ H _ I h) fun u s1 hPP=>?_)
 obtain⟨x,H1,I1,r1,l,ns,ex,hl,q⟩:=hPP;subst ex;cases r1;refine Calls.spliced_nil ?_;refine thn (GP (X:=X) (nm:=some "default") (kpos:=kpos) (a7 (X:=X) (i:=d) (j:=j1) (pos:=p3)) Ky pos j0 s1 σ H1 (fun vs H2=>vs = [.int d]/\H2=H1) I1 ⟨rfl,rfl⟩) fun us s2 hPP=>?_
 obtain⟨vs,H2,I2,rv,e1,e2⟩:=hPP;subst e1 e2;obtain⟨ud,rfl,t,rfl⟩:=vals1 rv;obtain⟨its,rl,pl,hz⟩:=I2.list hl;have hlen:=rl.length;rw[QR]at hlen;show wpAny _ _ (call (.builtin "max") [.ref l] [("default",.int d t)]) _ _ _;refine Bh (fun i=>ns.getD i 0) (I.ok.hd hc) pl.isList (fun i v ei=>fP rl i v (by simpa using ei)) fun v h' tk z0 z1 hk=>?_
 rw[P2]at z0 z1;by_cases h0:its.length=0
 ·have hn:ns = []:=Ss.mp (by omega)
  subst hn;rw[z0 h0];exact⟨.int d,_,I2.kept hk,⟨_,rfl⟩,q⟩
 ·have:=z1 (by omega)
  obtain⟨M,hM,eM⟩:=vW (ns:=ns) (by omega)
  rw[<- hlen]at this;rw[Sy]at this;obtain⟨t',rfl⟩:=fP rl _ v this;have e3:l8 ns d=l8 ns 0:=by cases ns with|nil=>simp at hlen;omega|cons _ _=>rfl
  refine⟨.int (l8 ns d),_,I2.kept hk,⟨t',?_⟩,q⟩;rw[e3,<- eM,RC,hM];rfl
def MF(d:Int)(qe:QE):QE:=fun q Q=>qe q fun t=>match t with
 | .l xs=>∃ ns:List Int,xs=ns.map .i/\Q (.i (l8 ns d))
 | _=>False
theorem ai.DN{dl:Dl}{H:Hp}:∀{ns:List Int}{vs:List V}{F:List Addr},ai K dl H vs (ns.map T.i) F->vs=ns.map V.int/\F = []
 | [],_,_,h=>by cases h;exact⟨rfl,rfl⟩
 | w::r,_,_,h=>by
  cases h with
  | cons h1 h2 =>
   cases h1;obtain⟨rfl,rfl⟩:=ai.DN h2;exact⟨rfl,rfl⟩
theorem Gw{d:Int}{j1}{p3:Pos}(hm:X.mg "max" = none)(he:QPE X K e te qe)(hg:Gl X "max":=by exact rfl)(hK:X.K=K:=by rfl)(hc:X.calm=true:=by rfl)(hs:L9 [e] X.env = [(false,eval e X.env)]:=by rfl) :
  QPF X K (.Call (.Name "max" p) [e] [⟨some "default",.Constant (.int d) j1 p3,kpos⟩] pos) (II K te d) (MF d qe):=⟨by subst hK;exact GR hg hm he.h hc hs,fun dl H σ q Q R rd hq k=>he.s dl H σ q _ _ rd hq fun v t F H1 e1 r1 hz=>by
 split at hz
 ·obtain⟨ns,rfl,hz⟩:=hz;obtain⟨l,vs,G,rfl,rfl,h1,h2⟩:=r1.r.lst;obtain⟨rfl,rfl⟩:=h2.DN;exact⟨l,ns,rfl,SqL.of h1,k _ _ [] H1 e1 (.c (.i _)) (fun _ z=>nomatch z) QG hz⟩
 ·exact hz.elim⟩
theorem Bg(hc:X.calm=true):dJ X (.builtin "max") (fun xs H Q=>∃ l ns,xs = [.ref l]/\SqL X.K H l (ns.map V.int)/\ns ≠ []/\Q (.int (l8 ns 0)) H):=by
 intro j0 s σ H xs us Q I r h;obtain⟨l,ns,rfl,hl,hne,q⟩:=h;obtain⟨u,rfl,ru⟩:=vals1 r;cases ru;obtain⟨its,rl,pl,hz⟩:=I.list hl;have hlen:=rl.length;rw[QR]at hlen;have Nw:0<ns.length:=Ta.mpr hne;refine call_max_walk (wpAny_pyIter_list pl.isList ?_);obtain⟨ol,hol,hcl,nl,hdl⟩:=id pl.isList;have hlt:l<s.heap.objs.size:=QW hol;refine⟨_,_,_,_,_,_,_,rfl,Walks.list (A:=X.A.in1) (I.ok.hd hc) _ l (Rg hlt) its.toArray,⟨⟨_,QV _ rfl,rfl,rfl⟩,⟨ol,j3 _ hol,hcl,nl,hdl⟩⟩,fun b hb=>?_,by rw[P2];omega,CmpOf.ints_gt (fun i=>ns.getD i 0) (fun i v ei=>fP rl i v (by simpa using ei)),fun v h' tk hP hk=>?_⟩
 ·rw[Rb];rcases QH.mp hb with z|z
  ·rw[z];exact R5 _
  ·rw[Es.mp z];exact Sb hlt
 ·rw[P2,<- hlen,Sy]at hP;obtain⟨M,hM,eM⟩:=vW (ns:=ns) Nw;obtain⟨t',rfl⟩:=fP rl _ v hP;refine⟨.int (l8 ns 0),_,I.kept (fun b o e=>hk b o (fun z=>?_) (j3 _ e)),⟨t',?_⟩,q⟩
  ·have:=QW e
   rw[Es.mp z]at this;exact RZ _ this
  ·rw[<- eM,RC,hM];rfl
theorem yf(hK:X.K=K)(hc:X.calm=true):dJ X (.builtin "max") (fun xs H Q=>∃ l ns,xs = [.ref l]/\SqL K H l (ns.map V.int)/\ns ≠ []/\Q (.int (l8 ns 0)) H):=by subst hK;exact Bg hc
theorem Cf:vY K (fun xs H Q=>∃ l ns,xs = [.ref l]/\SqL K H l (ns.map V.int)/\ns ≠ []/\Q (.int (l8 ns 0)) H) (fun ts Q=>match ts with | [.l xs]=>∃ ns:List Int,xs=ns.map .i/\ns ≠ []/\Q (.i (l8 ns 0)) | _=>False):=fun dl H vs ts F Q R D r hq k=>by
 dsimp only at hq
 split at hq
 ·obtain⟨v,rfl,r1⟩:=r.one;obtain⟨ns,rfl,hne,hq⟩:=hq;obtain⟨l,vs,G,rfl,rfl,h1,h2⟩:=r1.r.lst;obtain⟨rfl,rfl⟩:=h2.DN;exact⟨l,ns,rfl,SqL.of h1,hne,k _ _ [] H (.refl D) (.c (.i _)) (fun _ z=>nomatch z) QG hq⟩
 ·exact hq.elim
def MM(i:Nat)(qe:QE):QS:=fun D q=>∃ n,q[i]? = some (.o (.i n))/\qe q fun t=>match t with
 | .i m=>D.nx (q.set i (.o (.i (n+m))))
 | _=>False
theorem Gs{i:Nat}(hN:X.N.Nodup)(he:QPE X K e te qe)(hi:X.N[i]? = some x:=by rfl)(hx:Loc X.env.scope x:=by first|exact .inl rfl|exact .inr rfl)(hf:X.fn x=true\/X.env.scope.names.lookup x=some .local:=by first|exact .inl rfl|exact .inr rfl|assumption) :
  QPS X K (.AugAssign (.Name x pos') .Add e pos) (L8 i te (ipI fun i j=>i+j)) (MM i qe):=⟨Kn hN hi hx he.h La hf,fun dl H₀ hs H σ q Dq D ⟨F,r⟩ hq E=>by
 obtain⟨n,hq0,hq⟩:=hq;obtain⟨v,hv,rp⟩:=r.g i _ _ hq0 rfl;obtain⟨rfl,hF⟩:=rp.r.int;refine⟨_,hv,he.s dl H σ q _ _ r.rd hq fun w t Fw H1 e1 r1 hz=>?_⟩
 split at hz
 ·rename_i m;obtain⟨rfl,_⟩:=r1.r.int;exact⟨n,m,rfl,rfl,E.nx H1 _ _ (r.dQ e1 (.c (.i (n+m))) (fun _ z=>nomatch z) QG) hz⟩
 ·exact hz.elim⟩
def ML(C:Addr)(f:Str)(qe:QE):QE:=fun q Q=>qe q fun t=>match t with
 | .om _ C' ns ts=>C'=C/\∃ u,(ns.zip ts).lookup f=some u/\Q u
 | _=>False
theorem oz{f:Str}(hc:Cls K C)(hn:bc K C f)(he:QPE X K e te qe)(hb:attributeBase e f X.env (eval e X.env)=eval e X.env:=by rfl)(hK:X.K=K:=by rfl):QPE X K (.Attribute e f pos) (JQ K te f) (ML C f qe) :=
 ⟨by subst hK;exact C9 he.h hb,fun dl H σ q Q R rd hq k=>he.s dl H σ q _ _ rd hq fun v t F H1 e1 r1 hz=>by
  split at hz
  ·obtain⟨rfl,u,hu,hz⟩:=hz;obtain⟨dx,vs,G,rfl,rfl,h1,h2,h3,h4⟩:=r1.r.omm;obtain⟨w1,Fc,G1,l1,l2,l3,_⟩:=h4.fld hu;exact⟨_,_,dx,_,w1,rfl,h1,hc,hn,l1,k w1 u Fc H1 e1 ⟨l2,fun b hb=>r1.n b (j5 _ (j5 _ (l3.mem_iff.mpr (QP _ hb))))⟩ hz⟩
  ·exact hz.elim⟩
theorem aQ.PF{w:World}{k:Nat}{f:Addr}{pl:ju}(h:∀ ts Q,¬ pl ts Q):aQ P w K mg base CX k f fd ps (spL K 0 pl):=⟨fun vs H Q E z=>by
 obtain⟨_,ts,_,_,_,Qp,_,_,_,_,_,_,_,z,_⟩:=z;exact(h _ _ z).elim,fun A outer s H args us vs Q E _ _ _ _ z=>by
 obtain⟨_,ts,_,_,_,Qp,_,_,_,_,_,_,_,z,_⟩:=z;exact(h _ _ z).elim⟩
end
def Itm(lo:Int)(n:Nat):It:=⟨fun i _=>i<n,fun i H x H'=>H'=H/\x = .int (lo - i),fun i _=>n<=i⟩
variable{tg:Expr}
theorem uQ{w:World}{K:W.Frag}(it:Addr)(lo:Int)(n:Nat):Turn P w K tg (Itm lo n) [it] it (fun i h=>IsRangeIter h it (lo+(i:Nat)*(-1)) ((n:Int) - (i:Nat)) (-1)) where
 mem:=by simp
 obj:=fun i h st b hb=>by
  have e:b=it:=by simpa using hb
  subst e;exact⟨_,st,fun v z=>by
   have z':Data.fields _=Data.cell v:=z;cases z'⟩
 keep:=fun i h h' st k=>k it (by simp) _ st
 item:=by
  intro X hP hw hK hc i j0 s σ H E I hf st hg;subst hP hw hK;obtain⟨f0,f1,f2,f3,f4,f5⟩:=hf it (by simp)
  have W:=Walks.range (prog:=X.prog) (w:=X.w) (I.ok.hd hc) it lo (-1) n;refine W.item i s _ _ hg st fun v h' tk hv st' kk=>?_
  obtain⟨t,rfl⟩:=hv;have I1:Inv X j0 σ H { s with heap:=h',toks:=tk }:=I.turned (fun b o hb e=>kk b o (by simpa using hb) e) f0 f1 f3 f4 f5
  refine⟨_,rfl,zr (s:={ s with heap:=h',toks:=tk }) (n:="range_iterator") st' rfl rfl (by decide) ⟨.int (lo - i),H,I1,⟨t,?_⟩,⟨rfl,rfl⟩,st',fun b hb=>(hf b hb).1⟩⟩
  rw[show lo+(i:Int)*(-1)=lo - (i:Int)by omega]
 done:=by
  intro X hP hw hK hc i j0 s σ H E I hf st hg;subst hP hw hK;obtain⟨f0,f1,f2,f3,f4,f5⟩:=hf it (by simp)
  exact wpAny_pyNext_range_end (I.ok.hd hc) st (by have:n<=i:=hg;omega) fun h' eb=>⟨rfl,I.turned (t':=s.toks) (fun b o hb e=>eb b o hb e) f0 f1 f3 f4 f5⟩
 self:=fun _ _ _ _ _ st h=>wpAny_pyIter_rangeiter st h
def Jp(ta:TA):TI:=fun σ H R=>ta σ H fun vs H1=>∃ i j:Int,vs = [.int i,.int j,.int (-1)]/\(-1000000<=i/\i<=1000000 /\ -1000000<=j/\j<=1000000)/\R (Itm i (i - j).toNat) H1
variable{X:Cx}{b:Expr}{p:Pos}{pos:Pos}
theorem Ar{a c:Expr}{ta:TA}(hg:Gl X "range")(hm:X.mg "range" = none)(ha:PA X [a,b,c] ta)(hs:L9 [a,b,c] X.env = [(false,eval a X.env),(false,eval b X.env),(false,eval c X.env)]:=by rfl)(hs2:L9 [b,c] X.env = [(false,eval b X.env),(false,eval c X.env)]:=by rfl) :
  PI X tg (.Call (.Name "range" p) [a,b,c] [] pos) (Jp ta):=by
 intro j0 s σ H R I h;refine Call_ (gp I hg hm boot_range (PyProof.Rows.callWith_type1 (thn (ha pos j0 s σ H _ I h) fun us s1 ⟨vs,H1,I1,r1,q1⟩=>?_) (by rw[hs,hs2]) (by rw[hs2];rfl)))
 obtain⟨i,j,e,⟨q1,q2,q3,q4⟩,q⟩:=q1;subst e;cases r1 with
 | cons r rr =>
  cases rr with
  | cons r' rr =>
   cases rr with
   | cons r'' rr =>
    cases rr;obtain⟨t,rfl⟩:=r;obtain⟨t',rfl⟩:=r';obtain⟨t'',rfl⟩:=r'';refine call_range_3 (by decide) ?_ (Or.inl (PyProof.noPylong_small (by omega)))
    refine wpAny_pyIter_range (IsRange.new ..) ?_ ?_
    ·unfold Builtin.Range.small;have e2:Builtin.Range.rangeSize i j (-1)=if i > j then i - j else 0:=by
      unfold Builtin.Range.rangeSize;rw[if_neg (by decide)]
      simp only[Int.neg_neg,To]
      split <;> omega
     rw[e2];simp only[Builtin.Range.rangeFitsLong,QY,Bool.or_eq_true,decide_eq_true_eq,beq_iff_eq];by_cases hij:i > j
     ·simp only[if_pos hij,show ¬((-1:Int) > 0)by decide,if_false,QY,decide_eq_true_eq];omega
     ·simp only[if_neg hij,show ¬((-1:Int) > 0)by decide,if_false,QY,decide_eq_true_eq];omega
    ·have I2:Inv X j0 σ H1 { s1 with heap:=s1.heap.push { cls:=.type "range",data:=.fields #[.int i t,.int j t',.int (-1) t''] } }:=I1.kept (t':=s1.toks) fun b o e=>j3 _ e
     refine⟨_,[_],_,_,H1,rfl,I2.kept (t':=s1.toks) fun b o e=>j3 _ e,uQ _ i (i - j).toNat,?_,fun b hb=>?_,q⟩
     ·have e2:(((i - j).toNat:Nat):Int) - ((0:Nat):Int)=Builtin.Range.rangeSize i j (-1):=by
       unfold Builtin.Range.rangeSize;rw[if_neg (by decide)]
       simp only[Int.neg_neg,To]
       split <;> omega
      show IsRangeIter _ _ (i+((0:Nat):Int)*(-1)) _ (-1);rw[e2,show i+((0:Nat):Int)*(-1)=i by simp]
      exact QV _ rfl
     ·rw[Es.mp hb];exact I2.HN (QX _) (I2.hok.fresh (QX _))
def uY(lo:Int)(n:Nat):List T:=(Rf n).map fun i=>.i (lo - (i:Nat))
variable{dl:Dl}{lo:Int}{n:Nat}
theorem Hz{K:W.Frag}:yB K dl (Itm lo n) (uY lo n) [] where
 go:=fun H i D h hi=>by
  show i<n;simpa [uY]using hi
 yld:=fun H i x fp v H' D h hx y=>by
  obtain⟨rfl,rfl⟩:=y;unfold uY at hx;rw[Q0]at hx;cases e:(Rf n)[i]? with
  | none=>rw[e]at hx;cases hx
  | some j =>
   rw[e]at hx;have hj:j=i:=by
    have:=Qx.mp e
    obtain⟨h1,h2⟩:=this;simp at h2;exact h2.symm
   subst hj;cases hx;exact⟨.refl D,[],.c (.i _),fun _ z=>nomatch z⟩
 stop:=fun H D h=>by show n<=_;simp[uY]
def Qq(ql:QA):QI:=fun q Q=>ql q fun ts=>match ts with
 | [.i m,.i n,.i c]=>c = -1/\(-1000000<=m/\m<=1000000 /\ -1000000<=n/\n<=1000000)/\Q (uY m (m - n).toNat)
 | _=>False
variable{tl:TA}{ql:QA}
theorem Ah{K:W.Frag}{a c:Expr}(hg:Gl X "range")(hm:X.mg "range" = none)(ha:QPA X K [a,b,c] tl ql)(hs:L9 [a,b,c] X.env = [(false,eval a X.env),(false,eval b X.env),(false,eval c X.env)]:=by rfl)(hs2:L9 [b,c] X.env = [(false,eval b X.env),(false,eval c X.env)]:=by rfl) :
  QPJ X K tg (.Call (.Name "range" p) [a,b,c] [] pos) (Jp tl) (asJ (Qq ql)):=⟨Ar hg hm ha.h hs hs2,fun dl H₀ hs H σ q Q R ⟨F0,r0⟩ hq k=>ha.s dl H σ q _ _ r0.rd hq fun vs ts F H' e1 r _ hz=>by
 split at hz
 ·obtain⟨rfl,hb,hz⟩:=hz;cases r.r with
  | cons h1 rr=>cases rr with
   | cons h2 rr=>cases rr with
    | cons h3 rr =>
     cases rr;obtain⟨rfl,_⟩:=h1.int;obtain⟨rfl,_⟩:=h2.int;obtain⟨rfl,_⟩:=h3.int;exact⟨_,_,rfl,hb,k _ _ [] H' q ⟨F0,r0.evo e1⟩ Hz hz⟩
 ·exact hz.elim⟩
variable{j:Nat}
section
variable{K:W.Frag}{H₀ H H':Hp}{hs:List (V×T)}{σ:St}{q:Sq}{F:Nat->List Addr}{e o:Expr}{te:TE}{qe:QE}{apos aM dq:Pos}
theorem Rel.move{i:Nat}{t:T}{v:V}(r:Rel K dl H₀ hs H σ q F)(hij:i≠j)(hi:i<q.length)(hj:q[j]? = some (.o t))(hv:σ[j]? = some (some v)):gE K dl H₀ hs H (σ.set i (some v)) ((q.set j .no).set i (.o t)):=by
 obtain⟨o1,o2,o3⟩:=r.o j t hj;obtain⟨v',hv',rp⟩:=r.g j _ t hj rfl;rw[hv]at hv';cases hv';have lk:∀{k:Nat}{x:Sl},((q.set j .no).set i (.o t))[k]? = some x ->(k=i/\x = .o t)\/(k≠i/\k=j/\x = .no)\/(k≠i/\k≠j/\q[k]? = some x):=fun{k x} h=>by
  rcases get_set h with⟨e1,e2,_⟩ |⟨e1,e2⟩
  ·exact .inl ⟨e1,e2⟩
  ·rcases get_set e2 with⟨e3,e4,_⟩ |⟨e3,e4⟩
   ·exact .inr (.inl ⟨e1,e3,e4⟩)
   ·exact .inr (.inr ⟨e1,e3,e4⟩)
 refine⟨oS (oS F j []) i (F j),r.d,fun k x u h1 h2=>?_,fun k x h1 h2=>?_,fun k hk=>?_,fun k u h1=>?_,fun p hp=>?_,r.f,by simp[r.l]⟩
 ·rcases lk h1 with⟨rfl,rfl⟩ |⟨n1,rfl,rfl⟩ |⟨n1,n2,h1⟩
  ·cases h2;exact⟨v,by rw[Rx (by rw[<- r.l];exact hi)],by rw[aB];exact rp⟩
  ·cases h2
  ·obtain⟨w,h3,h4⟩:=r.g k x u h1 h2;exact⟨w,by rw[Rq (fun z=>n1 z.symm)];exact h3,by rw[au n1,au n2];exact h4⟩
 ·rcases lk h1 with⟨rfl,rfl⟩ |⟨n1,rfl,rfl⟩ |⟨n1,n2,h1⟩
  ·cases h2
  ·rw[au n1,aB]
  ·rw[au n1,au n2];exact r.n k x h1 h2
 ·rw[Rz,Rz]at hk;have hjl:=(Qx.mp hj).1;rw[au (by omega),au (by omega)]
  exact r.z k hk
 ·have mem:∀{m:Nat}{b:Addr},b∈(oS (oS F j []) i (F j)) m ->(m=i/\b∈F j)\/(m≠i/\m≠j/\b∈F m):=fun{m b} hb=>by
   by_cases e1:m=i
   ·subst e1;rw[aB]at hb;exact .inl ⟨rfl,hb⟩
   ·rw[au e1]at hb;by_cases e2:m=j
    ·subst e2;rw[aB]at hb;cases hb
    ·rw[au e2]at hb;exact .inr ⟨e1,e2,hb⟩
  rcases lk h1 with⟨rfl,_⟩ |⟨_,_,z⟩ |⟨n1,n2,h1⟩
  ·rw[aB];refine⟨o1,o2,fun m hm b hb z=>?_⟩
   rcases mem z with⟨e,_⟩ |⟨_,e2,z⟩
   ·exact hm e
   ·exact o3 m e2 b hb z
  ·cases z
  ·obtain⟨p1,p2,p3⟩:=r.o k u h1;rw[au n1,au n2];refine⟨p1,p2,fun m hm b hb z=>?_⟩
   rcases mem z with⟨_,z⟩ |⟨_,_,z⟩
   ·exact p3 j n2.symm b hb z
   ·exact p3 m hm b hb z
 ·obtain⟨Fp,h1,h2⟩:=r.h p hp;refine⟨Fp,h1,fun k u hk b hb=>?_⟩
  rcases lk hk with⟨rfl,_⟩ |⟨_,_,z⟩ |⟨n1,n2,hk⟩
  ·rw[aB]at hb;exact h2 j t hj b hb
  ·cases z
  ·rw[au n1,au n2]at hb;exact h2 k u hk b hb
def ME(i j:Nat):QS:=fun D q=>i≠j/\i<q.length/\match q[j]? with
 | some (.o t)=>D.nx ((q.set j .no).set i (.o t))
 | _=>False
theorem Gp{i:Nat}(hN:X.N.Nodup)(he:PE X e (di j))(hi:X.N[i]? = some x:=by rfl)(hx:Loc X.env.scope x:=by first|exact .inl rfl|exact .inr rfl)(hs:swapsWith e (some (.Name x pos')) pos.line X.env=pure false:=by rfl)(hf:X.fn x=true\/X.env.scope.names.lookup x=some .local:=by first|exact .inl rfl|exact .inr rfl|assumption) :
  QPS X K (.Assign [.Name x pos'] e pos) (ku (di j) (gw i)) (ME i j):=⟨iL hN hi hx he hs hf,fun dl H₀ hs H σ q Dq D ⟨F,r⟩ hq E=>by
 obtain⟨hij,hl,hq⟩:=hq
 split at hq
 ·rename_i t ej;obtain⟨v,hv,_⟩:=r.g j _ t ej rfl;exact⟨v,hv,E.nx H _ _ (r.move hij hl ej hv) hq⟩
 ·exact hq.elim⟩
def u7(K:W.Frag):V->List V->Hp->VK->Prop:=fun x vs H Q=>∃ l b xs zs,x = .ref l/\vs = [.ref b]/\H l=some (.lst xs)/\SqT K H b zs/\xs.length+zs.length<=QD/\Q .non (upd H l (.lst (xs++zs)))
theorem xC:MtM X "list.extend" (u7 X.K):=by
 intro j0 s σ H x vs v us Q I rx rv h;obtain⟨l,b,xs,zs,rfl,rfl,hH,hB,hz,q⟩:=h;cases rx;obtain⟨u,rfl,ru⟩:=rv.one;cases ru;obtain⟨z,its,n,r,hl,e⟩:=I.xJ hH;obtain⟨bK,r2,p2,z2⟩:=I.tuple hB;obtain⟨o2,e2,hc2,n2,hd2⟩:=(show s.heap.IsTuple b bK.toArray from p2);have hl2:=r2.length;have hsz:its.toArray.size+bK.toArray.size<=QD:=by rw[P2,P2];omega
 have DT:¬(!its.toArray.isEmpty&&Builtin.List.listTooLong (its.toArray.size+bK.toArray.size))=true:=by
  rw[vt hsz,SK];exact QF
 refine Rl F.slot_list_extend ⟨_,e,rfl⟩ F.entry_list_extend ?_ (F.args_list_extend_2 _ _);show wpAny _ _ (Builtin.List.listExtendWith (.ref l) (.ref b) .none) _ _ s;unfold Builtin.List.listExtendWith;refine j2 (RY (T:="tuple") ⟨o2,e2,hc2⟩ ?_);rw[if_pos (by simp)]
 refine j2 (listItems_at e2 hd2 ?_);refine j2 (listItems_at e rfl ?_);rw[if_neg DT];refine j2 (listUpdate_at e rfl ?_ (by rw[P2];omega) (by rw[Tr];omega))
 refine Lb ⟨_,rfl,?_⟩;refine⟨.non,_,I.Hr (its':=its++bK) hH e (by simp) (r.append r2) ?_,rfl,q⟩
 rw[Q9];omega
def Jb(i:Nat)(qe:QE):QS:=fun D q=>match q[i]? with
 | some (.o (.l xs))=>qe q fun t=>match t with
  | .t ys=>T.ims ys=true/\xs.length+ys.length<=QD/\D.nx (q.set i (.o (.l (xs++ys))))
  | _=>False
 | _=>False
theorem Gq{i:Nat}(ho:PE X o (di i))(he:QPE X K e te qe)(hK:X.K=K:=by rfl)(cP:attributeBase o "extend" X.env (eval o X.env)=eval o X.env:=by rfl)
  (k7:((backTo aM (L9 [e] X.env)).all (fun x=>!x.1)&&(backToKw aM (keywordEach [] X.env)).all (fun x=>x.1.isSome)
   && decide (([e]:List Expr).length+([]:List Keyword).length+(if([]:List Keyword).isEmpty then 0 else 1)<30))=true:=by rfl)
  (cO:(apos.endLine==aM.line)=true:=by rfl) (hs:L9 [e] X.env =(false,eval e X.env)::L9 [] X.env:=by rfl) (c7:(backTo aM (L9 [] X.env)).any (·.1)=false:=by rfl)
  (hsw:swapsWith (.Call (.Attribute o "extend" apos) [e] [] aM) none dq.line X.env=pure false:=by rfl) :
  QPS X K (.Expr (.Call (.Attribute o "extend" apos) [e] [] aM) dq) (kE (tBM K "list" (u7 K) (di i) (il te jq))) (Jb i qe) :=
 ⟨iM (by subst hK;exact vo PySem.F.plainAttrs_list PySem.F.slot_list_extend PySem.F.type_list_extend xC ho (cC he.h h8 hs) cP k7 cO hs c7) hsw,fun dl H₀ hs H σ q Dq D ⟨F,r⟩ hq E=>by
 unfold Jb at hq
 split at hq
 ·rename_i xs ei;obtain⟨v,hv,rp⟩:=r.g i _ _ ei rfl;obtain⟨o1,o2,o3⟩:=r.o i _ ei;obtain⟨p,vs,G,rfl,eF,h1,h2⟩:=rp.r.lst;refine⟨_,hv,.inl ⟨rfl,vs,SqL.of h1⟩,he.s dl H σ q _ _ r.rd hq fun w t F' H' e1 r1 hz'=>?_⟩
  split at hz'
  ·rename_i ys;obtain⟨im,hl,hz'⟩:=hz';obtain⟨p2,ws,rfl,h3,h4⟩:=r1.r.tup;obtain rfl:=h4.im im;have pn:Nd dl p:=rp.n p (by rw[eF];exact qr)
   refine⟨p,p2,vs,ws,rfl,rfl,e1.k p _ h1 pn (fun _ z=>nomatch z),SqT.of h3,by rw[h2.len,h4.len];exact hl,?_⟩
   have hG:∀ b∈G,Nd dl b:=fun b hb=>rp.n b (by rw[eF];exact j5 _ hb)
   have rs2:ai K dl H' vs xs G:=h2.cL (e1.tf r.d) (fun _ z=>z) fun b hb o eo=>e1.k b o eo (hG b hb) (.of (h2.there b hb) eo)
   refine E.nx _ σ _ (r.oX ei hv eF e1 (rs2.append h4) ?_ fun b hb=>?_) hz'
   ·rw[eF]at o1;rw[Q6];exact(Q5.mp o1).2
   ·rw[Q6]at hb;exact .inl hb
  ·exact hz'.elim
 ·exact hq.elim⟩
end
section
variable{K:W.Frag}{H:Hp}
def Mn(K:W.Frag):R2:=fun x y H Q=>rNe x y H Q\/∃ dl ts us n F G,aq K dl H x (.t ts) F/\aq K dl H y (.t us) G/\(∀(j:Nat)(x y:T),ts[j]? = some x->us[j]? = some y->Alk n x y)/\n<=100/\∀ c:Bool,(c=true ↔ ts=us)->Q (.bl (!c)) H
theorem xt(hu:X.A.units+150<cLine)(hK:X.K=K):OpR X (compareOp .NotEq) (Mn K):=by
 subst hK;refine OpR.or Df ?_;intro j0 s σ H x y v u Q I rx ry h;obtain⟨dl,ts,us,n,F,G,r1,r2,ht,hn,k⟩:=h;obtain⟨a,vs,rfl,h1,f1⟩:=r1.tup;obtain⟨b,ws,rfl,h2,f2⟩:=r2.tup;cases rx;cases ry;obtain⟨its,q1,p1,_⟩:=I.tuple (SqT.of h1);obtain⟨bK,q2,p2,_⟩:=I.tuple (SqT.of h2);have l1:=q1.length;have l2:=q2.length;have l3:=f1.len;have l4:=f2.len;obtain⟨e,hE,he⟩:=Iy (A:=X.A.in1) I rfl q1 q2 f1 f2 ht (by show X.A.units+1+n<_;omega)
 refine SeqAt.RcNeAt.tuples (A:=X.A) (e:=e) (show s.heap.IsTuple a its.toArray from p1) (show s.heap.IsTuple b bK.toArray from p2) (by omega) hE X.prog X.w X.xe _ ⟨.bl _,H,I,rfl,k _ ?_⟩
 have e1:its.toArray.size=ts.length:=by simp;omega
 have e2:bK.toArray.size=us.length:=by simp;omega
 exact zw (n:=n) e1 e2 he
def MD:Q2:=fun t u Q=>match t,u with
 | .t ts,.t us=>∃ n,n<=100/\(∀(j:Nat)(x y:T),ts[j]? = some x->us[j]? = some y->Alk n x y)/\∀ c:Bool,(c=true ↔ ts=us)->Q (.b (!c))
 | t,u=>qNe t u Q
theorem sj:eV K (Mn K) MD:=by
 intro dl H x y t u F G Q R D r1 r2 hq k;unfold MD at hq
 split at hq
 ·obtain⟨n,hn,ht,hq⟩:=hq;exact .inr ⟨dl,_,_,n,F,G,r1.r,r2.r,ht,hn,fun c hc=>k _ _ [] H (.refl D) (.c (.b _)) (fun _ z=>nomatch z) QG (hq c hc)⟩
 ·exact .inl (wK dl H x y t u F G Q R D r1 r2 hq k)
theorem vX:∀{n:Nat}{t:T},Dep n t->Alk n t t
 | 0,_,h=>by
  rcases h with⟨x,rfl⟩ |⟨x,rfl⟩
  ·exact .inl ⟨x,x,rfl,rfl⟩
  ·exact .inr ⟨x,x,rfl,rfl⟩
 | n+1,_,h=>by
  rcases h with⟨x,rfl⟩ |⟨x,rfl⟩ |⟨ts,rfl,h⟩
  ·exact .inl ⟨x,x,rfl,rfl⟩
  ·exact .inr (.inl ⟨x,x,rfl,rfl⟩)
  ·refine .inr (.inr ⟨ts,ts,rfl,rfl,fun j x y hx hy=>?_⟩)
   rw[hx]at hy;cases hy;exact vX (h x (RK hx))
theorem nk{ts:List T}(hd:∀ x∈ts,Dep n x)(j:Nat)(x y:T)(hx:ts[j]? = some x)(hy:ts[j]? = some y):Alk n x y:=by
 rw[hx]at hy;cases hy;exact vX (hd x (RK hx))
end
end L2
namespace K22
open PySem L2
def top(i:Nat):Stmt:=PySem.Challenge.pw_pursewright_k22_short_at_the_edge.main.body.getD i (.Pass ⟨0,0,0,0⟩)
abbrev iG:Stmt:=inClass (top 3) 0
theorem su:aA ["self","piece","above","arm"] ["self","piece","above","arm"] (ak iG):=⟨rfl,rfl,rfl,by decide +kernel,rfl,by decide +kernel,by decide +kernel⟩
abbrev gW:Stmt:=inClass (top 14) 0
theorem qK:aA ["self","functions","f","values"] ["self","functions","f","values"] (ak gW):=⟨rfl,rfl,rfl,by decide +kernel,rfl,by decide +kernel,by decide +kernel⟩
abbrev cW:Stmt:=inClass (top 14) 1
theorem kP:aA ["self","names"] ["self","names"] (ak cW):=⟨rfl,rfl,rfl,by decide +kernel,rfl,by decide +kernel,by decide +kernel⟩
abbrev fR:Stmt:=inClass (top 14) 2
theorem oT:aA ["self","body","between"] ["self","body","between"] (ak fR):=⟨rfl,rfl,rfl,by decide +kernel,rfl,by decide +kernel,by decide +kernel⟩
abbrev cE:Stmt:=inClass (top 14) 3
theorem kx:aA ["self","value"] ["self","value"] (ak cE):=⟨rfl,rfl,rfl,by decide +kernel,rfl,by decide +kernel,by decide +kernel⟩
abbrev dM:Stmt:=inClass (top 14) 4
abbrev iF:Stmt:=inClass (top 15) 0
theorem sr:aA ["self","program","f","args","coins"] ["self","program","f","args","coins"] (ak iF):=⟨rfl,rfl,rfl,by decide +kernel,rfl,by decide +kernel,by decide +kernel⟩
abbrev iE:Stmt:=inClass (top 15) 1
theorem so:aA ["self"] ["self"] (ak iE):=⟨rfl,rfl,rfl,by decide +kernel,rfl,by decide +kernel,by decide +kernel⟩
abbrev jy:Stmt:=inClass (top 15) 2
abbrev gU:Stmt:=inClass (top 15) 3
theorem qJ:aA ["self"] ["self"] (ak gU):=⟨rfl,rfl,rfl,by decide +kernel,rfl,by decide +kernel,by decide +kernel⟩
abbrev gT:Stmt:=inClass (top 15) 4
theorem qI:aA ["self"] ["self"] (ak gT):=⟨rfl,rfl,rfl,by decide +kernel,rfl,by decide +kernel,by decide +kernel⟩
abbrev jz:Stmt:=inClass (top 15) 5
theorem uV:aA ["self"] ["self"] (ak jz):=⟨rfl,rfl,rfl,by decide +kernel,rfl,by decide +kernel,by decide +kernel⟩
abbrev kN:Stmt:=inClass (top 15) 6
theorem kO:aA ["self","frame","word","f"] ["self","frame"] (ak kN):=⟨rfl,rfl,rfl,by decide +kernel,rfl,by decide +kernel,by decide +kernel⟩
abbrev e8:Stmt:=inClass (top 15) 7
theorem jj:aA ["self","frame","value"] ["self","frame"] (ak e8):=⟨rfl,rfl,rfl,by decide +kernel,rfl,by decide +kernel,by decide +kernel⟩
abbrev e7:Stmt:=inClass (top 15) 8
theorem ji:aA ["self","frame","made"] ["self","frame"] (ak e7):=⟨rfl,rfl,rfl,by decide +kernel,rfl,by decide +kernel,by decide +kernel⟩
abbrev dO:Stmt:=inClass (top 15) 9
theorem iu:aA ["self","frame","word","coins"] ["self","frame","word"] (ak dO):=⟨rfl,rfl,rfl,by decide +kernel,rfl,by decide +kernel,by decide +kernel⟩
abbrev dN:Stmt:=inClass (top 15) 10
theorem mI:aA ["self","ending"] ["self","ending"] (ak dN):=⟨rfl,rfl,rfl,by decide +kernel,rfl,by decide +kernel,by decide +kernel⟩
abbrev nE:Stmt:=top 1
abbrev sx:Stmt:=top 4
theorem lJ:aA ["body","told","waiting","spot"] ["body"] (ak sx):=⟨rfl,rfl,rfl,by decide +kernel,rfl,by decide +kernel,by decide +kernel⟩
abbrev e9:Stmt:=top 5
theorem mG:aA ["piece","number"] ["piece","number"] (ak e9):=⟨rfl,rfl,rfl,by decide +kernel,rfl,by decide +kernel,by decide +kernel⟩
abbrev oU:Stmt:=top 6
theorem Ac:aA ["body"] ["body"] (ak oU):=⟨rfl,rfl,rfl,by decide +kernel,rfl,by decide +kernel,by decide +kernel⟩
abbrev jA:Stmt:=top 8
theorem fD:aA ["value","makers","waiting","thing"] ["value"] (ak jA):=⟨rfl,rfl,rfl,by decide +kernel,rfl,by decide +kernel,by decide +kernel⟩
abbrev wQ:Stmt:=top 9
theorem F7:aA ["value"] ["value"] (ak wQ):=⟨rfl,rfl,rfl,by decide +kernel,rfl,by decide +kernel,by decide +kernel⟩
abbrev sA:Stmt:=top 10
theorem fS:aA ["value","deep","layer","beneath","thing"] ["value"] (ak sA):=⟨rfl,rfl,rfl,by decide +kernel,rfl,by decide +kernel,by decide +kernel⟩
abbrev Cn:Stmt:=top 17
theorem Cm:aA ["program","f","args","coins","most","walk"] ["program","f","args","coins","most"] (ak Cn):=⟨rfl,rfl,rfl,by decide +kernel,rfl,by decide +kernel,by decide +kernel⟩
abbrev wU:Stmt:=top 18
theorem lL:aA ["program","f","args","most","plenty","walk","lowest"] ["program","f","args","most"] (ak wU):=⟨rfl,rfl,rfl,by decide +kernel,rfl,by decide +kernel,by decide +kernel⟩
abbrev kQ:Stmt:=top 19
theorem uU:aA ["walk"] ["walk"] (ak kQ):=⟨rfl,rfl,rfl,by decide +kernel,rfl,by decide +kernel,by decide +kernel⟩
abbrev fU:Stmt:=top 20
theorem bV:aA ["program","greatest","function","coins"] ["program"] (ak fU):=⟨rfl,rfl,rfl,by decide +kernel,rfl,by decide +kernel,by decide +kernel⟩
abbrev wW:Stmt:=top 22
theorem lM:aA ["_law_script","_law_base","_law_cells","_law_number","_law_cell"] ["_law_script","_law_base"] (ak wW):=⟨rfl,rfl,rfl,by decide +kernel,rfl,by decide +kernel,by decide +kernel⟩
abbrev wV:Stmt:=top 23
theorem oq:aA ["_law_deal_here","_law_many","_law_number","_law_one","_law_other"] ["_law_deal_here","_law_many"] (ak wV):=⟨rfl,rfl,rfl,by decide +kernel,rfl,by decide +kernel,by decide +kernel⟩
abbrev sv:Stmt:=top 24
theorem bz:aA ["_law_deal_here","_law_many","_law_letters","_law_core","_law_at","_law_turn","_law_found","_law_k","_law_own","_law_word","_law_near"] ["_law_deal_here","_law_many"] (ak sv):=⟨rfl,rfl,rfl,by decide +kernel,rfl,by decide +kernel,by decide +kernel⟩
abbrev wR:Stmt:=top 25
theorem lK:aA ["_law_deal_here","_law_words_here","_law_line","_law_k","_law_coins","_law_word"] ["_law_deal_here","_law_words_here"] (ak wR):=⟨rfl,rfl,rfl,by decide +kernel,rfl,by decide +kernel,by decide +kernel⟩
abbrev wX:Stmt:=top 26
theorem gI:aA ["_law_words_here","_law_line","_law_body_here","_law_k","_law_word","_law_coins"] ["_law_words_here","_law_line"] (ak wX):=⟨rfl,rfl,rfl,by decide +kernel,rfl,by decide +kernel,by decide +kernel⟩
abbrev Co:Stmt:=top 27
theorem mH:aA ["_law_line","_law_coins","_law_arg","_law_later","_law_k","_law_word","_law_many"] ["_law_line","_law_coins","_law_arg"] (ak Co):=⟨rfl,rfl,rfl,by decide +kernel,rfl,by decide +kernel,by decide +kernel⟩
abbrev sy:Stmt:=top 28
theorem eQ:aA ["_law_line","_law_found","_law_gone","_law_most","_law_word","_law_many"] ["_law_line"] (ak sy):=⟨rfl,rfl,rfl,by decide +kernel,rfl,by decide +kernel,by decide +kernel⟩
abbrev nF:Stmt:=top 29
theorem bZ:aA ["_law_script","_law_deal_here","_law_words_here","_law_line","_law_kinds","_law_program","_law_arg","_law_needs_here","_law_purses","_law_one","_law_coins","_law_end","_law_left","_law_steps","_law_later","_law_walk","_law_purse"] ["_law_script"] (ak nF):=⟨rfl,rfl,rfl,by decide +kernel,rfl,by decide +kernel,by decide +kernel⟩
set_option genInjectivity false in
structure Adr where
 aV:Addr
 bG:Addr
 jZ:FuncData
 ay:Addr
 bh:Addr
 je:FuncData
 aT:Addr
 dE:FuncData
 bj:Addr
 ig:FuncData
 aL:Addr
 c8:FuncData
 aG:Addr
 cx:FuncData
 av:Addr
 bF:Addr
 jY:FuncData
 bQ:Addr
 jX:FuncData
 bJ:Addr
 kK:FuncData
 bE:Addr
 jd:FuncData
 bD:Addr
 jc:FuncData
 cw:Addr
 lg:FuncData
 dh:Addr
 m8:FuncData
 a9:Addr
 gA:FuncData
 a8:Addr
 gy:FuncData
 aZ:Addr
 fv:FuncData
 aY:Addr
 fu:FuncData
 df:Addr
 nK:FuncData
 km:Addr
 zD:FuncData
 bx:Addr
 jm:FuncData
 iC:Addr
 vN:FuncData
 dg:Addr
 nL:FuncData
 mZ:Addr
 Eg:FuncData
 ko:Addr
 zF:FuncData
 rO:Addr
 Jx:FuncData
 m4:Addr
 Ei:FuncData
 d9:Addr
 pX:FuncData
 bM:Addr
 jW:FuncData
 m6:Addr
 Ek:FuncData
 m5:Addr
 Ej:FuncData
 kl:Addr
 zC:FuncData
 m3:Addr
 Eh:FuncData
 m7:Addr
 El:FuncData
 rQ:Addr
 Jz:FuncData
 kn:Addr
 zE:FuncData
 rP:Addr
 Jy:FuncData
structure Txt(K:W.Frag)(mg:Str->Option Value)(a:Adr):Prop where
 mj:Cls K a.aV
 tN:mg "Spot" = some (.ref a.aV)
 tP:Mk K a.aV a.bG
 ib:bc K a.aV "piece"
 qP:bc K a.aV "above"
 vw:bc K a.aV "arm"
 gO:Fun K "__init__" "Spot.__init__" iG a.bG a.jZ
 Hq:Meth K a.aV "__init__" a.bG
 kb:Binds K a.jZ ["self","piece","above","arm"] []
 aC:Cls K a.ay
 vx:mg "Frame" = some (.ref a.ay)
 vy:Mk K a.ay a.bh
 xA:bc K a.ay "f"
 jk:bc K a.ay "number"
 aD:bc K a.ay "piece"
 cv:bc K a.ay "names"
 fM:Fun K "__init__" "Frame.__init__" gW a.bh a.je
 E9:Meth K a.ay "__init__" a.bh
 mq:Binds K a.je ["self","functions","f","values"] []
 cj:Fun K "values_at" "Frame.values_at" cW a.aT a.dE
 gm:Meth K a.ay "values_at" a.aT
 gL:Binds K a.dE ["self","names"] []
 eO:Fun K "go_on" "Frame.go_on" fR a.bj a.ig
 jO:Meth K a.ay "go_on" a.bj
 kL:Binds K a.ig ["self","body","between"] []
 bU:Fun K "go_on_with" "Frame.go_on_with" cE a.aL a.c8
 cK:Meth K a.ay "go_on_with" a.aL
 c9:Binds K a.c8 ["self","value"] []
 cy:Fun K "go_on_in_arm" "Frame.go_on_in_arm" dM a.aG a.cx
 jr:Meth K a.ay "go_on_in_arm" a.aG
 kc:Binds K a.cx ["self"] []
 ax:Cls K a.av
 tM:mg "Walk" = some (.ref a.av)
 tO:Mk K a.av a.bF
 cb:bc K a.av "functions"
 bb:bc K a.av "running"
 eI:bc K a.av "coins"
 i9:bc K a.av "done"
 cu:bc K a.av "ending"
 gN:Fun K "__init__" "Walk.__init__" iF a.bF a.jY
 Ho:Meth K a.av "__init__" a.bF
 ka:Binds K a.jY ["self","program","f","args","coins"] []
 gM:Fun K "turn" "Walk.turn" iE a.bQ a.jX
 ja:Meth K a.av "turn" a.bQ
 j9:Binds K a.jX ["self"] []
 ik:Fun K "frames" "Walk.frames" jy a.bJ a.kK
 Dv:Meth K a.av "frames" a.bJ
 Fn:Binds K a.kK ["self"] []
 fL:Fun K "purse" "Walk.purse" gU a.bE a.jd
 ic:Meth K a.av "purse" a.bE
 jf:Binds K a.jd ["self"] []
 fK:Fun K "steps" "Walk.steps" gT a.bD a.jc
 eJ:Meth K a.av "steps" a.bD
 fJ:Binds K a.jc ["self"] []
 jh:Fun K "end" "Walk.end" jz a.cw a.lg
 eR:Meth K a.av "end" a.cw
 gC:Binds K a.lg ["self"] []
 kr:Fun K "do" "Walk.do" kN a.dh a.m8
 xF:Meth K a.av "do" a.dh
 Bk:Binds K a.m8 ["self","frame"] []
 dI:Fun K "do_give" "Walk.do_give" e8 a.a9 a.gA
 nV:Meth K a.av "do_give" a.a9
 qh:Binds K a.gA ["self","frame"] []
 dH:Fun K "do_make" "Walk.do_make" e7 a.a8 a.gy
 nU:Meth K a.av "do_make" a.a8
 qg:Binds K a.gy ["self","frame"] []
 cU:Fun K "do_coins" "Walk.do_coins" dO a.aZ a.fv
 mW:Meth K a.av "do_coins" a.aZ
 og:Binds K a.fv ["self","frame","word"] []
 cT:Fun K "end_with" "Walk.end_with" dN a.aY a.fu
 d8:Meth K a.av "end_with" a.aY
 fA:Binds K a.fu ["self","ending"] []
 wa:Dn K mg "number_of" nE a.df a.nK ["functions","name"]
 zS:Dn K mg "spots" sx a.km a.zD ["body"]
 jo:Dn K mg "spots_beneath" e9 a.bx a.jm ["piece","number"]
 v9:Dn K mg "pieces" oU a.iC a.vN ["body"]
 nP:Dn K mg "makers_in" jA a.dg a.nL ["value"]
 EO:Dn K mg "size" wQ a.mZ a.Eg ["value"]
 zU:Dn K mg "depth" sA a.ko a.zF ["value"]
 JK:Dn K mg "ran" Cn a.rO a.Jx ["program","f","args","coins","most"]
 ES:Dn K mg "need" wU a.m4 a.Ei ["program","f","args","most"]
 lC:Dn K mg "end_told" kQ a.d9 a.pX ["walk"]
 kj:Dn K mg "greatest_pay" fU a.bM a.jW ["program"]
 uB:Dn K mg "_law_deal" wW a.m6 a.Ek ["_law_script","_law_base"]
 ef:Dn K mg "_law_draw" wV a.m5 a.Ej ["_law_deal_here","_law_many"]
 zR:Dn K mg "_law_words" sv a.kl a.zC ["_law_deal_here","_law_many"]
 ER:Dn K mg "_law_rows" wR a.m3 a.Eh ["_law_deal_here","_law_words_here"]
 ET:Dn K mg "_law_body" wX a.m7 a.El ["_law_words_here","_law_line"]
 JL:Dn K mg "_law_due" Co a.rQ a.Jz ["_law_line","_law_coins","_law_arg"]
 zT:Dn K mg "_law_needs" sy a.kn a.zE ["_law_line"]
 Od:Dn K mg "law" nF a.rP a.Jy ["_law_script"]
 qf:mg "len" = none
 ym:mg "list" = none
 Io:mg "tuple" = none
 vU:mg "int" = none
 Lx:mg "dict" = none
 lr:mg "reversed" = none
 vS:mg "max" = none
 NX:mg "min" = none
 mn:mg "range" = none
 NW:mg "zip" = none
 JC:mg "enumerate" = none
 rh:∃ t,mg "MOST_MAKERS" = some (.int 200 t)
 rg:∃ t,mg "MOST_WITHIN" = some (.int 60 t)
def tQ:Str:="abcdefghijklmnopqrstuvwxyz"
def vD:List Str:=["kind","def","to","let","make","call"]
def kJ:List Str:=["name","case","end","pay","get","give"]
def kept:List Str:=vD++kJ
def near:List Str:=["lets","callx","payer","ender","tom","nameb","makes","gets","giver","kinds","defs","cases"]
theorem zh{i:Int}(h0:0<=i)(h1:i<26):atI (Str.cps tQ).toList i=some (nW i.toNat):=by
 obtain⟨n,rfl⟩:∃ n:Nat,i=n:=⟨i.toNat,by omega⟩
 have h2:n<26:=by omega
 have h3:∀ n:Fin 26,atI (Str.cps tQ).toList (n.val:Int)=some (nW n.val):=by decide +kernel
 have:=h3 ⟨n,h2⟩
 simpa using this
theorem Du:∀ w∈near,1<=w.length/\w.length<=20:=by decide +kernel
theorem zm{α:Type}{f:α->T}(h:∀ x,(f x).im=true):∀ xs:List α,T.ims (xs.map f)=true
 | []=>by simp[T.ims]
 | x::r=>by simp[T.ims,h x,zm h r]
def GD:PSp:=fun ts Q=>∃ m:Int,ts = [.lb,.i m]/\0<m/\m<=52/\∀ ws:List Str,(ws.length:Int)=m->ws.Nodup ->(∀ w∈ws,1<=w.length/\w.length<=20)->Q (.l (ws.map .s))
variable{ws:List Str}
theorem iA{w:Str}:inT (.s w) (ws.map T.s)=inV (.str w) (ws.map V.str):=by
 unfold inT inV;rw[Ts,Ts];rfl
theorem D5(ws:List Str):fls (ws.map T.s)=true:=by
 unfold fls;rw[List.all_map,RG];exact fun _ _=>rfl
theorem DP(ws:List Str):T.ims (ws.map T.s)=true:=zm (fun _=>rfl) ws
theorem noq{w z:Str}(h:z∈kJ):w++("q":Str)≠z:=by
 intro e;have h1:(w++("q":Str)).cps.toList.getLast? = some 113:=by simp[Str.cps_append,show(Str.ofString "q").cps = #[113]from by decide +kernel]
 rw[e]at h1;have h2:∀ z∈kJ,z.cps.toList.getLast? ≠ some 113:=by decide +kernel
 exact h2 z h h1
theorem KU{w:Str}:inV (.str (w++("q":Str))) (kJ.map V.str)=false:=by
 cases e:inV (.str (w++("q":Str))) (kJ.map V.str)with
 | false=>rfl
 | true=>exact absurd rfl (noq (w:=w) (HC.mp e))
theorem k6{w:Str}:inV (.str w) (kept.map V.str) =(inV (.str w) (vD.map V.str)||inV (.str w) (kJ.map V.str)):=by
 unfold kept inV;rw[RL,List.any_append]
theorem zK{i:Int}(h0:0<=i)(h1:i<ws.length):∃ w,atI (ws.map T.s) i=some (.s w)/\w∈ws:=by
 obtain⟨v,e,hm⟩:=EA (xs:=ws.map T.s) h0 (by simpa using h1)
 obtain⟨w,hw,rfl⟩:=RJ.mp hm;exact⟨w,e,hw⟩
variable{mg:Str->Option Value}
theorem never{P:Program}{w:World}{K:W.Frag}{base:Heap}{CX:CXT}{k:Nat}{f:Addr}{fd:FuncData}{ps:List Str}{sp:PSp}(h:∀ ts Q,¬ sp ts Q):aQ P w K mg base CX k f fd ps (spQ K sp) :=
 ⟨fun _ _ _ _ hz=>by obtain⟨_,ts,_,Qp,_,_,z,_⟩:=hz;exact(h ts Qp z).elim,fun _ _ _ _ _ _ _ _ _ _ _ _ _ hz=>by obtain⟨_,ts,_,Qp,_,_,z,_⟩:=hz;exact(h ts Qp z).elim⟩
theorem zk{x:L2.T}:∀{xs:List L2.T},T.ims xs=true->x∈xs->x.im=true
 | y::r,h,hx=>by
  have h:(y.im&&T.ims r)=true:=h;rw[QY]at h;rcases QH.mp hx with e|hx
  ·rw[e];exact h.1
  ·exact zk h.2 hx
theorem Ip{α:Type}{xs:List α}{b:α}(h:xs.getLast? = some b):atI xs (-1)=some b:=by
 obtain⟨ys,rfl⟩:=List.getLast?_eq_some_iff.mp h;exact L2.EB ys b
def fT(C x:Addr)(f n:Int)(p:L2.T)(ns:List (Key×L2.T)):L2.T:=.om x C ["f","number","piece","names"] [.i f,.i n,p,.d ns]
def wT(C a:Addr)(fns:L2.T)(frs:List L2.T)(c n:Int)(e:L2.T):L2.T:=.om a C ["functions","running","coins","done","ending"] [fns,.l frs,.i c,.i n,e]
def Kt(C:Addr):ju:=fun ts Q=>∃ x f n p ns b k,ts = [fT C x f n p ns,b,.i k]/\b.im=true/\Q .n (fT C x f (n+(1+k)) b ns)
def xl(C:Addr):ju:=fun ts Q=>∃ x f n ps ns v y b,ts = [fT C x f n (.t ps) ns,v]/\v.im=true/\T.imk ns=true/\ns.length<1000/\T.ims ps=true/\ps[1]? = some (.s y)/\ps.getLast? = some b/\Q .n (fT C x f (n+1) b (kS ns (.inr y) v))
def xj(C:Addr):PSp:=fun ts Q=>∃ x f n p ns,ts = [fT C x f n p ns,.t []]/\Q (.t [])
def vj(C:Addr)(t2:Bool):ju:=fun ts Q=>∃ x fns nm prs kd b y k v u,ts = [.om x C [] [],.t fns,.i 0,u]/\fns = [.t [nm,.t prs,kd,b]]/\prs = [.t [.s y,.s k]]/\nm.im=true/\kd.im=true/\b.im=true/\v.im=true/\u =(if t2=true then .t [v]else .zl [v])/\Q .n (fT C x 0 0 b [(.inr y,v)])
def xi(CW CF:Addr)(t2:Bool):ju:=fun ts Q=>∃ a ks fns nm prs kd b y k v u c,ts = [.om a CW [] [],.t [ks,.t fns],.i 0,u,.i c]/\fns = [.t [nm,.t prs,kd,b]]/\prs = [.t [.s y,.s k]]/\nm.im=true/\kd.im=true/\b.im=true/\v.im=true/\ks.im=true/\u =(if t2=true then .t [v]else .zl [v])/\∀ x,Q .n (wT CW a (.t fns) [fT CF x 0 0 b [(.inr y,v)]] c 0 .n)
def Ak(CW:Addr):ju:=fun ts Q=>∃ a fns frs c m e v,ts = [wT CW a fns frs c m e,v]/\v.im=true/\Q .n (wT CW a fns [] c m v)
def xk(CW:Addr)(g:Int->Int->L2.T->L2.T):PSp:=fun ts Q=>∃ a fns frs c m e,ts = [wT CW a fns frs c m e]/\e.im=true/\Q (g c m e)
inductive Res where
 | on(p:L2.T)(ns:List (Key×L2.T))(c:Int)
 | fin(c:Int)(e:L2.T)
inductive Stp:L2.T->List (Key×L2.T)->Int->Res->Prop
 | give{y:Str}{v:L2.T}{ns:List (Key×L2.T)}{c:Int}:eT ns (.inr y)=some v->v.im=true->Stp (.t [.s "give",.s y]) ns c (.fin c (.t [.s "gave",v]))
 | short{k c:Int}{b:L2.T}{ns:List (Key×L2.T)}:b.im=true->k > c->Stp (.t [.s "pay",.i k,b]) ns c (.fin c (.t [.s "short",.i k]))
 | pay{k c:Int}{b:L2.T}{ns:List (Key×L2.T)}:b.im=true->¬ k > c->Stp (.t [.s "pay",.i k,b]) ns c (.on b ns (c - k))
 | get{k c:Int}{b:L2.T}{ns:List (Key×L2.T)}:b.im=true->Stp (.t [.s "get",.i k,b]) ns c (.on b ns (c+k))
 | name{y z:Str}{v b:L2.T}{c:Int}{ns:List (Key×L2.T)}:b.im=true->eT ns (.inr z)=some v->v.im=true->Stp (.t [.s "name",.s y,.s z,b]) ns c (.on b (kS ns (.inr y) v) c)
 | make{y m:Str}{b:L2.T}{c:Int}{ns:List (Key×L2.T)}:b.im=true->Stp (.t [.s "make",.s y,.s m,.t [],b]) ns c (.on b (kS ns (.inr y) (.t [.s m,.t []])) c)
def resT(CW CF a x:Addr)(fns:L2.T)(n m:Int):Res->L2.T
 | .on p ns c=>wT CW a fns [fT CF x 0 (n+1) p ns] c m .n
 | .fin c e=>wT CW a fns [] c m e
def Pq(CW CF:Addr):ju:=fun ts Q=>∃ a x fns n p ns c m r,ts = [wT CW a fns [fT CF x 0 n p ns] c m .n,.rf x]/\fns.im=true/\T.imk ns=true/\ns.length<1000/\Stp p ns c r/\Q .n (resT CW CF a x fns n m r)
def Ko(CW CF:Addr):ju:=fun ts Q=>(∃ a x fns n p ns c m r,ts = [wT CW a fns [fT CF x 0 n p ns] c m .n]/\fns.im=true/\T.imk ns=true/\ns.length<1000/\Stp p ns c r/\Q (.b (match r with | .on _ _ _=>true | .fin _ _=>false)) (resT CW CF a x fns n (m+1) r)) \/
 ∃ a fns c m ps,ts = [wT CW a fns [] c m (.t ps)]/\T.ims ps=true/\Q (.b false) (wT CW a fns [] c m (.t ps))
theorem zo{ts:List L2.T}(h:∀ t∈ts,t.im=true):L2.T.ims ts=true:=by
 induction ts with
 | nil=>rfl
 | cons t r ih=>show(t.im&&L2.T.ims r)=true;rw[h t qr,ih fun t ht=>h t (j5 _ ht)];rfl
variable{n:Nat}
theorem dB(h:n<=1002000):n<QD:=SM h (by decide)
theorem Dx{ns:List (Key×L2.T)}{k k':Key}{v:L2.T}:eT (kS ns k v) k'=if k=k' then some v else eT ns k':=by
 unfold kS;by_cases h:(ns.any fun p=>decide (p.1=k))=true
 ·rw[if_pos h];unfold eT
  induction ns with
  | nil=>simp at h
  | cons p r ih =>
   rw[Rt,Rk,Rk];by_cases e:p.1=k
   ·rw[if_pos e];by_cases e2:k=k'
    ·rw[show decide (p.1=k')=true from decide_eq_true (e.trans e2),if_pos e2];rfl
    ·rw[show decide (p.1=k')=false from decide_eq_false fun z=>e2 (e.symm.trans z),if_neg e2]
     by_cases h':(r.any fun p=>decide (p.1=k))=true
     ·have:=ih h';rw[if_neg e2]at this;exact this
     ·have:(r.map fun p=>if p.1=k then(p.1,v)else p)=r:=by
       rw[show r=r.map id from(List.map_id r).symm,List.map_map];refine List.map_congr_left fun z hz=>?_
       show(if z.1=k then(z.1,v)else z)=z
       rw[if_neg fun q=>h' (Sf.mpr ⟨z,hz,decide_eq_true q⟩)]
      rw[this]
   ·rw[if_neg e];by_cases e2:p.1=k'
    ·rw[show decide (p.1=k')=true from decide_eq_true e2,if_neg fun z=>e (e2.trans z.symm)]
    ·rw[show decide (p.1=k')=false from decide_eq_false e2];refine ih ?_;rw[R1,show decide (p.1=k)=false from decide_eq_false e,SE]at h;exact h
 ·rw[if_neg h];unfold eT;rw[List.find?_append];by_cases e2:k=k'
  ·have:ns.find? (fun p=>decide (p.1=k'))=none:=List.find?_eq_none.mpr fun z hz q=>h (Sf.mpr ⟨z,hz,decide_eq_true ((of_decide_eq_true q).trans e2.symm)⟩)
   rw[this,if_pos e2,Option.none_or,Rk,show decide (k=k')=true from decide_eq_true e2];rfl
  ·rw[if_neg e2,Rk,show decide (k=k')=false from decide_eq_false e2,List.find?_nil,Option.or_none]
theorem zp:∀{ns:List (Key×L2.T)},(∀ p∈ns,p.2.im=true)->T.imk ns=true
 | [],_=>rfl
 | (k,x)::r,h=>by
  show(x.im&&T.imk r)=true;rw[h (k,x) qr,zp fun p hp=>h p (j5 _ hp)];rfl
theorem t5:∀{ns:List (Key×L2.T)},T.imk ns=true->∀ p∈ns,p.2.im=true
 | (k,x)::r,h,p,hp=>by
  have h:(x.im&&T.imk r)=true:=h;rw[QY]at h;rcases QH.mp hp with e|hp
  ·rw[e];exact h.1
  ·exact t5 h.2 p hp
theorem HD{ns:List (Key×L2.T)}{k:Key}{v:L2.T}(h:T.imk ns=true)(hv:v.im=true):T.imk (kS ns k v)=true:=by
 refine zp fun p hp=>?_
 unfold kS at hp
 split at hp
 ·obtain⟨z,hz,rfl⟩:=RJ.mp hp
  split
  ·exact hv
  ·exact t5 h z hz
 ·rcases Q7.mp hp with z|z
  ·exact t5 h p z
  ·rw[Es.mp z];exact hv
theorem Hs{ns:List (Key×L2.T)}{k:Key}{v:L2.T}:(kS ns k v).length<=ns.length+1:=by
 unfold kS
 split
 ·rw[QR];omega
 ·rw[Q9];exact QX _
abbrev Row:=Str×Int
def eY(r:Row):Prop:=(0<=r.2/\r.2<=1000000)/\(r.1 = "pay" \/ r.1 = "get" \/ ((r.1 = "name" \/ r.1 = "make")/\r.2=0))
def gF(r:Row):L2.T:=.t [.s r.1,.i r.2]
def vT(w:Nat->Str):L2.T:=.t [.s (w 1),.t []]
def aW(w:Nat->Str):Nat->List Row->L2.T
 | _,[]=>.t [.s "give",.s (w 2)]
 | i,r::l=>if r.1 = "name" then .t [.s "name",.s (w (3+i)),.s (w 2),aW w (i+1) l]else if r.1 = "make" then .t [.s "make",.s (w (3+i)),.s (w 1),.t [],aW w (i+1) l]else .t [.s r.1,.i r.2,aW w (i+1) l]
theorem bX(w:Nat->Str):∀(l:List Row)(i:Nat),(aW w i l).im=true
 | [],_=>rfl
 | r::l,i=>by
  have:=bX w l (i+1)
  unfold aW
  split
  ·show(true&&(true&&(true&&((aW w (i+1) l).im&&true))))=true;rw[this];rfl
  ·split
   ·show(true&&(true&&(true&&(true&&((aW w (i+1) l).im&&true)))))=true;rw[this];rfl
   ·show(true&&(true&&((aW w (i+1) l).im&&true)))=true;rw[this];rfl
def dlt(r:Row):Int:=r.2*((if r.1 = "get" then 1 else 0) - (if r.1 = "pay" then 1 else 0))
theorem zx{k:Int}:dlt ("pay",k) = -k:=by unfold dlt;dsimp only;rw[if_neg (by decide),if_pos rfl];omega
theorem t7{k:Int}:dlt ("get",k)=k:=by unfold dlt;dsimp only;rw[if_pos rfl,if_neg (by decide)];omega
variable{x:Str}
theorem mh:dlt (x,0)=0:=by unfold dlt;exact Int.zero_mul _
structure my(w:Nat->Str)(ns:List (Key×L2.T))(n:Nat):Prop where
 g:eT ns (.inr (w 2))=some (vT w)
 i:T.imk ns=true
 l:ns.length<=n+1
theorem my.put{w:Nat->Str}{ns:List (Key×L2.T)}(h:my w ns n)(y:Str):my w (kS ns (.inr y) (vT w)) (n+1):=by
 refine⟨?_,HD h.i rfl,Ra Hs (SW h.l)⟩;rw[Dx]
 split
 ·rfl
 ·exact h.g
theorem my.up{w:Nat->Str}{ns:List (Key×L2.T)}(h:my w ns n):my w ns (n+1):=⟨h.g,h.i,Tv h.l⟩
def nxt(w:Nat->Str)(i:Nat)(r:Row)(l:List Row)(ns:List (Key×L2.T))(c:Int):Res:=if r.1 = "pay" /\ r.2 > c then .fin c (.t [.s "short",.i r.2])else .on (aW w (i+1) l) ns (c+dlt r)
variable{r:Row}{l:List Row}
theorem sf{w:Nat->Str}{i:Nat}{ns:List (Key×L2.T)}{c:Int}(hr:eY r)(hn:my w ns i):∃ ns',my w ns' (i+1)/\Stp (aW w i (r::l)) ns c (nxt w i r l ns' c):=by
 obtain⟨x,k⟩:=r;have hb:=bX w l (i+1);obtain⟨h0,h1⟩:=hr;dsimp only at h0 h1;unfold aW nxt;dsimp only;rcases h1 with rfl|rfl |⟨rfl|rfl,rfl⟩
 ·refine⟨ns,hn.up,?_⟩;rw[if_neg (by decide),if_neg (by decide)]
  by_cases g:k > c
  ·rw[if_pos ⟨rfl,g⟩];exact .short hb g
  ·rw[if_neg fun z=>g z.2,zx];exact .pay hb g
 ·refine⟨ns,hn.up,?_⟩;rw[if_neg (by decide),if_neg (by decide),if_neg fun z=>absurd z.1 (by decide),t7]
  exact .get hb
 ·refine⟨_,hn.put (w (3+i)),?_⟩;rw[if_pos rfl,if_neg fun z=>absurd z.1 (by decide),mh,Tw]
  exact .name hb hn.g rfl
 ·refine⟨_,hn.put (w (3+i)),?_⟩;rw[if_neg (by decide),if_pos rfl,if_neg fun z=>absurd z.1 (by decide),mh,Tw]
  exact .make hb
theorem oN{w:Nat->Str}{i:Nat}{ns:List (Key×L2.T)}{c:Int}(hn:my w ns i):Stp (aW w i []) ns c (.fin c (.t [.s "gave",vT w])):=.give hn.g rfl
def bN(v:L2.T):List Row->Int->L2.T×Int×Int×List Int
 | [],c=>(.t [.s "gave",v],c,1,[c])
 | r::l,c=>if r.1 = "pay" /\ r.2 > c then(.t [.s "short",.i r.2],c,1,[c])else((bN v l (c+dlt r)).1,(bN v l (c+dlt r)).2.1,(bN v l (c+dlt r)).2.2.1+1,(c+dlt r) ::(bN v l (c+dlt r)).2.2.2)
def iy(g m:Int):List Row->Int
 | []=>m
 | r::l=>iy (g - dlt r) (max m (g - dlt r)) l
def aU(g m:Int):List Row->List Int
 | []=>[]
 | r::l=>if r.1 = "pay" then max m (g - dlt r)::aU (g - dlt r) (max m (g - dlt r)) l else aU (g - dlt r) (max m (g - dlt r)) l
theorem zi:∀{l:List Row}{g m:Int},m<=iy g m l
 | [],_,_=>RO _
 | r::l,g,m=>RU (Int.le_max_left m (g - dlt r)) (zi (l:=l))
theorem pS:∀{l:List Row}{g m:Int},g<=m ->(∀ r∈l,eY r) ->(∀ y∈aU g m l,y<=iy g m l)/\(iy g m l∈aU g m l\/(aU g m l = []/\iy g m l=m))
 | [],_,_,_,_=>⟨(fun _ h=>nomatch h),Or.inr ⟨rfl,rfl⟩⟩
 | (x,k)::l,g,m,hg,hr=>by
  have h0:=hr _ qr;have ih:=pS (l:=l) (SV m (g - dlt (x,k))) fun r h=>hr r (j5 _ h)
  unfold aU iy;dsimp only;by_cases e:x = "pay"
  ·rw[if_pos e];refine⟨fun y hy=>?_,.inl ?_⟩
   ·rcases QH.mp hy with rfl|hy
    ·exact zi
    ·exact ih.1 y hy
   ·rcases ih.2 with z |⟨_,z⟩
    ·exact j5 _ z
    ·rw[z];exact qr
  ·rw[if_neg e];refine⟨ih.1,?_⟩;rcases ih.2 with z |⟨z1,z2⟩
   ·exact .inl z
   ·refine .inr ⟨z1,z2.trans ?_⟩;obtain⟨k0,h0⟩:=h0;dsimp only at k0 h0;rcases h0 with z|rfl |⟨_,rfl⟩
    ·exact absurd z e
    ·rw[t7];omega
    ·rw[mh];omega
theorem AL(hr:∀ r∈l,eY r):l8 (aU 0 0 l) 0=iy 0 0 l:=by
 obtain⟨h1,h2⟩:=pS (l:=l) (RO 0) hr;rcases h2 with z |⟨z1,z2⟩
 ·exact(zg z h1).symm
 ·rw[z1,z2];rfl
def kH(l:List Row):List Int:=(l.filter fun r:Row=>decide (r.1 =("pay":Str))).map (·.2)
def gS(l:List Row):Int:=l8 (0::kH l) 0
theorem wD:0<=gS l/\∀ k:Int,(("pay":Str),k)∈l->k<=gS l:=by
 obtain⟨_,h2,h3⟩:=foldl_max (kH l) 0;refine⟨h2,fun k hk=>h3 k (RJ.mpr ⟨_,SF.mpr ⟨hk,by simp⟩,rfl⟩)⟩
theorem JP(h:∀ r∈l,eY r):gS l<=1000000:=by
 obtain⟨h1,_,_⟩:=foldl_max (kH l) 0;show(kH l).foldl max 0<=_;rcases h1 with z|z
 ·rw[z];decide
 ·obtain⟨r,hr,e⟩:=RJ.mp z;rw[<- e];exact(h r (SF.mp hr).1).1.2
theorem cN(l:List Int):L2.T.ims (l.map .i)=true:=zo fun t ht=>by
 obtain⟨z,_,rfl⟩:=RJ.mp ht;rfl
theorem Dc(l:List Row):(kH l).length<=l.length:=by
 unfold kH;rw[QR];exact List.length_filter_le _ _
def pT(nm kd:L2.T)(k:Str)(w:Nat->Str)(l:List Row):List L2.T:=[.t [nm,.t [.t [.s (w 2),.s k]],kd,aW w 0 l]]
def prT(ks nm kd:L2.T)(k:Str)(w:Nat->Str)(l:List Row):L2.T:=.t [ks,.t (pT nm kd k w l)]
structure IB(ks nm kd:L2.T)(l:List Row):Prop where
 ks:ks.im=true
 nm:nm.im=true
 kd:kd.im=true
 ok:∀ r∈l,eY r
 len:l.length<=30
theorem x6{ks nm kd:L2.T}{k:Str}{w:Nat->Str}(h:IB ks nm kd l):(L2.T.t (pT nm kd k w l)).im=true:=by
 show((nm.im&&(true&&(kd.im&&((aW w 0 l).im&&true))))&&true)=true;rw[h.nm,h.kd,bX];rfl
theorem ns0(w:Nat->Str):my w [(.inr (w 2),vT w)] 0:=⟨by simp[eT],rfl,QX _⟩
theorem drop_cons{i:Nat}(h:i<l.length):l.drop i=l[i]::l.drop (i+1):=Sh h
theorem pW{v:L2.T}{c:Int}(g:¬(r.1 = "pay" /\ r.2 > c)):bN v (r::l) c =((bN v l (c+dlt r)).1,(bN v l (c+dlt r)).2.1,(bN v l (c+dlt r)).2.2.1+1,(c+dlt r) ::(bN v l (c+dlt r)).2.2.2):=by
 rw[bN,if_neg g]
theorem mf{v:L2.T}{c:Int}(g:r.1 = "pay" /\ r.2 > c):bN v (r::l) c =(.t [.s "short",.i r.2],c,1,[c]):=by
 rw[bN,if_pos g]
def gP(v:L2.T)(l:List Row)(c0:Int)(i:Nat)(c:Int):Prop:=(bN v l c0).1 =(bN v (l.drop i) c).1/\(bN v l c0).2.1 =(bN v (l.drop i) c).2.1/\(bN v l c0).2.2.1 =(bN v (l.drop i) c).2.2.1+i
theorem gP.zero{v:L2.T}{c:Int}:gP v l c 0 c:=⟨rfl,rfl,(Tw _).symm⟩
variable{c0:Int}
theorem gP.next{v:L2.T}{c:Int}{i:Nat}(h:gP v l c0 i c)(hi:i<l.length)(g:¬(l[i].1 = "pay" /\ l[i].2 > c)):gP v l c0 (i+1) (c+dlt l[i]):=by
 obtain⟨h1,h2,h3⟩:=h;rw[drop_cons hi,pW g]at h1 h2 h3;exact⟨h1,h2,by rw[h3];dsimp only;push_cast;omega⟩
theorem gP.short{v:L2.T}{l:List Row}{c0 c:Int}{i:Nat}(h:gP v l c0 i c)(hi:i<l.length)(g:l[i].1 = "pay" /\ l[i].2 > c):(bN v l c0).1 = .t [.s "short",.i l[i].2]/\(bN v l c0).2.1=c/\(bN v l c0).2.2.1=i+1:=by
 obtain⟨h1,h2,h3⟩:=h;rw[drop_cons hi,mf g]at h1 h2 h3;exact⟨h1,h2,by rw[h3];dsimp only;omega⟩
theorem gP.Ll{v:L2.T}{c:Int}(h:gP v l c0 l.length c):(bN v l c0).1 = .t [.s "gave",v]/\(bN v l c0).2.1=c/\(bN v l c0).2.2.1=l.length+1:=by
 obtain⟨h1,h2,h3⟩:=h;rw[RA]at h1 h2 h3;exact⟨h1,h2,by rw[h3];show(1:Int)+_=_;omega⟩
structure Gone(l:List Row)(i:Nat)(g m:Int):Prop where
 m:iy g m (l.drop i)=iy 0 0 l
 g:g<=i*gS l
theorem Gone.zero:Gone l 0 0 0:=⟨rfl,by simp⟩
theorem Gone.next{i:Nat}{g m:Int}(h:Gone l i g m)(hi:i<l.length)(hr:eY l[i]):Gone l (i+1) (g - dlt l[i]) (max m (g - dlt l[i])):=by
 refine⟨?_,?_⟩
 ·have:=h.m
  rw[drop_cons hi]at this;exact this
 ·obtain⟨t0,t1⟩:=wD (l:=l);have hg:=h.g;have e:((i+1:Nat):Int)*gS l =(i:Int)*gS l+gS l:=by push_cast;rw[Int.add_mul,Int.one_mul]
  have hd:- dlt l[i]<=gS l:=by
   obtain⟨k0,h0⟩:=hr;have hm:=Ru hi
   generalize l[i]=r at *
   obtain⟨x,k⟩:=r;dsimp only at k0 h0;rcases h0 with rfl|rfl |⟨_,rfl⟩
   ·rw[zx];have:=t1 k hm;omega
   ·rw[t7];omega
   ·rw[mh];omega
  rw[e];omega
theorem Gone.Pe{i:Nat}{g m:Int}(h:Gone l i g m)(hi:i<l.length)(hl:l.length<=30):¬(l[i].1 = "pay" /\ l[i].2 > gS l*100 - g):=fun⟨z1,z2⟩=>by
 obtain⟨t0,t1⟩:=wD (l:=l);have hg:=h.g;have h1:l[i].2<=gS l:=t1 _ (by rw[<- z1];exact Ru hi)
 have h2:(i:Int)*gS l<=30*gS l:=SA (by omega) t0
 rw[Int.mul_comm]at z2;omega
def wf(ws:List Str):Nat->Str:=fun i=>ws.getD i ""
theorem jw(h:n<ws.length):atI (ws.map L2.T.s) (n:Int)=some (.s (wf ws n)):=by
 refine ur ?_;rw[Q0,QU h];unfold wf;rw[RC,QU h];rfl
theorem BY(h:3+n<ws.length):atI (ws.map L2.T.s) (3+(n:Int))=some (.s (wf ws (3+n))):=by
 have:=jw h
 push_cast at this
 exact this
theorem zL{xs:List Int}{i:Int}(h0:0<=i)(h1:i<xs.length):∃ x,atI (xs.map L2.T.i) i=some (.i x)/\x∈xs:=by
 obtain⟨v,e,hm⟩:=EA (xs:=xs.map L2.T.i) h0 (by simpa using h1)
 obtain⟨x,hx,rfl⟩:=RJ.mp hm;exact⟨x,e,hx⟩
theorem Cs(h:n<l.length):atI (l.map gF) (n:Int)=some (gF l[n]):=by
 refine ur ?_;rw[Q0,QU h];rfl
theorem eqI{y:Str}:(if decide ((L2.T.s x).v =(L2.T.s y).v)=true then(1:Int)else 0)=if x=y then 1 else 0:=by
 by_cases h:x=y
 ·subst h;rw[if_pos rfl,if_pos (decide_eq_true rfl)]
 ·rw[if_neg h,if_neg];intro z;exact h (V.str.inj (of_decide_eq_true z))
theorem eqB{y:Str}:decide ((L2.T.s x).v =(L2.T.s y).v)=true ↔ x=y:=⟨fun z=>V.str.inj (of_decide_eq_true z),fun z=>by subst z;exact decide_eq_true rfl⟩
theorem rN:∀{l:List Row}{g m:Int},(aU g m l).length<=l.length
 | [],_,_=>QX _
 | r::l,g,m=>by
  have:=rN (l:=l) (g:=g - dlt r) (m:=max m (g - dlt r))
  unfold aU
  split
  ·exact SW this
  ·exact Tv this
theorem D9{w:Nat->Str}:∀{l:List Row}{c:Int},∃ ps,(bN (vT w) l c).1 = .t ps/\T.ims ps=true/\∀ z∈ps,Dep 2 z
 | [],c=>⟨_,rfl,rfl,fun z hz=>by
  rcases QH.mp hz with rfl|hz
  ·exact .s
  ·rw[Es.mp hz];refine .inr (.inr ⟨_,rfl,fun y hy=>?_⟩)
   rcases QH.mp hy with rfl|hy
   ·exact .s
   ·rw[Es.mp hy];exact .inr (.inr ⟨[],rfl,fun _ z=>nomatch z⟩)⟩
 | r::l,c=>by
  by_cases g:r.1 = "pay" /\ r.2 > c
  ·rw[mf g];refine⟨_,rfl,rfl,fun z hz=>?_⟩
   rcases QH.mp hz with rfl|hz
   ·exact .s
   ·rw[Es.mp hz];exact .i
  ·rw[pW g];exact D9
theorem Lo{v:L2.T}:∀{l:List Row}{c:Int},(bN v l c).2.2.2 ≠ []
 | [],_=>Sg _ _
 | r::l,c=>by
  by_cases g:r.1 = "pay" /\ r.2 > c
  ·rw[mf g];exact Sg _ _
  ·rw[pW g];exact Sg _ _
theorem Ju{ps:List L2.T}(h:∀ z∈ps,Dep n z):Dep (n+1) (.t ps):=.inr (.inr ⟨ps,rfl,h⟩)
theorem HZ{xs:List Int}{lo hi:Option Int}:eU (xs.map L2.T.i) lo hi =(eU xs lo hi).map L2.T.i:=by
 unfold eU;rw[QR,<- Tb,<- Tc]
theorem NO{α:Type}{xs:List α}{lo hi:Option Int}:(eU xs lo hi).length<=xs.length:=by
 unfold eU;rw[RP,Sz];exact Ra (Se _ _) (Td _ _)
theorem ne_self{n:Int}:¬(!decide ((L2.T.i n).v =(L2.T.i n).v))=true:=by simp
section
variable{P:Program}{w:World}{K:W.Frag}{mg:Str->Option Value}{base:Heap}{a:Adr}
theorem zf(T:Txt K mg a):aQ P w K mg base CX0 1 a.m5 a.Ej ["_law_deal_here","_law_many"] B5:=by
 refine T.ef.F.ok oq (fun vs H Q E h=>?_) (fun cdv A outer s H vs Q E hr h=>?_)
 ·obtain⟨d,l,m,rfl,_⟩:=h;rfl
 ·obtain⟨d,l,m,rfl,⟨s0,n0,ls0,D0⟩,m0,m1,k⟩:=h;have hu:=bC hr;refine⟨_,((bA (pf PassesOwn.never (PW.pt (xf (lY Jg (iV hu (pv 0) c5 (fun _ _=>rfl)) a7 (bI _)) (sP (lY Dg (px mm (by rfl) T.qf PySem.boot_len (cC (iV hu (pv 0) c5 (fun _ _=>rfl)) h8)) a7 (bI _)))))
 (iK (oA hu (pv 0) c5 (xq PySem.F.plainAttrs_list PySem.F.slot_list_pop PySem.F.type_list_pop xB (iV hu (pv 0) c5 (fun _ _=>rfl))) rfl)))
 (bA (iL (i:=2) oq.nd rfl (Or.inl rfl) (iV hu (pv 0) c5 (fun _ _=>rfl)))
 (bA (Jd (lY Dg (pv 2) a7 (bI _))
 (bA (oA hu (pv 0) c5 (cq vp (pv 2) (pv 1)) rfl)
 (iK (mS (cq iZ (pv 2) (pv 1)))))
 y0)
 (bA (iL (i:=3) oq.nd rfl (Or.inl rfl) (cq iZ (cq mT (cq kY (iV hu (pv 0) c5 (fun _ _=>rfl)) a7) a7) a7))
 (bA (oA hu (pv 0) c5 (cq iZ (cq mT (cq kY (pv 3) a7) a7) a7) rfl)
 (bA (iL (i:=4) oq.nd rfl (Or.inl rfl) (cq iZ (cq kY (iV hu (pv 0) c5 (fun _ _=>rfl)) (iV hu (pv 0) c5 (fun _ _=>rfl))) a7))
 (iK (mS (cq iZ (cq mT (cq kY (cq iZ (cq kY (pv 3) (pv 3)) a7) a7) (pv 4)) (pv 1))))))))))),?_⟩
  refine zW (fun c σ H1=>∃ s n ls,σ = [some (.ref d),some (.int m),none,none,none]/\ck H1 d l s n ls/\Kp d l H H1/\c=ls.length) ⟨s0,n0,ls0,rfl,D0,Kp.refl,rfl⟩ ?_ ?_
  ·rintro c σ H1 ⟨s1,n1,ls,rfl,D,K1,rfl⟩
   refine⟨_,rfl,d,_,rfl,D.NC,?_⟩;refine⟨_,rfl,_,_,rfl,rfl,_,rfl,?_⟩;refine gG (fun h1=>?_) (fun h1=>?_)
   ·have h1:0<n1:=of_decide_eq_true h1;have q0:0<=n1 / m:=Int.ediv_nonneg (by omega) (by omega)
    refine⟨_,rfl,_,rfl,_,_,rfl,rfl,⟨m0,m1⟩,_,rfl,d,_,rfl,D.MX,?_⟩;refine⟨_,rfl,_,rfl,_,_,rfl,rfl,m0,?_⟩;exact k _ _ (mod_lt m0).1 (mod_lt m0).2 ⟨_,_,_,D.num q0⟩ K1.JN
   ·have b1:=mod_lt (x:=s1*48271+7919) (m:=2147483647) (by decide)
    refine⟨_,rfl,d,_,rfl,D.DZ,_,_,rfl,rfl,.inr ⟨by decide,by decide⟩,_,_,rfl,rfl,_,_,rfl,rfl,(by show(0:Int)<2147483647;decide),?_⟩
    have b2:=mod_lt (x:=(s1*48271+7919) % 2147483647*40692+104729) (m:=2147483399) (by decide)
    refine⟨_,rfl,_,_,rfl,rfl,.inr ⟨by decide,by decide⟩,_,_,rfl,rfl,_,_,rfl,rfl,(by show(0:Int)<2147483399;decide),_,rfl,d,_,rfl,D.MS,?_⟩
    have D2:=D.Pd (m:=((s1*48271+7919) % 2147483647*40692+104729) % 2147483399) b2.1 (by omega)
    refine⟨_,rfl,d,_,rfl,D2.DZ,_,rfl,d,_,rfl,D2.DZ,_,_,rfl,rfl,.inl ⟨by omega,by omega⟩,_,_,rfl,rfl,(by show(0:Int)<2147483563;decide),?_⟩
    have b4:=mod_lt (x:=(s1*48271+7919) % 2147483647*((s1*48271+7919) % 2147483647)) (m:=2147483629) (by decide)
    refine⟨_,rfl,_,rfl,_,_,rfl,rfl,.inl ⟨by omega,by omega⟩,_,_,rfl,rfl,(by show(0:Int)<2147483629;decide),_,_,rfl,rfl,.inr ⟨by decide,by decide⟩,_,rfl,_,_,rfl,rfl,_,rfl,_,_,rfl,rfl,m0,?_⟩
    exact k _ _ (mod_lt m0).1 (mod_lt m0).2 ⟨_,_,_,D2⟩ K1.JN
  ·rintro c σ H1 ⟨s1,n1,ls,rfl,D,K1,rfl⟩ hx
   refine⟨_,rfl,d,_,rfl,D.NC,rfl,_,rfl,?_⟩;refine gG (fun h1=>?_) (fun h1=>hx)
   refine⟨_,rfl,d,_,rfl,D.Js,l,_,rfl,.inl (SqL.of D.hl),_,_,rfl,rfl,_,rfl,?_⟩;refine gG (fun h2=>?_) (fun h2=>hx)
   have h2:(0:Int)<((ls.map V.int).length:Int):=of_decide_eq_true h2;rcases List.eq_nil_or_concat ls with rfl |⟨ls',x,rfl⟩
   ·simp at h2
   ·have hl':H1 l=some (.lst (ls'.map V.int ++ [.int x])):=by simpa using D.hl
    refine⟨fun σ' H'=>∃ s n ls2,σ' = [some (.ref d),some (.int m),none,none,none]/\ck H' d l s n ls2/\Kp d l H H'/\ls2.length<(ls' ++ [x]).length,fun σ' H' ⟨s2,n2,ls2,e,D2,K2,h⟩=>⟨ls2.length,by simpa using h,s2,n2,ls2,e,D2,K2,rfl⟩,?_⟩
    have x0:0<=x:=D.l0 x (by simp)
    have D2:=D.list (ls':=ls') fun y hy=>D.l0 y (by simp[hy])
    refine⟨_,rfl,d,_,rfl,D.Js,.inl ⟨rfl,_,SqL.of hl'⟩,l,_,.int x,rfl,rfl,hl',(by simp),?_⟩
    rw[S7];refine⟨_,rfl,d,_,rfl,D2.MX,?_⟩;exact⟨_,_,ls',rfl,D2.num x0,(K1.O8).JN,by simp⟩
theorem Ha(T:Txt K mg a):aQ P w K mg base CX0 1 a.m6 a.Ek ["_law_script","_law_base"] (JT K):=by
 refine T.uB.F.ok lM (fun vs H Q E h=>?_) (fun cdv A outer s H vs Q E hr h=>?_)
 ·obtain⟨a,ns,b,rfl,_⟩:=h;rfl
 ·obtain⟨p0,ns,b,rfl,hS,hlen,b0,b1,k⟩:=h;have hu:=bC hr;refine⟨_,((bA (y3 (i:=2) lM.nd rfl (Or.inl rfl) rfl (oB (vk yN (pv 0) (sR (pv 1)) (sR a7))) (N':=["_law_cell"]) (.own rfl .nil) (fun _ _ _ _ _=>⟨(l5 (i:=0) (show(["_law_cell"]:List Str).Nodup from by decide +kernel) rfl (Or.inl rfl)),yZ,(px (nh rfl) (by rfl) T.vS (by kernel_rfl) (cC (pv 0) (cC (cq Dd a7 (pv 0)) h8)))⟩))
 (bA (iL (i:=3) lM.nd rfl (Or.inl rfl) (cq mT a7 (pv 1)))
 (bA (CV PassesOwn.never rfl (oB (pv 2)) (l5 (i:=4) lM.nd rfl (Or.inl rfl))
 (iK (iL (i:=3) lM.nd rfl (Or.inl rfl) (cq iZ (cq mT (cq kY (pv 3) a7) (cq iZ (pv 4) a7)) a7))))
 (iK (mS (GX (ph c5 (pv 3) (ph c5 a7 (ph c5 (pw rfl rfl T.ym rfl T.lr (zb rfl (oB (pv 2)) (N':=["_law_cell"]) (.own rfl .nil) (fun _ _ _ _ _=>⟨(l5 (i:=0) (show(["_law_cell"]:List Str).Nodup from by decide +kernel) rfl (Or.inl rfl)),(yY (lY M5 (pv 0) (cq De a7 a7) (bI _))),(pv 0)⟩))) GH))) rfl rfl (by intro z;cases z) (by decide)))))))),?_⟩
  obtain⟨cs,ecs,lcs⟩:=Em ns (some b) (some 63);refine⟨_,rfl,_,rfl,_,rfl,_,rfl,p0,_,rfl,hS,fun p hp=>⟨p,rfl,⟨_,SqL.of ar⟩,?_⟩⟩
  rw[ecs];have s1:lA H (upd H p (.lst (cs.map V.int))):=(lA.refl H).new hp;refine rR (K:=K) (a:=p) (xs:=cs.map V.int) (fun i ys σ' H'=>∃ zs:List Int,ys=zs.map V.int/\(∀ z∈zs,0<=z)/\zs.length=i/\(∃ o,σ' = [o])/\H'=upd H p (.lst (cs.map V.int))) ⟨[],rfl,by simp,rfl,⟨_,rfl⟩,rfl⟩ ?_ ?_ ?_
  ·rintro i ys σ' H' hi ⟨zs,rfl,_,hz,_,rfl⟩
   refine⟨SqL.of ar,?_⟩;rw[QR]at hi ⊢;exact de (by omega)
  ·rintro i x ys σ' H' hi ⟨zs,rfl,z0,hz,⟨o,rfl⟩,rfl⟩
   obtain⟨c,rfl⟩:=int_at hi;refine HL ?_;refine⟨_,rfl,_,rfl,_,_,rfl,rfl,_,_,rfl,?_⟩;refine⟨zs ++ [if 0 - c > c then 0 - c else c],by simp,?_,by simp[hz],⟨_,rfl⟩,rfl⟩
   intro z hz';rcases Q7.mp hz' with h|h
   ·exact z0 z h
   ·rw[Es.mp h]
    split <;> omega
  ·rintro ys σ' H' ⟨zs,rfl,z0,hz,_,rfl⟩ D hD
   have s2:lA H (upd (upd H p (.lst (cs.map V.int))) D (.lst (zs.map V.int))):=s1.new hD;have hcD:(upd (upd H p (.lst (cs.map V.int))) D (.lst (zs.map V.int))) D=some (.lst (zs.map V.int)):=ar
   generalize upd (upd H p (.lst (cs.map V.int))) D (.lst (zs.map V.int))=H2 at s2 hcD ⊢
   refine⟨_,rfl,_,_,rfl,rfl,?_⟩;refine⟨_,rfl,D,rfl,⟨_,SqL.of hcD⟩,D4 (K:=K) (a:=D) (xs:=zs.map V.int) (fun i σ' H'=>∃(n:Int)(o:Option V),σ' = [some (.ref p0),some (.int b),some (.ref D),some (.int n),o]/\0<=n/\n<2147483647/\H2=H')
    ⟨_,_,rfl,by omega,by omega,rfl⟩ (fun i σ' H' _ ⟨_,_,_,_,_,e⟩=>by rw[<- e];exact SqL.of hcD) ?_ ?_⟩
   ·rintro i y σ' H' hi ⟨n,o,rfl,n0,n1,rfl⟩
    obtain⟨z,rfl⟩:=int_at hi;refine⟨_,rfl,_,_,rfl,rfl,.inr ⟨by decide,by decide⟩,_,rfl,_,_,rfl,rfl,(by show(0:Int)<2147483629;decide),_,_,rfl,rfl,_,_,rfl,rfl,(by show(0:Int)<2147483647;decide),?_⟩
    exact⟨_,_,rfl,(mod_lt (by decide)).1,(mod_lt (by decide)).2,rfl⟩
   ·rintro σ' H' ⟨n,o,rfl,n0,n1',rfl⟩
    intro pd hpd;have Lh:(upd H2 pd (.dK [])) D=some (.lst (zs.map V.int)):=by rw[ah (aH hcD hpd)];exact hcD
    have s3:lA H (upd H2 pd (.dK [])):=s2.new hpd;have Ld:(upd H2 pd (.dK [])) pd=some (.dK []):=ar;have fpd:H pd=none:=s2.free hpd
    generalize upd H2 pd (.dK [])=H3 at Lh s3 Ld ⊢
    refine⟨_,rfl,_,rfl,D,rfl,⟨_,SqL.of Lh⟩,rR (K:=K) (a:=D) (xs:=zs.map V.int) (fun i ys σ' H'=>∃ ws:List Int,ys=ws.map V.int/\(∀ z∈ws,0<=z)/\ws.length<=i/\(∃ o,σ' = [o])/\H3=H') ⟨[],rfl,by simp,QX _,⟨_,rfl⟩,rfl⟩ ?_ ?_ ?_⟩
    ·rintro i ys σ' H' hi ⟨ws,rfl,_,hz',_,rfl⟩
     refine⟨SqL.of Lh,?_⟩;rw[QR]at hi ⊢;rw[QR]at hz;exact de (by omega)
    ·rintro i x ys σ' H' hi ⟨ws,rfl,w0,hz',⟨o,rfl⟩,rfl⟩
     obtain⟨c,rfl,hc⟩:=HA hi;refine⟨_,rfl,_,_,rfl,rfl,⟨by decide,by decide,by decide⟩,_,_,rfl,rfl,_,rfl,?_⟩
     refine gG (fun h1=>?_) (fun h1=>?_)
     ·refine⟨_,rfl,ws ++ [c],by simp,?_,by simp;omega,⟨_,rfl⟩,rfl⟩
      intro z hz';rcases Q7.mp hz' with h|h
      ·exact w0 z h
      ·rw[Es.mp h];exact z0 c hc
     ·exact⟨ws,rfl,w0,by omega,⟨_,rfl⟩,rfl⟩
    ·rintro ys σ' H' ⟨ws,rfl,w0,hz',_,rfl⟩ D2 hD2
     refine⟨D2,_,rfl,SqL.of ar,fun q hq=>?_⟩
     have n1:pd≠D2:=aH Ld hD2;have e1:(upd H3 D2 (.lst (ws.map V.int))) pd=some (.dK []):=by rw[ah n1];exact Ld
     have n2:pd≠q:=aH e1 hq;have s4:lA H (upd (upd H3 D2 (.lst (ws.map V.int))) q (.lst ((ws.map V.int).reverse))):=(s3.new hD2).new hq;refine⟨by rw[ah n2];exact e1,[(.inr "seed",.int n),(.inr "number",.int 0),(.inr "left",.ref q)],rfl,(by show 3<=15;decide),?_⟩
     rw[show d7 [] [((.inr "seed":Key),V.int n),(.inr "number",.int 0),(.inr "left",.ref q)]=dk n 0 q from by kernel_rfl]
     refine k pd q _ fpd ((s3.new hD2).free hq) ⟨n,0,ws.reverse,ar,?_,n0,n1',RO _,?_⟩ ?_
     ·rw[ah n2.symm,ar,List.map_reverse]
     ·intro x hx;exact w0 x (by simpa using hx)
     ·intro c o hc
      have:c≠pd:=aH hc fpd
      rw[ah this];exact s4 c o hc
theorem Dh(T:Txt K mg a):aQ P w K mg base CX0 2 a.kl a.zC ["_law_deal_here","_law_many"] (spQ K GD):=by
 have ed:=Eb (@zf P w K mg base a T);refine T.zR.F.okQ bz (fun ts Q h=>?_) (fun _ _ _ _ _ _ hr=>?_)
 ·obtain⟨m,rfl,_⟩:=h;rfl
 ·have hu:=bC hr;refine⟨_,_,((af (aE 2 bz.nd aR)
 (af (aE 3 bz.nd (Gx (QPF.w aR) (QPF.w (lX rfl (Ai rfl T.mn (ae (QPF.w (dt ed hr T.ef (ae (qv 0) (ae ao aJ)))) aJ)) (N':=["_law_k","_law_letters","_law_deal_here"]) (.own rfl (.got (i:=2) rfl rfl (.inl rfl) (.got (i:=0) rfl rfl (.inl rfl) .nil))) (pe (g:=(Tg.nm 0)) (fun _ _ _ _ _=>⟨(xo 0),(QPE.f (aN (qv 1) (QPF.w (dt ed hr T.ef (ae (qv 2) (ae ao aJ))))))⟩))))))
 (af (aE 4 bz.nd (dt ed hr T.ef (ae (qv 0) (ae (QPF.w (bf (QPF.w (mQ T.qf (ae (qv 3) aJ))) ao)) aJ))))
 (af (aE 5 bz.nd (dt ed hr T.ef (ae (qv 0) (ae ao aJ))))
 (af (aE 6 bz.nd (a5 aw))
 (af (gY (g:=(Tg.nm 7)) PassesOwn.never rfl (mL rfl T.mn (ae (qv 1) aJ)) (iT 7 bz.nd)
 (af (aE 8 bz.nd (QPE.f (aN (qv 2) (QPF.w (CK (QPF.w (bf (qv 5) (QPF.w (mP ao (qv 7))))) ao)))))
 (af (aE 9 bz.nd (bf (QPF.w (bf (QPF.w (bf (QPF.w (bf (QPF.w (lV (qv 3) ox (ow (qv 4)))) (qv 8))) (QPF.w (lV (qv 3) (ow (qv 4)) ox)))) (QPF.w (mP (QPF.w aR) (QPF.w (CK (qv 7) ao)))))) (QPF.w (mP (QPF.w aR) (QPF.w (Gy (qv 7) ao))))))
 (af (cn (cX (xu rfl) sk rfl (qv 9) (QPF.w (aI (iJ (by rfl)))))
 (aj (aE 9 bz.nd (bf (qv 9) (QPF.w aR))))
 cz)
 (af (cn (cX (xu rfl) sk rfl (qv 9) (QPF.w (aI (iJ (by rfl)))))
 (aj (aE 9 bz.nd (bf (qv 9) (QPF.w aR))))
 cz)
 (aj (fN (i:=6) (pv 6) (QPE.f (qv 9)))))))))
 (af (aE 10 bz.nd (a5 (iJ (by rfl))))
 (af (aE 10 bz.nd (bf (qv 10) (QPF.w (a5 (iJ (by rfl))))))
 (af (aE 9 bz.nd (QPE.f (aN (qv 10) (QPF.w (dt ed hr T.ef (ae (qv 0) (ae ao aJ)))))))
 (af (cn (QPW.pt (sH (fV hu (QPF.w (dt ed hr T.ef (ae (qv 0) (ae ao aJ)))) ao) (ou (cX (Au rfl) sk rfl (qv 9) (qv 6)))))
 (aj (Gi (i:=6) (pv 6) (QPF.w (dt ed hr T.ef (ae (qv 0) (ae (qv 1) aJ)))) (qv 9)))
 cz)
 (aj (lU (i:=6) (pv 6)))))))))))))),fun ts Q h=>?_⟩
  obtain⟨m,rfl,m0,m1,hq⟩:=h;refine⟨by decide,by decide,fun n n0 n1=>⟨by omega,by omega,de (by rw[lP];omega),fun i ys=>∃ cs:List Nat,ys=cs.map (fun c=>.s ⟨#[c]⟩)/\cs.length=i,⟨[],rfl,rfl⟩,?_,?_⟩⟩
  ·rintro i x ys hx ⟨cs,rfl,hc⟩
   obtain⟨rfl,hi⟩:=sG hx;refine⟨_,rfl,by decide,by decide,fun r r0 r1=>⟨by decide +kernel,_,zh r0 r1,rfl,?_⟩⟩
   exact⟨cs ++ [nW r.toNat],by simp,by simp[hc]⟩
  ·rintro ys ⟨cs,rfl,hc⟩
   rw[lP]at hc;have e2:((cs.map (fun c=>(⟨#[c]⟩:Str))).map (·.length)).sum=cs.length:=by
    clear hc
    induction cs with
    | nil=>rfl
    | cons c cs ih=>simp only[Rt,List.sum_cons,Rj,ih,show(⟨#[c]⟩:Str).length=1 from rfl];omega
   refine⟨cs.map (fun c=>(⟨#[c]⟩:Str)),?_,?_,?_⟩
   ·rw[<- FG,List.map_map];rfl
   ·rw[e2,show(Str.ofString "").length=0 from by decide +kernel];omega
   have z:=PySem.size_glued (Str.ofString "") (cs.map (fun c=>(⟨#[c]⟩:Str)))
   rw[e2,show(Str.ofString "").length=0 from by decide +kernel]at z
   have lz:(Txt.join (Str.ofString "") (cs.map (fun c=>(⟨#[c]⟩:Str)))).length<=5:=by
    show(Builtin.Str.glued _ _).length<=5;omega
   generalize Txt.join (Str.ofString "") (cs.map (fun c=>(⟨#[c]⟩:Str)))=core at lz ⊢
   refine⟨cM (by omega),by omega,by omega,fun at_ a0 a1=>⟨by decide,by decide,fun tn t0 t1=>?_⟩⟩
   have lc1:(Txt.slice core none (some at_)).length<=5:=Ra (Txt.slice_le _ _ _) lz;have lc2:(Txt.slice core (some at_) none).length<=5:=Ra (Txt.slice_le _ _ _) lz;have lx:(Str.ofString "x").length=1:=by decide +kernel
   have ly:(Str.ofString "y").length=1:=by decide +kernel
   have lq:(Str.ofString "q").length=1:=by decide +kernel
   refine⟨by omega,by omega,fun i q=>(∃ o7 o8 o9 L,q = [.r .lb,.r (.i m),.o (.s tQ),.o (.s core),.o (.i at_),.o (.i tn),.o (.l L),o7,o8,o9,.no]/\L =((Rf i).map (wordOf kept (Txt.slice core none (some at_)) (Txt.slice core (some at_) none) tn.toNat)).map .s),⟨_,_,_,_,rfl,rfl⟩,?_,?_⟩
   ·rintro i x q hx ⟨o7,o8,o9,L,rfl,rfl⟩
    obtain⟨rfl,hi⟩:=sG hx;have hi:i<52:=by omega
    have e1:∀ c:Nat,(⟨#[c]⟩:Str).length=1:=fun _=>rfl
    have eL:nW (((tn+7*(0+(i:Int))) % 26).toNat)=nW (tn.toNat+7*i):=by
     have ht:tn+7*(0+(i:Int)) =((tn.toNat+7*i:Nat):Int):=by rw[S0,Int.natCast_add,S3,Sj t0];rfl
     rw[ht];show 97+(tn.toNat+7*i) % 26 % 26=97+(tn.toNat+7*i) % 26;rw[Nat.mod_mod]
    have r1:=iz "x" ((0+(i:Int)) % 2).toNat;have r2:=iz "y" ((0+(i:Int)) / 26).toNat;rw[lx]at r1;rw[ly]at r2;refine⟨_,rfl,.inl ⟨by omega,by omega⟩,(by show(0:Int)<26;decide),(by decide +kernel),_,zh (mod_lt (by decide)).1 (mod_lt (by decide)).2,rfl,?_⟩
    refine⟨cM (by omega),cM (by rw[e1];omega),cM (by omega),cM (by rw[Str.length_append,e1];omega),(by show(0:Int)<2;decide),by omega,by omega,by omega,cM (by rw[Str.length_append,Str.length_append,e1];omega),⟨by decide,by decide⟩,by omega,by omega,by omega,cM (by rw[Str.length_append,Str.length_append,Str.length_append,e1];omega),?_⟩
    have eW:Txt.slice core none (some at_)++⟨#[nW (((tn+7*(0+(i:Int))) % 26).toNat)]⟩++Txt.slice core (some at_) none++jB "x" ((0+(i:Int)) % 2).toNat++jB "y" ((0+(i:Int)) / 26).toNat=cf (Txt.slice core none (some at_)) (Txt.slice core (some at_) none) tn.toNat i:=by
     unfold cf;rw[eL,show((0+(i:Int)) % 2).toNat=i % 2 from by rw[S0];rfl,show((0+(i:Int)) / 26).toNat=i / 26 from by rw[S0];rfl]
    have lW:=kq (Txt.slice core none (some at_)) (Txt.slice core (some at_) none) tn.toNat i;rw[eW];have snoc:∀ z:Str,z=wordOf kept (Txt.slice core none (some at_)) (Txt.slice core (some at_) none) tn.toNat i ->
      ((Rf i).map (wordOf kept (Txt.slice core none (some at_)) (Txt.slice core (some at_) none) tn.toNat)).map L2.T.s ++ [L2.T.s z] =((Rf (i+1)).map (wordOf kept (Txt.slice core none (some at_)) (Txt.slice core (some at_) none) tn.toNat)).map L2.T.s:=fun z hz=>by
     subst hz;rw[S4];simp
    have ln:(((Rf i).map (wordOf kept (Txt.slice core none (some at_)) (Txt.slice core (some at_) none) tn.toNat)).map L2.T.s).length<QD:=de (by simp;omega)
    refine⟨by rfl,gG (fun g1=>?_) (fun g1=>?_)⟩
    ·have g1:inV (.str (cf (Txt.slice core none (some at_)) (Txt.slice core (some at_) none) tn.toNat i)) (vD.map V.str)=true:=by rw[<- iA];exact g1
     refine⟨cM (by rw[lq];omega),by rfl,gG (fun g2=>?_) (fun _=>?_)⟩
     ·have g2:inT (.s (cf (Txt.slice core none (some at_)) (Txt.slice core (some at_) none) tn.toNat i++("q":Str))) (kJ.map L2.T.s)=true:=g2;rw[iA,KU]at g2;cases g2
     exact⟨ln,rfl,_,_,_,_,rfl,snoc (cf (Txt.slice core none (some at_)) (Txt.slice core (some at_) none) tn.toNat i++("q":Str)) (by unfold wordOf;rw[k6,g1,Tp,if_pos rfl])⟩
    ·have g1:inV (.str (cf (Txt.slice core none (some at_)) (Txt.slice core (some at_) none) tn.toNat i)) (vD.map V.str)=false:=by
      cases e:inV (.str (cf (Txt.slice core none (some at_)) (Txt.slice core (some at_) none) tn.toNat i)) (vD.map V.str)with
      | false=>rfl
      | true=>rw[<- iA]at e;exact absurd e g1
     refine⟨by rfl,gG (fun g2=>?_) (fun g2=>?_)⟩
     ·have g2:inV (.str (cf (Txt.slice core none (some at_)) (Txt.slice core (some at_) none) tn.toNat i)) (kJ.map V.str)=true:=by rw[<- iA];exact g2
      exact⟨cM (by rw[lq];omega),ln,rfl,_,_,_,_,rfl,snoc (cf (Txt.slice core none (some at_)) (Txt.slice core (some at_) none) tn.toNat i++("q":Str)) (by unfold wordOf;rw[k6,g1,g2,SE,if_pos rfl])⟩
     ·have g2:inV (.str (cf (Txt.slice core none (some at_)) (Txt.slice core (some at_) none) tn.toNat i)) (kJ.map V.str)=false:=by
       cases e:inV (.str (cf (Txt.slice core none (some at_)) (Txt.slice core (some at_) none) tn.toNat i)) (kJ.map V.str)with
       | false=>rfl
       | true=>rw[<- iA]at e;exact absurd e g2
      exact⟨ln,rfl,_,_,_,_,rfl,snoc (cf (Txt.slice core none (some at_)) (Txt.slice core (some at_) none) tn.toNat i) (by unfold wordOf;rw[k6,g1,g2,SE,if_neg (by decide),Str.append_empty])⟩
   ·rintro q ⟨o7,o8,o9,L,rfl,rfl⟩
    rw[lP];have nd:((Rf m.toNat).map (wordOf kept (Txt.slice core none (some at_)) (Txt.slice core (some at_) none) tn.toNat)).Nodup:=nodup_range fun i j hi hj hne=>zV (by omega) (by omega) hne
    have wl:∀ w∈(Rf m.toNat).map (wordOf kept (Txt.slice core none (some at_)) (Txt.slice core (some at_) none) tn.toNat),1<=w.length/\w.length<=20:=fun w hw=>by
     obtain⟨i,hi,rfl⟩:=RJ.mp hw;exact wx lc1 lc2 (by have:=Sd.mp hi;omega)
    have ll:((Rf m.toNat).map (wordOf kept (Txt.slice core none (some at_)) (Txt.slice core (some at_) none) tn.toNat)).length=m.toNat:=by simp
    generalize(Rf m.toNat).map (wordOf kept (Txt.slice core none (some at_)) (Txt.slice core (some at_) none) tn.toNat)=ws at nd wl ll
    refine⟨cM (by decide),by rfl,by rfl,by decide,by decide,fun r r0 r1=>?_⟩
    obtain⟨wd,ew,hm⟩:=zK (ws:=near) r0 r1;refine⟨_,ew,rfl,by decide,by decide,fun r3 _ _=>⟨rfl,?_⟩⟩
    have done:Q (.l (ws.map .s)):=hq ws (by omega) nd wl
    refine gG (fun _=>?_) (fun _=>P1 done)
    refine⟨by rw[D5];rfl,gG (fun h2=>?_) (fun _=>done)⟩
    have hni:wd ∉ ws:=HB (by rw[<- iA];simpa using h2)
    refine⟨m0,by omega,fun r4 r40 r41=>⟨r4.toNat,?_,DP ws,rfl,?_⟩⟩
    ·unfold ixN;rw[if_pos r40,if_pos (by rw[QR];omega)]
    ·have z:=hq (ws.set r4.toNat wd) (by rw[Rz];omega) (AI nd hni) fun w hw=>by
      rcases SQ hw with z|z
      ·exact wl w z
      ·rw[z];exact Du wd hm
     rw[List.map_set]at z;exact z
theorem ze(T:Txt K mg a):aQ P w K mg base CX0 1 a.bG a.jZ ["self","piece","above","arm"] (wH a.aV ["piece","above","arm"]):=by
 refine Fun.ok (k:=0) T.gO su (fun vs H Q E h=>?_) fun cdv A outer s H vs Q E hr h=>?_
 ·obtain⟨x,dx,args,rfl,hl,_⟩:=h;show args.length+1=4;rw[hl];rfl
 ·obtain⟨x,dx,args,rfl,hl,hx,hq⟩:=h;obtain⟨v1,v2,v3,rfl⟩:∃ v1 v2 v3,args = [v1,v2,v3]:=by
   match args,hl with
   | [v1,v2,v3],_=>exact⟨v1,v2,v3,rfl⟩
  refine⟨_,bA (sQ (pv 0) (pv 1) rfl) (bA (sQ (pv 0) (pv 2) rfl) (iK (sQ (pv 0) (pv 3) rfl))),?_⟩;refine⟨_,rfl,_,rfl,x,a.aV,dx,_,rfl,hx,T.mj,T.ib,(by show 0<1000;decide),?_⟩
  refine⟨_,rfl,_,rfl,x,a.aV,dx,_,rfl,ar,T.mj,T.qP,(by show 1<1000;decide),?_⟩
  refine⟨_,rfl,_,rfl,x,a.aV,dx,_,rfl,ar,T.mj,T.vw,(by show 2<1000;decide),?_⟩
  rw[yG,yG];exact hq
theorem jK(T:Txt K mg a):aQ P w K mg base CX0 1 a.bj a.ig ["self","body","between"] (spL K 0 (Kt a.ay)):=by
 refine T.eO.okL oT (fun ts Q h=>?_) (fun _ _ _ _ _ _ hr=>?_) fun ts Q h=>?_
 ·obtain⟨_,_,_,_,_,_,_,rfl,_⟩:=h;rfl
 ·have hu:=bC hr;refine⟨_,_,((af (cQ T.aC T.aD (az (j:=0)) (QPE.f (qv 1)))
 (aj (sI T.aC T.jk x3 (az (j:=0)) (QPF.w (bf ao (qv 2))))))),fun ts Q t0 a0 h ht ha=>?_⟩
  obtain⟨x,f,n,p,ns,b,k,rfl,hb,hq⟩:=h;cases ht;cases ha;refine⟨hb,rfl,by decide,_,rfl,?_⟩
  refine⟨rfl,by decide,n,rfl,_,rfl,?_⟩
  exact⟨_,rfl,rfl,hq⟩
 ·obtain⟨x,f,n,p,ns,b,k,rfl,_⟩:=h;exact⟨_,_,rfl,rfl⟩
theorem cJ(T:Txt K mg a):aQ P w K mg base CX0 2 a.aL a.c8 ["self","value"] (spL K 0 (xl a.ay)):=by
 have ij:=@jK P w K mg base a T;refine T.bU.okL kx (fun ts Q h=>?_) (fun _ _ _ _ _ _ hr=>?_) fun ts Q h=>?_
 ·obtain⟨_,_,_,_,_,_,_,_,rfl,_⟩:=h;rfl
 ·have hu:=bC hr;refine⟨_,_,((af (Gk hu (a6 T.aC T.cv (az (j:=0))) (aN (aS (a6 T.aC T.aD (az (j:=0)))) ao) (qv 1))
 (aj (bW T.aC T.jO ij (hr.mono (by first|decide|omega)) T.kL (az (j:=0)) (ae (aN (aS (a6 T.aC T.aD (az (j:=0)))) (QPF.w (mO ao))) (ae ao aJ)))))),fun ts Q t0 a0 h ht ha=>?_⟩
  obtain⟨x,f,n,ps,ns,v,y,b,rfl,hv,hns,hl,hps,e1,e2,hq⟩:=h;cases ht;cases ha;have hb:b.im=true:=by
   have:=List.mem_of_getLast? e2
   exact zk hps this
  refine⟨rfl,_,rfl,rfl,_,rfl,_,ur e1,Q8 hl (by decide),hns,hv,_,rfl,?_⟩
  refine⟨rfl,rfl,rfl,_,rfl,b,Ip e2,(by show(b.im&&(true&&true))=true;rw[hb];rfl),a0,f,n,_,_,b,0,rfl,hb,rfl,rfl,_,rfl,?_⟩
  exact⟨_,rfl,rfl,hq⟩
 ·obtain⟨x,f,n,ps,ns,v,y,b,rfl,_⟩:=h;exact⟨_,_,rfl,rfl⟩
theorem d6(T:Txt K mg a):aQ P w K mg base CX0 1 a.aY a.fu ["self","ending"] (spL K 0 (Ak a.av)):=by
 refine T.cT.okL mI (fun ts Q h=>?_) (fun _ _ _ _ _ _ hr=>?_) fun ts Q h=>?_
 ·obtain⟨_,_,_,_,_,_,_,rfl,_⟩:=h;rfl
 ·have hu:=bC hr;refine⟨_,_,((af (cQ T.ax T.cu (az (j:=0)) (QPE.f (qv 1)))
 (aj (cQ T.ax T.bb (az (j:=0)) (a5 aw))))),fun ts Q t0 a0 h ht ha=>?_⟩
  obtain⟨x,fns,frs,c,m,e,v,rfl,hv,hq⟩:=h;cases ht;cases ha;refine⟨hv,rfl,by decide,_,rfl,?_⟩
  refine⟨rfl,by decide,_,rfl,?_⟩
  exact⟨_,rfl,rfl,hq⟩
 ·obtain⟨x,fns,frs,c,m,e,v,rfl,_⟩:=h;exact⟨_,_,rfl,rfl⟩
theorem ia(T:Txt K mg a):aQ P w K mg base CX0 1 a.bE a.jd ["self"] (spQ K (xk a.av fun c _ _=>.i c)):=by
 refine T.fL.okQ qJ (fun ts Q h=>?_) (fun _ _ _ _ _ _ hr=>?_)
 ·obtain⟨_,_,_,_,_,_,rfl,_⟩:=h;rfl
 ·refine⟨_,_,((aj (bo (QPE.f (oz T.ax T.eI (qv 0)))))),fun ts Q h=>?_⟩
  obtain⟨x,fns,frs,c,m,e,rfl,he,hq⟩:=h;exact⟨rfl,_,rfl,rfl,hq⟩
theorem h9(T:Txt K mg a):aQ P w K mg base CX0 1 a.bD a.jc ["self"] (spQ K (xk a.av fun _ m _=>.i m)):=by
 refine T.fK.okQ qI (fun ts Q h=>?_) (fun _ _ _ _ _ _ hr=>?_)
 ·obtain⟨_,_,_,_,_,_,rfl,_⟩:=h;rfl
 ·refine⟨_,_,((aj (bo (QPE.f (oz T.ax T.i9 (qv 0)))))),fun ts Q h=>?_⟩
  obtain⟨x,fns,frs,c,m,e,rfl,he,hq⟩:=h;exact⟨rfl,_,rfl,rfl,hq⟩
theorem jJ(T:Txt K mg a):aQ P w K mg base CX0 1 a.cw a.lg ["self"] (spQ K (xk a.av fun _ _ e=>e)):=by
 refine T.jh.okQ uV (fun ts Q h=>?_) (fun _ _ _ _ _ _ hr=>?_)
 ·obtain⟨_,_,_,_,_,_,rfl,_⟩:=h;rfl
 ·refine⟨_,_,((aj (bo (QPE.f (oz T.ax T.cu (qv 0)))))),fun ts Q h=>?_⟩
  obtain⟨x,fns,frs,c,m,e,rfl,he,hq⟩:=h;exact⟨rfl,_,rfl,he,hq⟩
def Al(CW CF:Addr):ju:=fun ts Q=>∃ a x fns n wd k b ns c m,ts = [wT CW a fns [fT CF x 0 n (.t [.s wd,.i k,b]) ns] c m .n,.rf x,.s wd]/\b.im=true/\(wd = "pay" \/ wd = "get") /\
 ((wd = "pay" /\ k > c->Q .n (wT CW a fns [] c m (.t [.s "short",.i k])))/\(wd = "pay" /\ ¬ k > c->Q .n (wT CW a fns [fT CF x 0 (n+1) b ns] (c - k) m .n))/\(wd = "get" -> Q .n (wT CW a fns [fT CF x 0 (n+1) b ns] (c+k) m .n)))
theorem mV(T:Txt K mg a):aQ P w K mg base CX0 3 a.aZ a.fv ["self","frame","word"] (spL K 0 (Al a.av a.ay)):=by
 have ij:=@jK P w K mg base a T;have bY:=@d6 P w K mg base a T;refine T.cU.okL iu (fun ts Q h=>?_) (fun _ _ _ _ _ _ hr=>?_) fun ts Q h=>?_
 ·obtain⟨_,_,_,_,_,_,_,_,_,_,rfl,_⟩:=h;rfl
 ·have hu:=bC hr;refine⟨_,_,((af (aE 3 iu.nd (QPE.f (aN (aS (a6 T.aC T.aD (b6 (j:=0) (i:=1)))) ao)))
 (aj (cn (QPW.pt (sH (fV hu (qv 2) (QPF.w aR)) (ou (yT (qv 3) (aS (a6 T.ax T.eI (az (j:=0))))))))
 (aj (bW T.ax T.d8 bY (hr.mono (by first|decide|omega)) T.fA (az (j:=0)) (ae (QPF.w (aI (ag aR (ag (QPE.f (qv 3)) aw)))) aJ)))
 (af (sI T.ax T.eI x3 (az (j:=0)) (QPF.w (IW (fV hu (qv 2) (QPF.w aR)) (QPE.f (qv 3)) (mO (qv 3)))))
 (aj (bW T.aC T.jO ij (hr.mono (by first|decide|omega)) T.kL (b6 (j:=0) (i:=1)) (ae (aN (aS (a6 T.aC T.aD (b6 (j:=0) (i:=1)))) ao) (ae ao aJ))))))))),fun ts Q t0 a0 h ht ha=>?_⟩
  obtain⟨x0,x,fns,n,wd,k,b,ns,c,m,rfl,hb,hw,h1,h2,h3⟩:=h;cases ht;cases ha;refine⟨x,_,[.inl "running",.inr 0],_,_,_,.inl rfl,rfl,rfl,rfl,_,rfl,.i k,rfl,rfl,?_⟩;rcases hw with rfl|rfl
  ·refine⟨rfl,rfl,_,rfl,gG (fun g=>?_) fun g=>?_⟩
   ·refine⟨rfl,rfl,rfl,rfl,a0,_,_,c,m,.n,_,rfl,rfl,rfl,rfl,_,rfl,?_⟩;exact⟨_,rfl,rfl,h1 ⟨rfl,of_decide_eq_true g⟩⟩
   ·refine⟨rfl,by decide,c,rfl,rfl,_,rfl,?_⟩
    refine⟨x,_,[.inl "running",.inr 0],_,_,_,.inl rfl,rfl,rfl,rfl,rfl,x,_,[.inl "running",.inr 0],_,_,_,.inl rfl,rfl,rfl,rfl,_,rfl,b,rfl,(by show(b.im&&(true&&true))=true;rw[hb];rfl),x,0,n,_,ns,b,0,rfl,hb,rfl,rfl,_,rfl,?_⟩
    exact⟨_,rfl,rfl,h2 ⟨rfl,fun z=>g (decide_eq_true z)⟩⟩
  ·refine⟨rfl,rfl,by decide,c,rfl,rfl,rfl,_,rfl,?_⟩
   refine⟨x,_,[.inl "running",.inr 0],_,_,_,.inl rfl,rfl,rfl,rfl,rfl,x,_,[.inl "running",.inr 0],_,_,_,.inl rfl,rfl,rfl,rfl,_,rfl,b,rfl,(by show(b.im&&(true&&true))=true;rw[hb];rfl),x,0,n,_,ns,b,0,rfl,hb,rfl,rfl,_,rfl,?_⟩
   exact⟨_,rfl,rfl,h3 rfl⟩
 ·obtain⟨x0,x,fns,n,wd,k,b,ns,c,m,rfl,_⟩:=h;exact⟨_,_,rfl,rfl⟩
def C1(CW CF:Addr):ju:=fun ts Q=>∃ a x fns n y ns c m v,ts = [wT CW a fns [fT CF x 0 n (.t [.s "give",.s y]) ns] c m .n,.rf x]/\eT ns (.inr y)=some v/\v.im=true/\Q .n (wT CW a fns [] c m (.t [.s "gave",v]))
theorem nT(T:Txt K mg a):aQ P w K mg base CX0 3 a.a9 a.gA ["self","frame"] (spL K 0 (C1 a.av a.ay)):=by
 have bp:=@cJ P w K mg base a T;have bY:=@d6 P w K mg base a T;refine T.dI.okL jj (fun ts Q h=>?_) (fun _ _ _ _ _ _ hr=>?_) fun ts Q h=>?_
 ·obtain⟨_,_,_,_,_,_,_,_,_,rfl,_⟩:=h;rfl
 ·have hu:=bC hr;refine⟨_,_,((af (aE 2 jj.nd (QPE.f (sJ (aS (a6 T.aC T.cv (b6 (j:=0) (i:=1)))) (aN (aS (a6 T.aC T.aD (b6 (j:=0) (i:=1)))) ao))))
 (af (Gm (a6 T.ax T.bb (az (j:=0))))
 (aj (cn (lS (aS (a6 T.ax T.bb (az (j:=0)))))
 (aj (bW T.aC T.cK bp (hr.mono (by first|decide|omega)) T.c9 (IU (n:=-1) (a6 T.ax T.bb (az (j:=0))) (C5 wz a7) (fun _ _ _ h=>⟨1,rfl,h⟩)) (ae (qv 2) aJ)))
 (aj (bW T.ax T.d8 bY (hr.mono (by first|decide|omega)) T.fA (az (j:=0)) (ae (QPF.w (aI (ag aR (ag (QPE.f (qv 2)) aw)))) aJ)))))))),fun ts Q t0 a0 h ht ha=>?_⟩
  obtain⟨x0,x,fns,n,y,ns,c,m,v,rfl,hy,hv,hq⟩:=h;cases ht;cases ha;refine⟨x,_,[.inl "running",.inr 0],_,_,_,.inl rfl,rfl,rfl,rfl,_,rfl,x,_,[.inl "running",.inr 0],_,_,_,.inl rfl,rfl,rfl,rfl,_,rfl,.s y,rfl,v,hy,hv,?_⟩;refine⟨rfl,_,rfl,Sg _ _,_,rfl,?_⟩;refine⟨rfl,_,rfl,?_⟩;refine⟨rfl,rfl,hv,(by show((true&&(v.im&&true))&&true)=true;rw[hv];rfl),a0,_,_,c,m,.n,_,rfl,(by show(true&&(v.im&&true))=true;rw[hv];rfl),rfl,rfl,_,rfl,?_⟩
  exact⟨_,rfl,rfl,hq⟩
 ·obtain⟨x0,x,fns,n,y,ns,c,m,v,rfl,_⟩:=h;exact⟨_,_,rfl,rfl⟩
def MV:PSp:=fun ts Q=>∃ m:Str,ts = [.t [.s m,.t []]]/\Q (.l [.s m])
theorem tK(T:Txt K mg a):aQ P w K mg base CX0 1 a.dg a.nL ["value"] (spQ K MV):=by
 refine T.nP.F.okQ fD (fun ts Q h=>?_) (fun _ _ _ _ _ _ hr=>?_)
 ·obtain⟨m,rfl,_⟩:=h;rfl
 ·have hu:=bC hr;refine⟨_,_,((af (aE 1 fD.nd (a5 aw))
 (af (aE 2 fD.nd (a5 (ag (QPE.f (qv 0)) aw)))
 (af (lT PassesOwn.never (lS (qv 2))
 (af (CJ (j:=3) fD.nd rfl (Or.inl rfl) (pv 2))
 (af (fN (i:=1) (pv 1) (QPE.f (aN (qv 3) ao)))
 (aj (rE (i:=2) (pv 2) (va rfl rfl T.ym rfl T.lr (aN (qv 3) ao)))))))
 (aj (lU (i:=1) (pv 1))))))),fun ts Q h=>?_⟩
  obtain⟨m,rfl,hq⟩:=h;refine⟨rfl,fun c q=>(c=1/\q = [.r (.t [.s m,.t []]),.o (.l []),.o (.l [.t [.s m,.t []]]),.no])\/(c=0/\∃ o3,q = [.r (.t [.s m,.t []]),.o (.l [.s m]),.o (.l []),o3]),⟨1,.inl ⟨rfl,rfl⟩⟩,?_⟩
  rintro c q (⟨rfl,rfl⟩ |⟨rfl,o3,rfl⟩)
  ·refine⟨fun q'=>∃ o3,q' = [.r (.t [.s m,.t []]),.o (.l [.s m]),.o (.l []),o3],fun q' ⟨o3,e⟩=>⟨0,by decide,.inr ⟨rfl,o3,e⟩⟩,?_⟩
   refine⟨[],_,rfl,rfl,by decide,?_⟩
   refine⟨by decide,.s m,rfl,rfl,?_⟩
   exact⟨.t [],rfl,rfl,by decide,_,rfl⟩
  ·exact hq
theorem G7(T:Txt K mg a):aQ P w K mg base CX0 2 a.mZ a.Eg ["value"] (spQ K fun ts Q=>∃ m:Str,ts = [.t [.s m,.t []]]/\Q (.i 1)):=by
 have v5:=@tK P w K mg base a T;refine T.EO.F.okQ F7 (fun ts Q h=>?_) (fun _ _ _ _ _ _ hr=>?_)
 ·obtain⟨m,rfl,_⟩:=h;rfl
 ·have hu:=bC hr;refine⟨_,_,((aj (bo (mQ T.qf (ae (QPF.w (dt v5 hr T.nP (ae (qv 0) aJ))) aJ))))),fun ts Q h=>?_⟩
  obtain⟨m,rfl,hq⟩:=h;exact⟨m,rfl,hq⟩
theorem Dk(T:Txt K mg a):aQ P w K mg base CX0 1 a.ko a.zF ["value"] (spQ K fun ts Q=>∃ m:Str,ts = [.t [.s m,.t []]]/\Q (.i 1)):=by
 refine T.zU.F.okQ fS (fun ts Q h=>?_) (fun _ _ _ _ _ _ hr=>?_)
 ·obtain⟨m,rfl,_⟩:=h;rfl
 ·have hu:=bC hr;refine⟨_,_,((af (aE 1 fS.nd dP)
 (af (aE 2 fS.nd (a5 (ag (QPE.f (qv 0)) aw)))
 (af (lT PassesOwn.never (lS (qv 2))
 (af (Gs (i:=1) fS.nd ao)
 (af (aE 3 fS.nd (a5 aw))
 (af (gY (g:=(Tg.nm 4)) PassesOwn.never rfl (oy (i:=2) (pv 2)) (iT 4 fS.nd)
 (aj (Gq (i:=3) (pv 3) (aN (qv 4) ao))))
 (aj (Gp (i:=2) (j:=3) fS.nd (pv 3)))))))
 (aj (bo (QPE.f (qv 1)))))))),fun ts Q h=>?_⟩
  obtain⟨m,rfl,hq⟩:=h;refine⟨rfl,fun c q=>(c=1/\∃ o3 o4,q = [.r (.t [.s m,.t []]),.o (.i 0),.o (.l [.t [.s m,.t []]]),o3,o4])\/(c=0/\∃ o3 o4,q = [.r (.t [.s m,.t []]),.o (.i 1),.o (.l []),o3,o4]),⟨1,.inl ⟨rfl,_,_,rfl⟩⟩,?_⟩
  rintro c q (⟨rfl,o3,o4,rfl⟩ |⟨rfl,o3,o4,rfl⟩)
  ·refine⟨fun q'=>∃ o3 o4,q' = [.r (.t [.s m,.t []]),.o (.i 1),.o (.l []),o3,o4],fun q' ⟨o3,o4,e⟩=>⟨0,by decide,.inr ⟨rfl,o3,o4,e⟩⟩,?_⟩
   refine⟨0,rfl,?_⟩;refine⟨fun i q=>∃ o4,q = [.r (.t [.s m,.t []]),.o (.i 1),.r (.l [.t [.s m,.t []]]),.o (.l []),o4],⟨_,rfl⟩,fun i z q hz hi=>?_,fun q hi=>?_⟩
   ·match i,hz with
    | 0,hz =>
     cases hz;obtain⟨o4,rfl⟩:=hi;exact⟨_,rfl,_,rfl,rfl,by decide,_,rfl⟩
   ·obtain⟨o4,rfl⟩:=hi;exact⟨by decide,by show 2<5;decide,_,_,rfl⟩
  ·exact⟨rfl,hq⟩
theorem gj(T:Txt K mg a):aQ P w K mg base CX0 1 a.aT a.dE ["self","names"] (spQ K (xj a.ay)):=by
 refine T.cj.okQ kP (fun ts Q h=>?_) (fun _ _ _ _ _ _ hr=>?_)
 ·obtain⟨_,_,_,_,_,rfl,_⟩:=h;rfl
 ·have hu:=bC hr;refine⟨_,_,((aj (bo (fO (Be rfl) z8 (by rfl) T.Io (by kernel_rfl) (ae (QPF.w (lX rfl (w6 (qv 1)) (N':=["name","self"]) (.own rfl (.got (i:=0) rfl rfl (.inl rfl) .nil)) (pe (g:=(Tg.nm 0)) (fun _ _ _ _ _=>⟨(xo 0),(QPE.f (sJ (oz T.aC T.cv (qv 1)) (qv 0)))⟩)))) aJ))))),fun ts Q h=>?_⟩
  obtain⟨x,f,n,p,ns,rfl,hq⟩:=h;refine⟨(by show 0<QD;decide),fun i ys=>ys = [],rfl,fun i x ys h=>(nomatch h),fun ys e=>?_⟩
  subst e;exact⟨rfl,hq⟩
theorem kI(T:Txt K mg a)(t2:Bool):aQ P w K mg base CX0 1 a.bh a.je ["self","functions","f","values"] (spL K 0 (vj a.ay t2)):=by
 refine T.fM.okL qK (fun ts Q h=>?_) (fun _ _ _ _ _ _ hr=>?_) fun ts Q h=>?_
 ·obtain⟨_,_,_,_,_,_,_,_,_,_,rfl,_⟩:=h;rfl
 ·have hu:=bC hr;refine⟨_,_,((af (cQ T.aC T.xA (az (j:=0)) (QPE.f (qv 2)))
 (af (cQ T.aC T.jk (az (j:=0)) dP)
 (af (cQ T.aC T.aD (az (j:=0)) (QPE.f (aN (aN (qv 1) (qv 2)) ao)))
 (aj (cQ T.aC T.cv (az (j:=0)) (xa (t2:=t2) rfl T.Lx rfl T.NW (ae (QPF.w (lX rfl (w6 (aN (aN (qv 1) (qv 2)) ao)) (N':=["name","kind"]) (.own rfl (.own rfl .nil)) (pe (g:=(Tg.tp [0,1])) (fun _ _ _ _ _=>⟨(GQ (xo 0) (xo 1)),(QPE.f (qv 0))⟩)))) (ae (qv 3) aJ))))))))),fun ts Q t0 a0 h ht ha=>?_⟩
  obtain⟨x,fns,nm,prs,kd,b,y,k,v,u,rfl,rfl,rfl,i1,i2,i3,i4,hu2,hq⟩:=h;cases ht;cases ha;refine⟨rfl,rfl,by decide,_,rfl,?_⟩
  refine⟨rfl,by decide,_,rfl,?_⟩
  refine⟨_,rfl,_,rfl,i3,rfl,by decide,_,rfl,?_⟩
  refine⟨_,rfl,_,rfl,(by show 1<QD;decide),fun i ys=>ys = [L2.T.s y].take i,rfl,fun i z ys hz hi=>?_,fun ys e=>?_⟩
  ·match i,hz with
   | 0,hz =>
    cases hz;subst hi;exact⟨_,rfl,rfl,rfl⟩
  ·subst e;cases t2 with
   | true =>
    subst hu2;refine⟨rfl,(by show(v.im&&true)=true;rw[i4];rfl),[.inr y],rfl,rfl,by decide,_,rfl,?_⟩
    exact⟨_,rfl,rfl,hq⟩
   | false =>
    subst hu2;refine⟨rfl,(by show(v.im&&true)=true;rw[i4];rfl),[.inr y],rfl,rfl,by decide,_,rfl,?_⟩
    exact⟨_,rfl,rfl,hq⟩
 ·obtain⟨x,fns,nm,prs,kd,b,y,k,v,u,rfl,_⟩:=h;exact⟨_,_,rfl,rfl⟩
theorem i7(T:Txt K mg a)(t2:Bool):aQ P w K mg base CX0 3 a.bF a.jY ["self","program","f","args","coins"] (spL K 0 (xi a.av a.ay t2)):=by
 have jg:=@kI P w K mg base a T t2;refine T.gN.okL sr (fun ts Q h=>?_) (fun _ _ _ _ _ _ hr=>?_) fun ts Q h=>?_
 ·obtain⟨_,_,_,_,_,_,_,_,_,_,_,_,rfl,_⟩:=h;rfl
 ·have hu:=bC hr;refine⟨_,_,((af (cQ T.ax T.cb (az (j:=0)) (QPE.f (aN (qv 1) ao)))
 (af (cQ T.ax T.bb (az (j:=0)) (a5 (ag (jC T.vy jg (hr.mono (by first|decide|omega)) rfl T.vx T.mq (ae (aS (a6 T.ax T.cb (az (j:=0)))) (ae (qv 2) (ae (qv 3) aJ)))) aw)))
 (af (cQ T.ax T.eI (az (j:=0)) (QPE.f (qv 4)))
 (af (cQ T.ax T.i9 (az (j:=0)) dP)
 (aj (cQ T.ax T.cu (az (j:=0)) iI))))))),fun ts Q t0 a0 h ht ha=>?_⟩
  obtain⟨x,ks,fns,nm,prs,kd,b,y,k,v,u,c,rfl,rfl,rfl,i1,i2,i3,i4,i5,hu2,hq⟩:=h;cases ht;cases ha;have hi:((L2.T.t [nm,.t [.t [.s y,.s k]],kd,b]).im&&true)=true:=by
   show((nm.im&&(true&&(kd.im&&(b.im&&true))))&&true)=true;rw[i1,i2,i3];rfl
  have hiu:u.im=true:=by
   rw[hu2];cases t2
   ·rfl
   ·rw[if_pos rfl];show(v.im&&true)=true;rw[i4];rfl
  refine⟨_,rfl,hi,rfl,by decide,_,rfl,?_⟩
  refine⟨rfl,_,rfl,(by show(((L2.T.t [nm,.t [.t [.s y,.s k]],kd,b]).im&&true)&&(true&&(u.im&&true)))=true;rw[hi,hiu];rfl),fun z=>?_⟩
  refine⟨z,_,nm,_,kd,b,y,k,v,u,rfl,rfl,rfl,i1,i2,i3,i4,hu2,rfl,rfl,?_⟩;refine⟨rfl,by decide,_,rfl,?_⟩
  refine⟨rfl,rfl,by decide,_,rfl,?_⟩
  refine⟨rfl,by decide,_,rfl,?_⟩
  refine⟨rfl,by decide,_,rfl,?_⟩
  exact⟨_,rfl,rfl,hq z⟩
 ·obtain⟨x,ks,fns,nm,prs,kd,b,y,k,v,u,c,rfl,_⟩:=h;exact⟨_,_,rfl,rfl⟩
def C0(CW CF:Addr):ju:=fun ts Q=>∃ a x fns n y mk b ns c m,ts = [wT CW a fns [fT CF x 0 n (.t [.s "make",.s y,.s mk,.t [],b]) ns] c m .n,.rf x]/\b.im=true/\T.imk ns=true/\ns.length<1000/\Q .n (wT CW a fns [fT CF x 0 (n+1) b (kS ns (.inr y) (.t [.s mk,.t []]))] c m .n)
theorem nS(T:Txt K mg a):aQ P w K mg base CX0 3 a.a8 a.gy ["self","frame"] (spL K 0 (C0 a.av a.ay)):=by
 have bp:=@cJ P w K mg base a T;have bY:=@d6 P w K mg base a T;have dG:=@gj P w K mg base a T;have LD:=@G7 P w K mg base a T;have IG:=@Dk P w K mg base a T;refine T.dH.okL ji (fun ts Q h=>?_) (fun _ _ _ _ _ _ hr=>?_) fun ts Q h=>?_
 ·obtain⟨_,_,_,_,_,_,_,_,_,_,rfl,_⟩:=h;rfl
 ·have hu:=bC hr;refine⟨_,_,((af (aE 2 ji.nd (aI (ag (QPE.f (aN (aS (a6 T.aC T.aD (b6 (j:=0) (i:=1)))) ao)) (ag (u9 T.aC T.gm dG (hr.mono (by first|decide|omega)) T.gL (aS (b6 (j:=0) (i:=1))) (ae (aN (aS (a6 T.aC T.aD (b6 (j:=0) (i:=1)))) ao) aJ)) aw))))
 (aj (cn (QPW.pt (IS (yT (QPF.w (dt LD hr T.EO (ae (qv 2) aJ))) (QPF.w (ve rfl T.rh))) (CG (yT (QPF.w (dt IG hr T.zU (ae (qv 2) aJ))) (QPF.w (ve rfl T.rg))))))
 (aj (bW T.ax T.d8 bY (hr.mono (by first|decide|omega)) T.fA (az (j:=0)) (ae (QPF.w (aI (ag aR (ag (QPE.f (aN (aS (a6 T.aC T.aD (b6 (j:=0) (i:=1)))) ao)) aw)))) aJ)))
 (aj (bW T.aC T.cK bp (hr.mono (by first|decide|omega)) T.c9 (b6 (j:=0) (i:=1)) (ae (qv 2) aJ))))))),fun ts Q t0 a0 h ht ha=>?_⟩
  obtain⟨x0,x,fns,n,y,mk,b,ns,c,m,rfl,hb,hns,hl,hq⟩:=h;cases ht;cases ha;refine⟨x,_,[.inl "running",.inr 0],_,_,_,.inl rfl,rfl,rfl,rfl,_,rfl,.s mk,rfl,rfl,?_⟩;refine⟨x,_,[.inl "running",.inr 0],_,_,_,.inl rfl,rfl,rfl,rfl,rfl,?_⟩;refine⟨x,_,[.inl "running",.inr 0],_,_,_,.inl rfl,rfl,rfl,rfl,_,rfl,.t [],rfl,?_⟩;refine⟨x,0,n,_,ns,rfl,?_⟩;refine⟨mk,rfl,mk,rfl,x,_,[.inl "running",.inr 0],_,_,_,.inl rfl,rfl,rfl,rfl,rfl,rfl,x,0,n,_,ns,_,y,b,rfl,rfl,hns,hl,(by show(true&&(true&&(true&&(true&&(b.im&&true)))))=true;rw[hb];rfl),rfl,rfl,rfl,rfl,_,rfl,?_⟩
  exact⟨_,rfl,rfl,hq⟩
 ·obtain⟨x0,x,fns,n,y,mk,b,ns,c,m,rfl,_⟩:=h;exact⟨_,_,rfl,rfl⟩
theorem xw(T:Txt K mg a):aQ P w K mg base CX0 4 a.dh a.m8 ["self","frame"] (spL K 0 (Pq a.av a.ay)):=by
 have bp:=@cJ P w K mg base a T;have dG:=@gj P w K mg base a T;have jg:=@kI P w K mg base a T true;have qp:=@nT P w K mg base a T;have qm:=@nS P w K mg base a T;have oj:=@mV P w K mg base a T;have vZ:aQ P w K mg base CX0 1 a.df a.nK ["functions","name"] (spQ K fun _ _=>False):=never fun _ _ z=>z
 have kh:aQ P w K mg base CX0 1 a.aG a.cx ["self"] (spL K 0 fun _ _=>False):=.PF fun _ _ z=>z
 refine T.kr.okL kO (fun ts Q h=>?_) (fun _ _ _ _ _ _ hr=>?_) fun ts Q h=>?_
 ·obtain⟨_,_,_,_,_,_,_,_,_,rfl,_⟩:=h;rfl
 ·have hu:=bC hr;refine⟨_,_,((af (aE 2 kO.nd (QPE.f (aN (aS (a6 T.aC T.aD (b6 (j:=0) (i:=1)))) ao)))
 (aj (cn (fV hu (qv 2) (QPF.w aR))
 (aj (bW T.ax T.nV qp (hr.mono (by first|decide|omega)) T.qh (az (j:=0)) (ae (qv 1) aJ)))
 (aj (cn (fV hu (qv 2) (QPF.w aR))
 (aj (bW T.ax T.nU qm (hr.mono (by first|decide|omega)) T.qg (az (j:=0)) (ae (qv 1) aJ)))
 (aj (cn (fV hu (qv 2) (QPF.w aR))
 (af (aE 3 kO.nd (dt vZ hr T.wa (ae (aS (a6 T.ax T.cb (az (j:=0)))) (ae (aN (aS (a6 T.aC T.aD (b6 (j:=0) (i:=1)))) ao) aJ))))
 (aj (Gu (a6 T.ax T.bb (az (j:=0))) (jC T.vy jg (hr.mono (by first|decide|omega)) rfl T.vx T.mq (ae (aS (a6 T.ax T.cb (az (j:=0)))) (ae (qv 3) (ae (QPF.w (u9 T.aC T.gm dG (hr.mono (by first|decide|omega)) T.gL (aS (b6 (j:=0) (i:=1))) (ae (aN (aS (a6 T.aC T.aD (b6 (j:=0) (i:=1)))) ao) aJ))) aJ)))))))
 (aj (cn (fV hu (qv 2) (QPF.w aR))
 (aj (bW T.aC T.cK bp (hr.mono (by first|decide|omega)) T.c9 (b6 (j:=0) (i:=1)) (ae (sJ (aS (a6 T.aC T.cv (b6 (j:=0) (i:=1)))) (aN (aS (a6 T.aC T.aD (b6 (j:=0) (i:=1)))) ao)) aJ)))
 (aj (cn (fV hu (qv 2) (QPF.w aR))
 (aj (mK T.aC T.jr kh (hr.mono (by first|decide|omega)) T.kc (b6 (j:=0) (i:=1))))
 (aj (bW T.ax T.mW oj (hr.mono (by first|decide|omega)) T.og (az (j:=0)) (ae (qv 1) (ae (qv 2) aJ)))))))))))))))),fun ts Q t0 a0 h ht ha=>?_⟩
  obtain⟨x0,x,fns,n,p,ns,c,m,r,rfl,hf,hns,hl,hs,hq⟩:=h;cases ht;cases ha;cases hs with
  | @give y v _ _ h1 h2 =>
   refine⟨x,_,[.inl "running",.inr 0],_,_,_,.inl rfl,rfl,rfl,rfl,_,rfl,.s "give",rfl,rfl,?_⟩;refine⟨rfl,rfl,rfl,rfl,a0,x,fns,n,y,ns,c,m,v,rfl,h1,h2,rfl,rfl,_,rfl,?_⟩;exact⟨_,rfl,rfl,hq⟩
  | @short k _ b _ h1 h2 =>
   refine⟨x,_,[.inl "running",.inr 0],_,_,_,.inl rfl,rfl,rfl,rfl,_,rfl,.s "pay",rfl,rfl,?_⟩;refine⟨rfl,rfl,rfl,rfl,rfl,rfl,rfl,rfl,a0,x,fns,n,_,k,b,ns,c,m,rfl,h1,.inl rfl,fun _=>⟨rfl,rfl,_,rfl,?_⟩,fun g=>absurd h2 g.2,fun g=>absurd g (by decide)⟩
   exact⟨_,rfl,rfl,hq⟩
  | @pay k _ b _ h1 h2 =>
   refine⟨x,_,[.inl "running",.inr 0],_,_,_,.inl rfl,rfl,rfl,rfl,_,rfl,.s "pay",rfl,rfl,?_⟩;refine⟨rfl,rfl,rfl,rfl,rfl,rfl,rfl,rfl,a0,x,fns,n,_,k,b,ns,c,m,rfl,h1,.inl rfl,fun g=>absurd g.2 h2,fun _=>⟨rfl,rfl,_,rfl,?_⟩,fun g=>absurd g (by decide)⟩
   exact⟨_,rfl,rfl,hq⟩
  | @get k _ b _ h1 =>
   refine⟨x,_,[.inl "running",.inr 0],_,_,_,.inl rfl,rfl,rfl,rfl,_,rfl,.s "get",rfl,rfl,?_⟩;refine⟨rfl,rfl,rfl,rfl,rfl,rfl,rfl,rfl,a0,x,fns,n,_,k,b,ns,c,m,rfl,h1,.inr rfl,fun g=>absurd g.1 (by decide),fun g=>absurd g.1 (by decide),fun _=>⟨rfl,rfl,_,rfl,?_⟩⟩
   exact⟨_,rfl,rfl,hq⟩
  | @name y z v b _ _ h1 h2 h3 =>
   refine⟨x,_,[.inl "running",.inr 0],_,_,_,.inl rfl,rfl,rfl,rfl,_,rfl,.s "name",rfl,rfl,?_⟩;refine⟨rfl,rfl,rfl,rfl,x,_,[.inl "running",.inr 0],_,_,_,.inl rfl,rfl,rfl,rfl,rfl,x,_,[.inl "running",.inr 0],_,_,_,.inl rfl,rfl,rfl,rfl,_,rfl,?_⟩;refine⟨x,_,[.inl "running",.inr 0],_,_,_,.inl rfl,rfl,rfl,rfl,_,rfl,.s z,rfl,v,h2,(by show(v.im&&true)=true;rw[h3];rfl),x,0,n,_,ns,v,y,b,rfl,h3,hns,hl,(by show(true&&(true&&(true&&(b.im&&true))))=true;rw[h1];rfl),rfl,rfl,rfl,rfl,_,rfl,?_⟩
   exact⟨_,rfl,rfl,hq⟩
  | @make y mk b _ _ h1 =>
   refine⟨x,_,[.inl "running",.inr 0],_,_,_,.inl rfl,rfl,rfl,rfl,_,rfl,.s "make",rfl,rfl,?_⟩;refine⟨rfl,rfl,rfl,rfl,rfl,a0,x,fns,n,y,mk,b,ns,c,m,rfl,h1,hns,hl,rfl,rfl,_,rfl,?_⟩;exact⟨_,rfl,rfl,hq⟩
 ·obtain⟨x0,x,fns,n,p,ns,c,m,r,rfl,_⟩:=h;exact⟨_,_,rfl,rfl⟩
theorem i6(T:Txt K mg a):aQ P w K mg base CX0 5 a.bQ a.jX ["self"] (spL K 0 (Ko a.av a.ay)):=by
 have Br:=@xw P w K mg base a T;refine T.gM.okL so (fun ts Q h=>?_) (fun _ _ _ _ _ _ hr=>?_) fun ts Q h=>?_
 ·rcases h with⟨_,_,_,_,_,_,_,_,_,rfl,_⟩ |⟨_,_,_,_,_,rfl,_⟩ <;> rfl
 ·have hu:=bC hr;refine⟨_,_,((af (cn (cX tJ oo (bI _) (aS (a6 T.ax T.cu (az (j:=0)))) (QPF.w iI))
 (af (sI T.ax T.i9 x3 (az (j:=0)) ao)
 (aj (bW T.ax T.xF Br (hr.mono (by first|decide|omega)) T.Bk (az (j:=0)) (ae (QPF.w (J9 (IU (n:=-1) (a6 T.ax T.bb (az (j:=0))) (C5 wz a7) (fun _ _ _ h=>⟨1,rfl,h⟩)))) aJ))))
 cz)
 (aj (Gj (mR tJ oo (bI _) (aS (a6 T.ax T.cu (az (j:=0)))) (QPF.w iI)))))),fun ts Q t0 a0 h ht ha=>?_⟩
  rcases h with⟨x0,x,fns,n,p,ns,c,m,r,rfl,hf,hns,hl,hs,hq⟩ |⟨x0,fns,c,m,ps,rfl,hi,hq⟩
  ·cases ht;cases ha;refine⟨rfl,_,rfl,rfl,by decide,m,rfl,_,rfl,?_⟩
   refine⟨rfl,rfl,rfl,_,rfl,0,fT a.ay x 0 n p ns,rfl,rfl,rfl,a0,x,fns,n,p,ns,c,m+1,r,rfl,hf,hns,hl,hs,?_⟩;cases r with
   | on p' ns' c' =>
    refine⟨rfl,rfl,_,rfl,?_⟩;exact⟨rfl,_,rfl,_,rfl,rfl,hq⟩
   | fin c' e' =>
    obtain⟨ps,rfl⟩:∃ ps,e' = .t ps:=by cases hs <;> exact⟨_,rfl⟩
    refine⟨rfl,rfl,_,rfl,?_⟩;exact⟨rfl,_,rfl,_,rfl,rfl,hq⟩
  ·cases ht;cases ha;exact⟨rfl,_,rfl,rfl,_,rfl,_,rfl,rfl,hq⟩
 ·rcases h with⟨x0,x,fns,n,p,ns,c,m,r,rfl,_⟩ |⟨x0,fns,c,m,ps,rfl,_⟩
  ·exact⟨_,_,rfl,rfl⟩
  ·exact⟨_,_,rfl,rfl⟩
def spT(C:Addr)(p a r:L2.T):L2.T:=.ob C ["piece","above","arm"] [p,a,r]
def spJ(C:Addr)(w:Nat->Str)(line:List Row)(j:Nat):L2.T:=spT C (aW w j (line.drop j)) (if j=0 then .n else .i ((j - 1:Nat))) .n
def JR(C:Addr)(w:Nat->Str)(i:Nat)(l:List Row)(n:Nat):List L2.T:=match l with
 | []=>[]
 | _::l'=>[spT C (aW w (i+1) l') (.i n) .n]
def Am(C:Addr):PSp:=fun ts Q=>∃(w:Nat->Str)(l:List Row)(i n:Nat),ts = [aW w i l,.i n]/\(∀ r∈l,eY r)/\Q (.l (JR C w i l n))
def GF(C:Addr):PSp:=fun ts Q=>∃(w:Nat->Str)(l:List Row),ts = [aW w 0 l]/\(∀ r∈l,eY r)/\l.length<=100/\Q (.l ((Rf (l.length+1)).map (spJ C w l)))
def CY:PSp:=fun ts Q=>∃(w:Nat->Str)(l:List Row),ts = [aW w 0 l]/\(∀ r∈l,eY r)/\l.length<=100/\Q (.l ((Rf (l.length+1)).map fun j=>aW w j (l.drop j)))
theorem mU(T:Txt K mg a):aQ P w K mg base CX0 3 a.bx a.jm ["piece","number"] (spQ K (Am a.aV)):=by
 have oG:=@ze P w K mg base a T;refine T.jo.F.okQ mG (fun ts Q h=>?_) (fun _ _ _ _ _ _ hr=>?_)
 ·obtain⟨_,_,_,_,rfl,_⟩:=h;rfl
 ·have hu:=bC hr;refine⟨_,_,((af (cn (fV hu (aN (qv 0) ao) (QPF.w aR))
 (aj (bo (a5 aw)))
 cz)
 (af (cn (fV hu (aN (qv 0) ao) (QPF.w aR))
 (aj (bo (lX rfl (w6 (aN (qv 0) ao)) (N':=["arm","number"]) (.own rfl (.got (i:=1) rfl rfl (.inl rfl) .nil)) (pe (g:=(Tg.nm 0)) (fun _ _ _ _ _=>⟨(xo 0),(pb rfl T.tP oG (hr.mono (by first|decide|omega)) rfl T.tN T.kb (ae (aN (qv 0) ao) (ae (qv 1) (ae (qv 0) aJ))))⟩)))))
 cz)
 (aj (bo (a5 (ag (pb rfl T.tP oG (hr.mono (by first|decide|omega)) rfl T.tN T.kb (ae (aN (qv 0) (QPF.w (mO ao))) (ae (qv 1) (ae (QPF.w iI) aJ)))) aw))))))),fun ts Q h=>?_⟩
  obtain⟨w,l,i,n,rfl,hr,hq⟩:=h;cases l with
  | nil=>exact⟨_,rfl,rfl,hq⟩
  | cons r l =>
   have hb:=bX w l (i+1);obtain⟨k0,h0⟩:=hr r qr;obtain⟨x,k⟩:=r;dsimp only at k0 h0;unfold aW;dsimp only;have fin:(((aW w (i+1) l).im&&(true&&(true&&true)))=true):=by rw[hb];rfl
   rcases h0 with rfl|rfl |⟨rfl|rfl,rfl⟩
   ·rw[if_neg (by decide),if_neg (by decide)]
    exact⟨_,rfl,rfl,_,rfl,rfl,_,rfl,fin,rfl,hq⟩
   ·rw[if_neg (by decide),if_neg (by decide)]
    exact⟨_,rfl,rfl,_,rfl,rfl,_,rfl,fin,rfl,hq⟩
   ·rw[if_pos rfl];exact⟨_,rfl,rfl,_,rfl,rfl,_,rfl,fin,rfl,hq⟩
   ·rw[if_neg (by decide),if_pos rfl]
    exact⟨_,rfl,rfl,_,rfl,rfl,_,rfl,fin,rfl,hq⟩
theorem Di(T:Txt K mg a):aQ P w K mg base CX0 4 a.km a.zD ["body"] (spQ K (GF a.aV)):=by
 have oG:=@ze P w K mg base a T;have oi:=@mU P w K mg base a T;refine T.zS.F.okQ lJ (fun ts Q h=>?_) (fun _ _ _ _ _ _ hr=>?_)
 ·obtain⟨_,_,rfl,_⟩:=h;rfl
 ·have hu:=bC hr;refine⟨_,_,((af (aE 1 lJ.nd (a5 aw))
 (af (aE 2 lJ.nd (a5 (ag (pb rfl T.tP oG (hr.mono (by first|decide|omega)) rfl T.tN T.kb (ae (qv 0) (ae (QPF.w iI) (ae (QPF.w iI) aJ)))) aw)))
 (af (lT PassesOwn.never (lS (qv 2))
 (af (CJ (j:=3) lJ.nd rfl (Or.inl rfl) (pv 2))
 (af (rE (i:=2) (pv 2) (vd rfl rfl T.ym rfl T.lr (QPF.w (dt oi hr T.jo (ae (yW T.mj T.ib (qv 3)) (ae (QPF.w (mQ T.qf (ae (qv 1) aJ))) aJ))))))
 (aj (fN (i:=1) (pv 1) (QPE.f (qv 3)))))))
 (aj (lU (i:=1) (pv 1))))))),fun ts Q h=>?_⟩
  obtain⟨w,l,rfl,hr,hl,hq⟩:=h;refine⟨(by show((aW w 0 l).im&&(true&&(true&&true)))=true;rw[bX];rfl),rfl,?_⟩
  refine⟨fun c q=>∃(j:Nat)(X Y:List L2.T)(o3:Sl),q = [.r (aW w 0 l),.o (.l X),.o (.l Y),o3]/\X =(Rf j).map (spJ a.aV w l)/\Y =(if j<=l.length then [spJ a.aV w l j]else [])/\j+c=l.length+1,⟨l.length+1,0,_,_,_,rfl,rfl,?_,by omega⟩,?_⟩
  ·rw[if_pos (RE _)];rfl
  rintro c q ⟨j,X,Y,o3,rfl,rfl,rfl,hj⟩
  by_cases g:j<=l.length
  ·rw[if_pos g];refine⟨fun q'=>∃(j':Nat)(X Y:List L2.T)(o3:Sl),q' = [.r (aW w 0 l),.o (.l X),.o (.l Y),o3]/\X =(Rf j').map (spJ a.aV w l)/\Y =(if j'<=l.length then [spJ a.aV w l j']else [])/\j'=j+1,?_,?_⟩
   ·rintro q' ⟨j',X,Y,o3,rfl,rfl,rfl,rfl⟩
    exact⟨c - 1,by omega,j+1,_,_,_,rfl,rfl,rfl,by omega⟩
   ·refine⟨[],_,rfl,rfl,by decide,?_⟩
    refine⟨rfl,(by decide),_,rfl,w,l.drop j,j,j,(by rw[QR,RW]),(fun r h=>hr r (List.mem_of_mem_drop h)),?_⟩
    refine⟨zo fun t ht=>?_,?_,dB (by rw[QR,RW];omega),rfl,?_⟩
    ·unfold JR at ht
     split at ht
     ·cases ht
     ·rw[Es.mp ht];rfl
    ·refine RB (dB ?_);unfold JR
     split <;> simp
    ·refine⟨j+1,_,_,_,rfl,?_,?_,rfl⟩
     ·rw[S4,RL];rfl
     ·by_cases g2:j+1<=l.length
      ·rw[if_pos g2];have e:l.drop j=l[j]'(by omega)::l.drop (j+1):=Sh (by omega)
       rw[e];rfl
      ·rw[if_neg g2,List.drop_eq_nil_of_le (by omega)]
       rfl
  ·rw[if_neg g]
   have:j=l.length+1:=by omega
   subst this;exact hq
theorem Ax(T:Txt K mg a):aQ P w K mg base CX0 5 a.iC a.vN ["body"] (spQ K CY):=by
 have IE:=@Di P w K mg base a T;refine T.v9.F.okQ Ac (fun ts Q h=>?_) (fun _ _ _ _ _ _ hr=>?_)
 ·obtain⟨_,_,rfl,_⟩:=h;rfl
 ·have hu:=bC hr;refine⟨_,_,((aj (bo (lX rfl (yU (QPF.w (dt IE hr T.zS (ae (qv 0) aJ)))) (N':=["spot"]) (.own rfl .nil) (pe (g:=(Tg.nm 0)) (fun _ _ _ _ _=>⟨(xo 0),(QPE.f (yW T.mj T.ib (qv 0)))⟩)))))),fun ts Q h=>?_⟩
  obtain⟨w,l,rfl,hr,hl,hq⟩:=h;refine⟨w,l,rfl,hr,hl,dB (by rw[QR,RW];omega),fun i ys=>ys =(Rf i).map fun j=>aW w j (l.drop j),rfl,?_,?_⟩
  ·rintro i y ys hy rfl
   rw[Q0]at hy;obtain⟨z,hz,rfl⟩:=Rh.mp hy;have hz':z=i:=by
    have:=Qx.mp hz
    obtain⟨_,h2⟩:=this;simp at h2;exact h2.symm
   subst hz';refine⟨_,rfl,rfl,(by decide),_,rfl,bX w _ _,?_⟩
   rw[S4,RL];rfl
  ·rintro ys rfl
   rw[QR,RW];exact hq
def MT:PSp:=fun ts Q=>∃(w:Nat->Str)(l:List Row)(ks nm ps kd:L2.T),ts = [.t [ks,.t [.t [nm,ps,kd,aW w 0 l]]]]/\nm.im=true/\ps.im=true/\kd.im=true/\(∀ r∈l,eY r)/\l.length<=100/\Q (.i (gS l))
theorem nR(T:Txt K mg a):aQ P w K mg base CX0 6 a.bM a.jW ["program"] (spQ K MT):=by
 have EH:=@Ax P w K mg base a T;refine T.kj.F.okQ bV (fun ts Q h=>?_) (fun _ _ _ _ _ _ hr=>?_)
 ·obtain⟨_,_,_,_,_,_,rfl,_⟩:=h;rfl
 ·have hu:=bC hr;refine⟨_,_,((af (aE 1 bV.nd dP)
 (af (gY (g:=(Tg.nm 2)) PassesOwn.never rfl (J8 (QPE.f (aN (qv 0) ao))) (iT 2 bV.nd)
 (af (Gr (i:=3) bV.nd rfl (Or.inl rfl) rfl (yU (QPF.w (dt EH hr T.v9 (ae (aN (qv 2) ao) aJ)))) (N':=["piece"]) (.own rfl .nil) (Kb (g:=(Tg.nm 0)) (fun _ _ _ _ _=>⟨(xo 0),(fV hu (aN (qv 0) ao) (QPF.w aR)),(QPE.f (aN (qv 0) ao))⟩)))
 (aj (aE 1 bV.nd (jD (yf rfl rfl) Cf (by rfl) T.vS (by kernel_rfl) (ae (QPF.w (bf (QPF.w (a5 (ag (QPE.f (qv 1)) aw))) (qv 3))) aJ))))))
 (aj (bo (QPE.f (qv 1))))))),fun ts Q h=>?_⟩
  obtain⟨w,l,ks,nm,ps,kd,rfl,i1,i2,i3,hr,hl,hq⟩:=h;refine⟨_,rfl,(by show((nm.im&&(ps.im&&(kd.im&&((aW w 0 l).im&&true))))&&true)=true;rw[i1,i2,i3,bX];rfl),fun i q=>∃ g o2 o3,q = [.r (.t [ks,.t [.t [nm,ps,kd,aW w 0 l]]]),.o (.i g),o2,o3]/\(i=0/\g=0\/i=1/\g=gS l),⟨_,_,_,rfl,.inl ⟨rfl,rfl⟩⟩,?_,?_⟩
  ·rintro i x q hx ⟨g,o2,o3,rfl,hg⟩
   match i,hx with
   | 0,hx =>
    cases hx;have hg:g=0:=by rcases hg with⟨_,z⟩ |⟨z,_⟩;exact z;cases z
    subst hg;refine⟨_,rfl,_,rfl,w,l,rfl,hr,hl,dB (by rw[QR,RW];omega),fun i ys=>ys =(kH (l.take i)).map .i,rfl,?_,?_⟩
    ·rintro i y ys hy rfl
     rw[Q0]at hy;obtain⟨z,hz,rfl⟩:=Rh.mp hy;obtain⟨hi,h2⟩:=Qx.mp hz;simp at h2 hi;subst i;refine⟨_,rfl,?_⟩;by_cases g2:z+1<=l.length
     ·have e:l.drop z=l[z]'(by omega)::l.drop (z+1):=Sh (by omega)
      have et:l.take (z+1)=l.take z ++ [l[z]'(by omega)]:=by rw[List.take_add_one,QU (by omega)];rfl
      rw[e,et];obtain⟨k0,h0⟩:=hr _ (Ru (show z<l.length by omega))
      generalize l[z]'(by omega)=r at k0 h0
      obtain⟨x,k⟩:=r;dsimp only at k0 h0;unfold aW kH;dsimp only;rw[List.filter_append,RL,RL];rcases h0 with rfl|rfl |⟨rfl|rfl,rfl⟩
      ·rw[if_neg (by decide),if_neg (by decide)]
       exact⟨_,rfl,rfl,_,rfl,rfl,rfl⟩
      ·rw[if_neg (by decide),if_neg (by decide)]
       exact⟨_,rfl,rfl,(Q6 _).symm⟩
      ·rw[if_pos rfl];exact⟨_,rfl,rfl,(Q6 _).symm⟩
      ·rw[if_neg (by decide),if_pos rfl]
       exact⟨_,rfl,rfl,(Q6 _).symm⟩
     ·have:z=l.length:=by omega
      subst this;rw[RA,TJ,S1 (by omega)]
      exact⟨_,rfl,rfl,rfl⟩
    ·rintro ys rfl
     rw[QR,RW,S1 (by omega)]
     have hp:=Dc l;exact⟨rfl,RB (dB (by show 1+((kH l).map L2.T.i).length<=_;rw[QR];omega)),rfl,cN _,0::kH l,rfl,Sg _ _,_,_,_,rfl,.inr ⟨rfl,rfl⟩⟩
  ·rintro q ⟨g,o2,o3,rfl,hg⟩
   have hg:g=gS l:=by rcases hg with⟨z,_⟩ |⟨_,z⟩;cases z;exact z
   subst hg;exact⟨rfl,hq⟩
def Kq(CW:Addr):PSp:=fun ts Q=>∃ a fns frs c m ps,ts = [wT CW a fns frs c m (.t ps)]/\T.ims ps=true/\Q (.t ps)
theorem nH(T:Txt K mg a):aQ P w K mg base CX0 2 a.d9 a.pX ["walk"] (spQ K (Kq a.av)):=by
 have da:=@jJ P w K mg base a T;refine T.lC.F.okQ uU (fun ts Q h=>?_) (fun _ _ _ _ _ _ hr=>?_)
 ·obtain⟨_,_,_,_,_,_,rfl,_⟩:=h;rfl
 ·have hu:=bC hr;refine⟨_,_,((aj (bo (IW (cX tJ oo (bI _) (QPF.w (bw T.ax T.eR da (hr.mono (by first|decide|omega)) T.gC (qv 0))) (QPF.w iI)) (aI (iJ (by rfl))) (bw T.ax T.eR da (hr.mono (by first|decide|omega)) T.gC (qv 0)))))),fun ts Q h=>?_⟩
  obtain⟨x,fns,frs,c,m,ps,rfl,hi,hq⟩:=h;refine⟨rfl,rfl,x,fns,frs,c,m,_,rfl,hi,?_⟩;exact⟨rfl,rfl,x,fns,frs,c,m,_,rfl,hi,hq⟩
def MU:PSp:=fun ts Q=>∃(w:Nat->Str)(l:List Row)(ks nm kd:L2.T)(k:Str)(c:Int),ts = [prT ks nm kd k w l,.i 0,.zl [vT w],.i c,.i 100]/\IB ks nm kd l/\Q (.t [(bN (vT w) l c).1,.i (bN (vT w) l c).2.1,.i (bN (vT w) l c).2.2.1])
theorem KO(T:Txt K mg a):aQ P w K mg base CX0 6 a.rO a.Jx ["program","f","args","coins","most"] (spQ K MU):=by
 have lB:=@nH P w K mg base a T;have eZ:=@i6 P w K mg base a T;have e6:=@i7 P w K mg base a T false;have dF:=@ia P w K mg base a T;have cD:=@h9 P w K mg base a T;refine T.JK.F.okQ Cm (fun ts Q h=>?_) (fun _ _ _ _ _ _ hr=>?_)
 ·obtain⟨_,_,_,_,_,_,_,rfl,_⟩:=h;rfl
 ·have hu:=bC hr;refine⟨_,_,((af (aE 5 Cm.nd (jC T.tO e6 (hr.mono (by first|decide|omega)) rfl T.tM T.ka (ae (qv 0) (ae (qv 1) (ae (qv 2) (ae (qv 3) aJ))))))
 (af (Ag PassesOwn.never (Bp.pt (Gg (J6 (IT (QPF.w (bw T.ax T.eJ cD (hr.mono (by first|decide|omega)) T.fJ (aS (az (j:=5))))) (qv 4))) (CD (Af T.ax T.ja eZ (hr.mono (by first|decide|omega)) T.j9 (az (j:=5))))))
 (aj Gn))
 (aj (bo (aI (ag (dt lB hr T.lC (ae (qv 5) aJ)) (ag (bw T.ax T.ic dF (hr.mono (by first|decide|omega)) T.jf (aS (az (j:=5)))) (ag (bw T.ax T.eJ cD (hr.mono (by first|decide|omega)) T.fJ (aS (az (j:=5)))) aw))))))))),fun ts Q h=>?_⟩
  obtain⟨w,l,ks,nm,kd,k,c0,rfl,ok,hq⟩:=h;have fim:=x6 (k:=k) (w:=w) ok;have pim:(prT ks nm kd k w l).im=true:=by
   show(ks.im&&((L2.T.t (pT nm kd k w l)).im&&true))=true;rw[ok.ks,fim];rfl
  refine⟨(by show((prT ks nm kd k w l).im&&(true&&(true&&(true&&true))))=true;rw[pim];rfl),fun x0=>?_⟩
  refine⟨x0,ks,_,nm,_,kd,aW w 0 l,w 2,k,vT w,_,c0,rfl,rfl,rfl,ok.nm,ok.kd,bX _ _ _,rfl,ok.ks,rfl,fun x=>⟨rfl,rfl,?_⟩⟩
  refine⟨fun m q=>∃(i:Nat)(ns:List (Key×L2.T))(c:Int),q = [.r (prT ks nm kd k w l),.r (.i 0),.r (.zl [vT w]),.r (.i c0),.r (.i 100),.o (wT a.av x0 (.t (pT nm kd k w l)) [fT a.ay x 0 i (aW w i (l.drop i)) ns] c i .n)]/\my w ns i/\gP (vT w) l c0 i c/\i+m=l.length,⟨l.length,0,_,c0,rfl,ns0 w,.zero,by omega⟩,?_⟩
  rintro m q ⟨i,ns,c,rfl,hn,ha,hm⟩
  have hl:=ok.len;have hnl:=hn.l;refine⟨rfl,rfl,x0,_,_,c,i,.n,rfl,rfl,?_⟩;refine gG (fun _=>?_) (fun z=>absurd (decide_eq_true (by omega)) z)
  refine⟨rfl,rfl,rfl,?_⟩;by_cases hi:i<l.length
  ·obtain⟨ns',hn',hs⟩:=sf (l:=l.drop (i+1)) (c:=c) (ok.ok _ (Ru hi)) hn;rw[<- drop_cons hi]at hs;refine .inl ⟨x0,x,_,i,_,ns,c,i,_,rfl,fim,hn.i,by omega,hs,?_⟩
   by_cases g:l[i].1 = "pay" /\ l[i].2 > c
   ·obtain⟨e1,e2,e3⟩:=ha.short hi g;unfold nxt;rw[if_pos g];rw[e1,e2,e3]at hq;exact⟨rfl,rfl,_,rfl,x0,_,[],c,(i:Int)+1,_,rfl,rfl,rfl,rfl,x0,_,[],c,_,_,rfl,rfl,rfl,rfl,x0,_,[],c,_,_,rfl,rfl,hq⟩
   ·unfold nxt;rw[if_neg g];refine⟨rfl,rfl,_,rfl,fun q'=>∃(ns:List (Key×L2.T))(c:Int),q' = [.r (prT ks nm kd k w l),.r (.i 0),.r (.zl [vT w]),.r (.i c0),.r (.i 100),.o (wT a.av x0 (.t (pT nm kd k w l)) [fT a.ay x 0 (i+1:Nat) (aW w (i+1) (l.drop (i+1))) ns] c (i+1:Nat) .n)]/\my w ns (i+1)/\gP (vT w) l c0 (i+1) c,?_,?_⟩
    ·rintro q' ⟨ns,c,rfl,h1,h2⟩
     exact⟨m - 1,by omega,i+1,ns,c,rfl,h1,h2,by omega⟩
    ·exact⟨ns',_,rfl,hn',ha.next hi g⟩
  ·have:i=l.length:=by omega
   subst this;have hs:=oN (i:=l.length) (c:=c) hn;rw[RA];refine .inl ⟨x0,x,_,l.length,_,ns,c,l.length,_,rfl,fim,hn.i,by omega,hs,?_⟩
   obtain⟨e1,e2,e3⟩:=ha.Ll;rw[e1,e2,e3]at hq;exact⟨rfl,rfl,_,rfl,x0,_,[],c,(l.length:Int)+1,_,rfl,rfl,rfl,rfl,x0,_,[],c,_,_,rfl,rfl,rfl,rfl,x0,_,[],c,_,_,rfl,rfl,hq⟩
def Ks:PSp:=fun ts Q=>∃(w:Nat->Str)(l:List Row)(ks nm kd:L2.T)(k:Str),ts = [prT ks nm kd k w l,.i 0,.t [vT w],.i 100]/\IB ks nm kd l/\Q (.t [.i (iy 0 0 l),.t [.s "gave",vT w]])
theorem G9(T:Txt K mg a):aQ P w K mg base CX0 7 a.m4 a.Ei ["program","f","args","most"] (spQ K Ks):=by
 have lB:=@nH P w K mg base a T;have eZ:=@i6 P w K mg base a T;have e6:=@i7 P w K mg base a T true;have dF:=@ia P w K mg base a T;have cD:=@h9 P w K mg base a T;have da:=@jJ P w K mg base a T;have qj:=@nR P w K mg base a T;refine T.ES.F.okQ lL (fun ts Q h=>?_) (fun _ _ _ _ _ _ hr=>?_)
 ·obtain⟨_,_,_,_,_,_,rfl,_⟩:=h;rfl
 ·have hu:=bC hr;refine⟨_,_,((af (aE 4 lL.nd (mP (QPF.w (dt qj hr T.kj (ae (qv 0) aJ))) (qv 3)))
 (af (aE 5 lL.nd (jC T.tO e6 (hr.mono (by first|decide|omega)) rfl T.tM T.ka (ae (qv 0) (ae (qv 1) (ae (qv 2) (ae (qv 4) aJ))))))
 (af (aE 6 lL.nd (QPE.f (qv 4)))
 (af (lT PassesOwn.never (QPW.pt (sH (IT (QPF.w (bw T.ax T.eJ cD (hr.mono (by first|decide|omega)) T.fJ (aS (az (j:=5))))) (qv 3)) (ou (cX tJ oo (bI _) (QPF.w (bw T.ax T.eR da (hr.mono (by first|decide|omega)) T.gC (aS (az (j:=5))))) (QPF.w iI)))))
 (af (mK T.ax T.ja eZ (hr.mono (by first|decide|omega)) T.j9 (az (j:=5)))
 (aj (aE 6 lL.nd (jD (Bf rfl) wL (by rfl) T.NX (by kernel_rfl) (ae (qv 6) (ae (QPF.w (bw T.ax T.ic dF (hr.mono (by first|decide|omega)) T.jf (aS (az (j:=5))))) aJ)))))))
 (aj (bo (aI (ag (oZ (qv 4) (qv 6)) (ag (dt lB hr T.lC (ae (qv 5) aJ)) aw)))))))))),fun ts Q h=>?_⟩
  obtain⟨w,l,ks,nm,kd,k,rfl,ok,hq⟩:=h;have fim:=x6 (k:=k) (w:=w) ok;have hl:=ok.len;have pim:(prT ks nm kd k w l).im=true:=by
   show(ks.im&&((L2.T.t (pT nm kd k w l)).im&&true))=true;rw[ok.ks,fim];rfl
  refine⟨w,l,ks,nm,_,kd,rfl,ok.nm,rfl,ok.kd,ok.ok,by omega,?_⟩
  have tl:=JP ok.ok;obtain⟨t0,_⟩:=wD (l:=l);refine⟨.inl ⟨by omega,by omega⟩,(by show((prT ks nm kd k w l).im&&(true&&(true&&(true&&true))))=true;rw[pim];rfl),fun x0=>?_⟩
  refine⟨x0,ks,_,nm,_,kd,aW w 0 l,w 2,k,vT w,_,_,rfl,rfl,rfl,ok.nm,ok.kd,bX _ _ _,rfl,ok.ks,rfl,fun x=>⟨rfl,rfl,?_⟩⟩
  refine⟨rfl,?_⟩;obtain⟨W,hW⟩:∃ W:Nat->Sq->Prop,W=fun n q=>(∃(i:Nat)(ns:List (Key×L2.T))(g m c lo:Int),q = [.r (prT ks nm kd k w l),.r (.i 0),.r (.t [vT w]),.r (.i 100),.o (.i (gS l*100)),.o (wT a.av x0 (.t (pT nm kd k w l)) [fT a.ay x 0 i (aW w i (l.drop i)) ns] c i .n),.o (.i lo)]/\c=gS l*100 - g/\lo=gS l*100 - m/\my w ns i/\Gone l i g m/\g<=m/\i<=l.length/\i+n=l.length+1)\/(∃(lo c s:Int),q = [.r (prT ks nm kd k w l),.r (.i 0),.r (.t [vT w]),.r (.i 100),.o (.i (gS l*100)),.o (wT a.av x0 (.t (pT nm kd k w l)) [] c s (.t [.s "gave",vT w])),.o (.i lo)]/\s<100/\lo=gS l*100 - iy 0 0 l/\n=0):=⟨_,rfl⟩
  refine⟨W,⟨l.length+1,?_⟩,?_⟩
  ·rw[hW];exact .inl ⟨0,_,0,0,_,_,rfl,(by omega),(by omega),ns0 w,.zero,by omega,by omega,by omega⟩
  intro n q hw;rw[hW]at hw;rcases hw with⟨i,ns,g,m,c,lo,rfl,ec,el,hn,hg,hgm,hil,hm⟩ |⟨lo,c,st,rfl,hst,el,rfl⟩
  ·have hnl:=hn.l;refine⟨rfl,rfl,x0,_,_,c,i,.n,rfl,rfl,?_⟩;refine gG (fun _=>?_) (fun z=>absurd (decide_eq_true (by omega)) z)
   refine⟨rfl,rfl,x0,_,_,c,i,.n,rfl,rfl,?_⟩;refine⟨fun q'=>∃ n',n'<n/\W n' q',fun q' h=>h,?_⟩
   refine⟨rfl,rfl,rfl,?_⟩;by_cases hi:i<l.length
   ·obtain⟨ns',hn',hs⟩:=sf (l:=l.drop (i+1)) (c:=c) (ok.ok _ (Ru hi)) hn;rw[<- drop_cons hi]at hs;have Jq:=hg.Pe hi hl;rw[<- ec]at Jq;refine .inl ⟨x0,x,_,i,_,ns,c,i,_,rfl,fim,hn.i,by omega,hs,?_⟩
    unfold nxt;rw[if_neg Jq];refine⟨rfl,rfl,_,rfl,?_⟩;refine⟨rfl,rfl,x0,_,_,_,_,.n,rfl,rfl,?_⟩;refine⟨n - 1,by omega,?_⟩
    rw[hW];refine .inl ⟨i+1,ns',g - dlt l[i],max m (g - dlt l[i]),_,_,rfl,?_,?_,hn',hg.next hi (ok.ok _ (Ru hi)),SV _ _,by omega,by omega⟩
    ·omega
    ·dsimp only
     split <;> omega
   ·have:i=l.length:=by omega
    subst this;have hs:=oN (i:=l.length) (c:=c) hn;rw[RA];refine .inl ⟨x0,x,_,l.length,_,ns,c,l.length,_,rfl,fim,hn.i,by omega,hs,?_⟩
    refine⟨rfl,rfl,_,rfl,?_⟩;refine⟨rfl,rfl,x0,_,_,_,_,_,rfl,rfl,?_⟩;refine⟨0,by omega,?_⟩
    rw[hW];refine .inr ⟨_,_,_,rfl,?_,?_,rfl⟩
    ·omega
    ·have:=hg.m
     rw[RA]at this
     have:m=iy 0 0 l:=this
     dsimp only
     split <;> omega
  ·refine⟨rfl,rfl,x0,_,_,c,st,_,rfl,rfl,?_⟩;refine gG (fun _=>?_) (fun z=>absurd (decide_eq_true hst) z)
   refine⟨rfl,rfl,x0,_,_,c,st,_,rfl,rfl,?_⟩;refine⟨x0,_,_,c,st,_,rfl,rfl,?_⟩
   have:gS l*100 - lo=iy 0 0 l:=by omega
   rw[<- this]at hq;exact hq
def Kr:PSp:=fun ts Q=>∃ u,ts = [.lb,u]/\∀ l:List Row,(∀ r∈l,eY r)->l.length<=30->Q (.l (l.map gF))
theorem G8(T:Txt K mg a):aQ P w K mg base CX0 2 a.m3 a.Eh ["_law_deal_here","_law_words_here"] (spQ K Kr):=by
 have ed:=Eb (@zf P w K mg base a T);refine T.ER.F.okQ lK (fun ts Q h=>?_) (fun _ _ _ _ _ _ hr=>?_)
 ·obtain⟨_,rfl,_⟩:=h;rfl
 ·have hu:=bC hr;refine⟨_,_,((af (aE 2 lK.nd (a5 aw))
 (af (gY (g:=(Tg.nm 3)) PassesOwn.never rfl (mL rfl T.mn (ae (QPF.w (bf ao (QPF.w (dt ed hr T.ef (ae (qv 0) (ae (QPF.w (sL (a5 (ag dP (ag dP aw))) (QPF.w (dt ed hr T.ef (ae (qv 0) (ae ao aJ)))))) aJ)))))) aJ)) (iT 3 lK.nd)
 (af (aE 4 lK.nd (bf ao (QPF.w (dt ed hr T.ef (ae (qv 0) (ae (QPF.w (sL (a5 (ag dP (ag dP (ag (Ka ao ao) aw)))) (QPF.w (dt ed hr T.ef (ae (qv 0) (ae ao aJ)))))) aJ))))))
 (af (aE 5 lK.nd (sL (a5 (iJ (by rfl))) (QPF.w (dt ed hr T.ef (ae (qv 0) (ae ao aJ))))))
 (aj (fN (i:=2) (pv 2) (aI (ag (QPE.f (qv 5)) (ag (sL (a5 (ag (QPE.f (qv 4)) (ag dP aw))) (QPF.w (fO iD lH (by rfl) T.vU (by kernel_rfl) (ae (QPF.w (mR (xu rfl) sk rfl (qv 5) (QPF.w (aI (iJ (by rfl)))))) aJ)))) aw))))))))
 (aj (lU (i:=2) (pv 2)))))),fun ts Q h=>?_⟩
  obtain⟨u,rfl,hq⟩:=h;refine⟨by decide,by decide,fun d d0 d1=>?_⟩
  obtain⟨x,ex,hx⟩:=zL (xs:=[6,30]) d0 d1;have hx:x=6\/x=30:=by simpa using hx
  refine⟨_,ex,by omega,by omega,fun n n0 n1=>⟨by omega,by omega,?_⟩⟩
  refine⟨fun i q=>∃ L o3 o4 o5,∃ l:List Row,q = [.r .lb,.r u,.o (.l L),o3,o4,o5]/\L=l.map gF/\(∀ r∈l,eY r)/\l.length=i,⟨_,_,_,_,[],rfl,rfl,fun _ h=>(nomatch h),rfl⟩,?_,?_⟩
  ·rintro i y q hy ⟨L,o3,o4,o5,l,rfl,rfl,hl,rfl⟩
   obtain⟨rfl,hi⟩:=sG hy;refine⟨_,rfl,?_⟩;refine⟨⟨by decide,by decide,by decide⟩,by decide,by decide,fun e e0 e1=>?_⟩
   obtain⟨z,ez,hz⟩:=zL (xs:=[3,50,1000000]) e0 e1;have hz:z=3\/z=50\/z=1000000:=by simpa using hz
   refine⟨_,ez,by omega,by omega,fun c c0 c1=>⟨by decide,by decide,fun f f0 f1=>?_⟩⟩
   obtain⟨wd,ew,hwd⟩:=zK (ws:=["pay","pay","get","name","make"]) f0 f1;have fin:∀ r:Row,eY r->∃ L o3 o4 o5,∃ l':List Row,[Sl.r .lb,.r u,.o (.l (l.map gF ++ [gF r])),.r (.i (0+(l.length:Int))),.o (.i (1+c)),.o (.s wd)] = [.r .lb,.r u,.o (.l L),o3,o4,o5]/\L=l'.map gF/\(∀ r∈l',eY r)/\l'.length=l.length+1:=fun r hr=>by
    refine⟨_,_,_,_,l ++ [r],rfl,by simp,fun r' h=>?_,by simp⟩
    rcases Q7.mp h with z|z
    ·exact hl r' z
    ·rw[Es.mp z];exact hr
   refine⟨_,ew,dB (by rw[QR];omega),rfl,?_⟩
   have hwd:wd = "pay" \/ wd = "get" \/ wd = "name" \/ wd = "make":=by simpa using hwd
   rcases hwd with rfl|rfl|rfl|rfl
   ·refine⟨rfl,rfl,_,by rfl,fin ("pay",1+c) ⟨⟨?_,?_⟩,.inl rfl⟩⟩ <;>(dsimp only;omega)
   ·refine⟨rfl,rfl,_,by rfl,fin ("get",1+c) ⟨⟨?_,?_⟩,.inr (.inl rfl)⟩⟩ <;>(dsimp only;omega)
   ·exact⟨rfl,rfl,_,by rfl,fin ("name",0) ⟨⟨by decide,by decide⟩,.inr (.inr ⟨.inl rfl,rfl⟩)⟩⟩
   ·exact⟨rfl,rfl,_,by rfl,fin ("make",0) ⟨⟨by decide,by decide⟩,.inr (.inr ⟨.inr rfl,rfl⟩)⟩⟩
  ·rintro q ⟨L,o3,o4,o5,l,rfl,rfl,hl,e⟩
   rw[lP]at e;exact hq l hl (by omega)
def Ku:PSp:=fun ts Q=>∃(ws:List Str)(l:List Row),ts = [.l (ws.map .s),.l (l.map gF)]/\ws.length=34/\(∀ r∈l,eY r)/\l.length<=30/\Q (aW (wf ws) 0 l)
theorem Hb(T:Txt K mg a):aQ P w K mg base CX0 1 a.m7 a.El ["_law_words_here","_law_line"] (spQ K Ku):=by
 refine T.ET.F.okQ gI (fun ts Q h=>?_) (fun _ _ _ _ _ _ hr=>?_)
 ·obtain⟨_,_,rfl,_⟩:=h;rfl
 ·have hu:=bC hr;refine⟨_,_,((af (aE 2 gI.nd (aI (ag aR (ag (QPE.f (aN (qv 0) ao)) aw))))
 (af (gY (g:=(Tg.nm 3)) PassesOwn.never rfl (Ah rfl T.mn (ae (QPF.w (oZ (QPF.w (mQ T.qf (ae (qv 1) aJ))) ao)) (ae (QPF.w (mO ao)) (ae (QPF.w (mO ao)) aJ)))) (iT 3 gI.nd)
 (af (CH (g:=(Tg.tp [4,5])) (aN (qv 1) (qv 3)) (GQ (iT 4 gI.nd) (iT 5 gI.nd)))
 (aj (cn (fV hu (qv 4) (QPF.w aR))
 (aj (aE 2 gI.nd (aI (ag aR (ag (QPE.f (aN (qv 0) (QPF.w (bf ao (qv 3))))) (ag (QPE.f (aN (qv 0) ao)) (ag (QPE.f (qv 2)) aw)))))))
 (aj (cn (fV hu (qv 4) (QPF.w aR))
 (aj (aE 2 gI.nd (aI (ag aR (ag (QPE.f (aN (qv 0) (QPF.w (bf ao (qv 3))))) (ag (QPE.f (aN (qv 0) ao)) (ag (aI aw) (ag (QPE.f (qv 2)) aw))))))))
 (aj (aE 2 gI.nd (aI (ag (QPE.f (qv 4)) (ag (QPE.f (qv 5)) (ag (QPE.f (qv 2)) aw))))))))))))
 (aj (bo (QPE.f (qv 2))))))),fun ts Q h=>?_⟩
  obtain⟨ws,l,rfl,hw,hr,hl,hq⟩:=h;refine⟨_,jw (n:=2) (by omega),rfl,?_⟩
  refine⟨rfl,⟨by rw[QR];omega,by rw[QR];omega,by decide,by decide⟩,?_⟩
  refine⟨fun j q=>∃ b o3 o4 o5,q = [.r (.l (ws.map .s)),.r (.l (l.map gF)),.o b,o3,o4,o5]/\b=aW (wf ws) (l.length - j) (l.drop (l.length - j)),⟨_,_,_,_,rfl,?_⟩,?_,?_⟩
  ·rw[Nat.sub_zero,RA];rfl
  ·rintro j y q hy ⟨b,o3,o4,o5,rfl,rfl⟩
   have e1:∃ k:Nat,y = .i k/\k+j+1=l.length:=by
    unfold uY at hy;rw[Q0]at hy;obtain⟨i,hi,rfl⟩:=Rh.mp hy;obtain⟨g1,g2⟩:=Qx.mp hi;simp at g1 g2;subst j;exact⟨l.length - 1 - i,by rw[QR];congr 1;omega,by omega⟩
   obtain⟨k,rfl,hk⟩:=e1;have hkl:k<l.length:=by omega
   refine⟨_,rfl,_,Cs hkl,rfl,_,rfl,?_⟩;have e2:l.length - j=k+1:=by omega
   have e3:l.length - (j+1)=k:=by omega
   rw[e2,e3,drop_cons hkl];have hb:=bX (wf ws) (l.drop (k+1)) (k+1);obtain⟨k0,h0⟩:=hr _ (Ru hkl)
   generalize l[k]=r at *
   obtain⟨x,n⟩:=r;dsimp only at k0 h0;rw[aW];dsimp only;rcases h0 with rfl|rfl |⟨rfl|rfl,rfl⟩
   ·rw[if_neg (by decide),if_neg (by decide)]
    exact⟨rfl,rfl,rfl,rfl,hb,_,_,_,_,rfl,rfl⟩
   ·rw[if_neg (by decide),if_neg (by decide)]
    exact⟨rfl,rfl,rfl,rfl,hb,_,_,_,_,rfl,rfl⟩
   ·rw[if_pos rfl];exact⟨rfl,_,BY (by omega),rfl,_,jw (n:=2) (by omega),rfl,hb,_,_,_,_,rfl,rfl⟩
   ·rw[if_neg (by decide),if_pos rfl]
    exact⟨rfl,rfl,_,BY (by omega),rfl,_,jw (n:=1) (by omega),rfl,hb,_,_,_,_,rfl,rfl⟩
  ·rintro q ⟨b,o3,o4,o5,rfl,rfl⟩
   have:(uY (((l.map gF).length:Int) - 1) (((l.map gF).length:Int) - 1 - (-1)).toNat).length=l.length:=by simp[uY]
   rw[this,SJ];exact⟨bX _ _ _,hq⟩
def MW:PSp:=fun ts Q=>∃(l:List Row)(c:Int)(v:L2.T),ts = [.l (l.map gF),.i c,v]/\v.im=true/\(∀ r∈l,eY r)/\l.length<=30/\Q (.t [(bN v l c).1,.i (bN v l c).2.1,.i (bN v l c).2.2.1,.l ((bN v l c).2.2.2.map .i)])
theorem KQ(T:Txt K mg a):aQ P w K mg base CX0 1 a.rQ a.Jz ["_law_line","_law_coins","_law_arg"] (spQ K MW):=by
 refine T.JL.F.okQ mH (fun ts Q h=>?_) (fun _ _ _ _ _ _ hr=>?_)
 ·obtain⟨_,_,_,rfl,_⟩:=h;rfl
 ·have hu:=bC hr;refine⟨_,_,((af (aE 3 mH.nd (a5 aw))
 (af (gY (g:=(Tg.nm 4)) PassesOwn.never rfl (mL rfl T.mn (ae (QPF.w (mQ T.qf (ae (qv 0) aJ))) aJ)) (iT 4 mH.nd)
 (af (CH (g:=(Tg.tp [5,6])) (aN (qv 0) (qv 4)) (GQ (iT 5 mH.nd) (iT 6 mH.nd)))
 (af (cn (QPW.pt (sH (fV hu (qv 5) (QPF.w aR)) (ou (yT (qv 6) (qv 1)))))
 (aj (bo (aI (ag (aI (ag aR (ag (QPE.f (qv 6)) aw))) (ag (QPE.f (qv 1)) (ag (bf (qv 4) ao) (ag (bf (qv 3) (QPF.w (a5 (ag (QPE.f (qv 1)) aw)))) aw)))))))
 cz)
 (af (aE 1 mH.nd (bf (qv 1) (QPF.w (mP (qv 6) (QPF.w (oZ (QPF.w (fO iD lH (by rfl) T.vU (by kernel_rfl) (ae (QPF.w (mR (pI hu rfl) lI (bI _) (qv 5) (QPF.w aR))) aJ))) (QPF.w (fO iD lH (by rfl) T.vU (by kernel_rfl) (ae (QPF.w (mR (pI hu rfl) lI (bI _) (qv 5) (QPF.w aR))) aJ)))))))))
 (aj (fN (i:=3) (pv 3) (QPE.f (qv 1))))))))
 (aj (bo (aI (ag (aI (ag aR (ag (QPE.f (qv 2)) aw))) (ag (QPE.f (qv 1)) (ag (bf (QPF.w (mQ T.qf (ae (qv 0) aJ))) ao) (ag (bf (qv 3) (QPF.w (a5 (ag (QPE.f (qv 1)) aw)))) aw)))))))))),fun ts Q h=>?_⟩
  obtain⟨l,c0,v,rfl,hv,hr,hl,hq⟩:=h;have hll:(l.map gF).length=l.length:=QR _;refine⟨by rw[hll];omega,by rw[hll];omega,?_⟩
  refine⟨fun i q=>∃(s1:Sl)(c:Int)(la:List Int)(LL:List L2.T)(o4 o5 o6:Sl),q = [.r (.l (l.map gF)),s1,.r v,.o (.l LL),o4,o5,o6]/\(s1 = .r (.i c)\/s1 = .o (.i c))/\LL=la.map .i/\la.length=i/\gP v l c0 i c/\(bN v l c0).2.2.2=la++(bN v (l.drop i) c).2.2.2,⟨_,c0,[],_,_,_,_,rfl,.inl rfl,rfl,rfl,.zero,rfl⟩,?_,?_⟩
  ·rintro i y q hy ⟨s1,c,la,LL,o4,o5,o6,rfl,hs1,rfl,hla,ha,hd⟩
   obtain⟨rfl,hi⟩:=sG hy;rw[S0];have hi:i<l.length:=by rw[hll]at hi;omega
   have hri:=hr _ (Ru hi);have lal:(la.map L2.T.i).length=i:=by rw[QR];exact hla
   have hgo:∀ c',c'=c+dlt l[i]->¬(l[i].1 = "pay" /\ l[i].2 > c)->∃(s1:Sl)(c:Int)(la':List Int)(LL:List L2.T)(o4 o5 o6:Sl),[Sl.r (.l (l.map gF)),.o (.i c'),.r v,.o (.l (la.map .i ++ [.i c'])),.r (.i i),.r (.s l[i].1),.r (.i l[i].2)] = [.r (.l (l.map gF)),s1,.r v,.o (.l LL),o4,o5,o6]/\(s1 = .r (.i c)\/s1 = .o (.i c))/\LL=la'.map .i/\la'.length=i+1/\gP v l c0 (i+1) c/\(bN v l c0).2.2.2=la'++(bN v (l.drop (i+1)) c).2.2.2:=fun c' e g=>by
    refine⟨_,c',la ++ [c'],_,_,_,_,rfl,.inr rfl,by simp,by simp[hla],by rw[e];exact ha.next hi g,?_⟩
    rw[hd,drop_cons hi,pW g,e];simp
   have hmul:c+l[i].2*((if decide ((L2.T.s l[i].1).v =(L2.T.s "get").v)=true then(1:Int)else 0) - (if decide ((L2.T.s l[i].1).v =(L2.T.s "pay").v)=true then(1:Int)else 0))=c+dlt l[i]:=by
    rw[eqI,eqI];rfl
   have hk:=hri.1;refine⟨_,rfl,_,Cs hi,rfl,_,rfl,?_⟩;have on:¬(l[i].1 = "pay" /\ l[i].2 > c)->_:=fun g=>hgo _ hmul g
   have sh:l[i].1 = "pay" /\ l[i].2 > c->Q (.t [.t [.s "short",.i l[i].2],.i c,.i ((i:Int)+1),.l (la.map .i ++ [.i c])]):=fun g=>by
    obtain⟨e1,e2,e3⟩:=ha.short hi g;rw[e1,e2,e3,hd,drop_cons hi,mf g,RL]at hq;exact hq
   have ll1:(la.map L2.T.i).length+1<=QD:=by rw[lal];exact RB (dB (by omega))
   have ll2:(la.map L2.T.i).length<QD:=ll1;have cm:∀ z,yE l[i].2 z:=fun z=>.inl ⟨by omega,by omega⟩
   rcases hs1 with rfl|rfl
   ·refine⟨rfl,gG (fun g1=>gG (fun g2=>?_) fun g2=>?_) fun g1=>?_⟩
    ·exact⟨rfl,rfl,rfl,ll1,cN la,rfl,sh ⟨eqB.mp g1,of_decide_eq_true g2⟩⟩
    ·exact⟨rfl,rfl,cm _,ll2,rfl,on fun z=>g2 (decide_eq_true z.2)⟩
    ·exact⟨rfl,rfl,cm _,ll2,rfl,on fun z=>g1 (eqB.mpr z.1)⟩
   ·refine⟨rfl,gG (fun g1=>gG (fun g2=>?_) fun g2=>?_) fun g1=>?_⟩
    ·exact⟨rfl,rfl,rfl,ll1,cN la,rfl,sh ⟨eqB.mp g1,of_decide_eq_true g2⟩⟩
    ·exact⟨rfl,rfl,cm _,ll2,rfl,on fun z=>g2 (decide_eq_true z.2)⟩
    ·exact⟨rfl,rfl,cm _,ll2,rfl,on fun z=>g1 (eqB.mpr z.1)⟩
  ·rintro q ⟨s1,c,la,LL,o4,o5,o6,rfl,hs1,rfl,hla,ha,hd⟩
   have eN:(((l.map gF).length:Nat):Int).toNat=l.length:=by rw[hll];omega
   rw[lP,eN]at ha hd hla;obtain⟨e1,e2,e3⟩:=ha.Ll;rw[RA]at hd;rw[e1,e2,e3,hd,RL]at hq;have lal:(la.map L2.T.i).length=l.length:=by rw[QR];exact hla
   have ll1:(la.map L2.T.i).length+1<=QD:=by rw[lal];exact RB (dB (by omega))
   rw[<- hll]at hq;rcases hs1 with rfl|rfl
   ·exact⟨hv,rfl,rfl,ll1,cN la,rfl,hq⟩
   ·exact⟨hv,rfl,rfl,ll1,cN la,rfl,hq⟩
def GG:PSp:=fun ts Q=>∃(l:List Row),ts = [.l (l.map gF)]/\(∀ r∈l,eY r)/\l.length<=30/\Q (.l ((aU 0 0 l).map .i))
theorem Dj(T:Txt K mg a):aQ P w K mg base CX0 1 a.kn a.zE ["_law_line"] (spQ K GG):=by
 refine T.zT.F.okQ eQ (fun ts Q h=>?_) (fun _ _ _ _ _ _ hr=>?_)
 ·obtain⟨_,rfl,_⟩:=h;rfl
 ·have hu:=bC hr;refine⟨_,_,((af (aE 1 eQ.nd (a5 aw))
 (af (aE 2 eQ.nd dP)
 (af (aE 3 eQ.nd dP)
 (af (gY (g:=(Tg.tp [4,5])) PassesOwn.never rfl (oy (i:=0) (pv 0)) (GQ (iT 4 eQ.nd) (iT 5 eQ.nd))
 (af (aE 2 eQ.nd (bf (qv 2) (QPF.w (mP (qv 5) (QPF.w (oZ (QPF.w (fO iD lH (by rfl) T.vU (by kernel_rfl) (ae (QPF.w (mR (pI hu rfl) lI (bI _) (qv 4) (QPF.w aR))) aJ))) (QPF.w (fO iD lH (by rfl) T.vU (by kernel_rfl) (ae (QPF.w (mR (pI hu rfl) lI (bI _) (qv 4) (QPF.w aR))) aJ)))))))))
 (af (aE 3 eQ.nd (jD (nh rfl) wL (by rfl) T.vS (by kernel_rfl) (ae (qv 3) (ae (qv 2) aJ))))
 (aj (cn (fV hu (qv 4) (QPF.w aR))
 (aj (fN (i:=1) (pv 1) (QPE.f (qv 3))))
 cz)))))
 (aj (lU (i:=1) (pv 1)))))))),fun ts Q h=>?_⟩
  obtain⟨l,rfl,hr,hl,hq⟩:=h;refine⟨fun i q=>∃(g m:Int)(fo:List Int)(LL:List L2.T)(o4 o5:Sl),q = [.r (.l (l.map gF)),.o (.l LL),.o (.i g),.o (.i m),o4,o5]/\LL=fo.map .i/\fo.length<=i/\aU 0 0 l=fo++aU g m (l.drop i),⟨0,0,[],_,_,_,rfl,rfl,QX _,rfl⟩,?_,?_⟩
  ·rintro i y q hy ⟨g,m,fo,LL,o4,o5,rfl,rfl,hfl,hf⟩
   rw[Q0]at hy;obtain⟨r,hr1,rfl⟩:=Rh.mp hy;obtain⟨hi,e⟩:=Qx.mp hr1;have hri:=hr r (RK hr1);have hk:=hri.1;rw[drop_cons hi,e]at hf;have fol:(fo.map L2.T.i).length<=i:=by rw[QR];exact hfl
   have cm:∀ z,yE r.2 z:=fun z=>.inl ⟨by omega,by omega⟩
   have eg:g+r.2*((if decide ((L2.T.s r.1).v =(L2.T.s "pay").v)=true then(1:Int)else 0) - (if decide ((L2.T.s r.1).v =(L2.T.s "get").v)=true then(1:Int)else 0))=g - dlt r:=by
    rw[eqI,eqI];unfold dlt;rw[Int.mul_sub,Int.mul_sub];omega
   refine⟨_,rfl,rfl,rfl,cm _,?_⟩;have em:∀ g':Int,(fun i j:Int=>if j > i then j else i) m g'=max m g':=fun g'=>by dsimp only;split <;> omega
   refine⟨rfl,gG (fun g1=>?_) fun g1=>?_⟩
   ·rw[em,eg];refine⟨dB (by omega),rfl,g - dlt r,max m (g - dlt r),fo ++ [max m (g - dlt r)],_,_,_,rfl,by simp,by rw[Q9];exact SW hfl,?_⟩
    rw[hf,aU,if_pos (eqB.mp g1)];simp
   ·rw[em,eg];refine⟨g - dlt r,max m (g - dlt r),fo,_,_,_,rfl,rfl,by omega,?_⟩
    rw[hf,aU,if_neg fun z=>g1 (eqB.mpr z)]
  ·rintro q ⟨g,m,fo,LL,o4,o5,rfl,rfl,hfl,hf⟩
   rw[QR,RA]at hf;rw[hf,aU,Q6]at hq;exact hq
theorem KP(T:Txt K mg a):aQ P w K mg base CX0 100 a.rP a.Jy ["_law_script"] (oO K):=by
 have LH:=@Ha P w K mg base a T;have ID:=@Dh P w K mg base a T;have LF:=@G8 P w K mg base a T;have LI:=@Hb P w K mg base a T;have Oc:=@KQ P w K mg base a T;have IF:=@Dj P w K mg base a T;have Ob:=@KO P w K mg base a T;have LG:=@G9 P w K mg base a T;have e6:=@i7 P w K mg base a T false;have eZ:=@i6 P w K mg base a T;have dF:=@ia P w K mg base a T;have cD:=@h9 P w K mg base a T;have da:=@jJ P w K mg base a T;refine T.Od.F.PV (n:=15) (s1:=(bH nF).headD (.Pass ⟨0,0,0,0⟩)) (rest:=(bH nF).tail) bZ rfl rfl (fun _ _ _ _ _ _ hr=>?_)
 have hu:=bC hr;refine⟨_,_,_,(iL (i:=1) bZ.nd rfl (Or.inl rfl) (zc LH (hr.mono (by decide)) rfl T.uB.m T.uB.F.kp T.uB.b .nil l6 (cC (pv 0) (cC a7 h8)))),((af (aE 2 bZ.nd (dt ID hr T.zR (ae (qv 1) (ae ao aJ))))
 (af (aE 3 bZ.nd (dt LF hr T.ER (ae (qv 1) (ae (qv 2) aJ))))
 (af (aE 4 bZ.nd (aI (ag (aI (ag (QPE.f (aN (qv 2) ao)) (ag (aI (ag (aI (ag (QPE.f (aN (qv 2) ao)) (ag (aI aw) aw))) aw)) aw))) aw)))
 (af (aE 5 bZ.nd (aI (ag (QPE.f (qv 4)) (ag (aI (ag (aI (ag (QPE.f (aN (qv 2) ao)) (ag (aI (ag (aI (ag (QPE.f (aN (qv 2) ao)) (ag (QPE.f (aN (qv 2) ao)) aw))) aw)) (ag (QPE.f (aN (qv 2) ao)) (ag (dt LI hr T.ET (ae (qv 2) (ae (qv 3) aJ))) aw))))) aw)) aw))))
 (af (aE 6 bZ.nd (aI (ag (QPE.f (aN (qv 2) ao)) (ag (aI aw) aw))))
 (af (aE 7 bZ.nd (dt IF hr T.zT (ae (qv 3) aJ)))
 (af (cn (cX (xt (DR hr) rfl) sj (bI _) (QPF.w (dt LG hr T.ES (ae (qv 5) (ae ao (ae (QPF.w (aI (ag (QPE.f (qv 6)) aw))) (ae ao aJ)))))) (QPF.w (aI (ag (Gw T.vS (qv 7)) (ag (aI (ag aR (ag (QPE.f (qv 6)) aw))) aw)))))
 (aj (bo rF))
 cz)
 (af (aE 8 bZ.nd (a5 (ag dP aw)))
 (af (gY (g:=(Tg.nm 9)) PassesOwn.never rfl (Gv (bf (QPF.w (lV (qv 7) ox (ow ao))) (QPF.w (lV (qv 7) (ow (QPF.w (mO ao))) ox)))) (iT 9 bZ.nd)
 (aj (aE 8 bZ.nd (bf (qv 8) (QPF.w (a5 (ag (QPE.f (qv 9)) (ag (jD (nh rfl) wL (by rfl) T.vS (by kernel_rfl) (ae (QPF.w (oZ (qv 9) ao)) (ae ao aJ))) (ag (bf (qv 9) ao) aw)))))))))
 (af (gY (g:=(Tg.nm 10)) PassesOwn.never rfl (oy (i:=8) (pv 8)) (iT 10 bZ.nd)
 (af (Gh (is:=[11,12,13,14]) (dt Oc hr T.JL (ae (qv 3) (ae (qv 10) (ae (qv 6) aJ)))) (y8 (K:=K) (n:=4) rfl rfl (ix (iT 11 bZ.nd) (ix (iT 12 bZ.nd) (ix (iT 13 bZ.nd) (ix (iT 14 bZ.nd) y7))))))
 (af (cn (cX (xt (DR hr) rfl) sj (bI _) (QPF.w (dt Ob hr T.JK (ae (qv 5) (ae ao (ae (QPF.w (yV (a5 (ag (QPE.f (qv 6)) aw)))) (ae (qv 10) (ae ao aJ))))))) (QPF.w (aI (ag (QPE.f (qv 11)) (ag (QPE.f (qv 12)) (ag (QPE.f (qv 13)) aw))))))
 (aj (bo rF))
 cz)
 (af (aE 15 bZ.nd (jC T.tO e6 (hr.mono (by first|decide|omega)) rfl T.tM T.ka (ae (qv 5) (ae ao (ae (QPF.w (yV (a5 (ag (QPE.f (qv 6)) aw)))) (ae (qv 10) aJ))))))
 (af (gY (g:=(Tg.nm 16)) PassesOwn.never rfl (oy (i:=14) (pv 14)) (iT 16 bZ.nd)
 (af (cn (cX GZ Ce (bI _) (QPF.w (bw T.ax T.eR da (hr.mono (by first|decide|omega)) T.gC (aS (az (j:=15))))) (QPF.w iI))
 (aj (bo rF))
 cz)
 (af (mK T.ax T.ja eZ (hr.mono (by first|decide|omega)) T.j9 (az (j:=15)))
 (aj (cn (cX Df wK (bI _) (QPF.w (bw T.ax T.ic dF (hr.mono (by first|decide|omega)) T.jf (aS (az (j:=15))))) (qv 16))
 (aj (bo rF))
 cz)))))
 (aj (cn (QPW.pt (IS (cX (xt (DR hr) rfl) sj (bI _) (QPF.w (bw T.ax T.eR da (hr.mono (by first|decide|omega)) T.gC (aS (az (j:=15))))) (qv 11)) (CG (cX Df wK (bI _) (QPF.w (bw T.ax T.eJ cD (hr.mono (by first|decide|omega)) T.fJ (aS (az (j:=15))))) (qv 13)))))
 (aj (bo rF))
 cz)))))))
 (aj (bo rF))))))))))))),fun p0 ns D hS hlen k=>?_,fun ns hlen=>?_⟩
 ·refine⟨_,rfl,p0,ns,_,rfl,hS,hlen,by decide,by decide,fun d l H1 fd fl D1 s1=>?_⟩
  exact k d l H1 fd fl D1 s1
 ·refine⟨34,rfl,by decide,by decide,fun ws lw nw wl=>?_⟩
  have lw:ws.length=34:=by omega
  refine⟨_,rfl,fun l hl hlen=>?_⟩
  refine⟨_,jw (n:=0) (by omega),rfl,_,jw (n:=1) (by omega),rfl,?_⟩
  refine⟨rfl,_,jw (n:=33) (by omega),rfl,_,jw (n:=2) (by omega),rfl,_,jw (n:=0) (by omega),rfl,_,jw (n:=0) (by omega),rfl,ws,l,rfl,lw,hl,hlen,?_⟩
  refine⟨_,jw (n:=1) (by omega),rfl,?_⟩
  refine⟨l,rfl,hl,hlen,?_⟩;obtain⟨ks,eks⟩:∃ ks:L2.T,ks = .t [.t [.s (wf ws 0),.t [.t [.s (wf ws 1),.t []]]]]:=⟨_,rfl⟩
  have pok:IB ks (.s (wf ws 33)) (.s (wf ws 0)) l:=⟨by rw[eks];rfl,rfl,rfl,hl,hlen⟩
  have fim:=x6 (k:=wf ws 0) (w:=wf ws) pok;obtain⟨pr,epr⟩:∃ pr:L2.T,pr=prT ks (.s (wf ws 33)) (.s (wf ws 0)) (wf ws 0) (wf ws) l:=⟨_,rfl⟩
  have pim:pr.im=true:=by
   rw[epr];show(ks.im&&((L2.T.t (pT (.s (wf ws 33)) (.s (wf ws 0)) (wf ws 0) (wf ws) l)).im&&true))=true;rw[pok.ks,fim];rfl
  refine⟨rfl,wf ws,l,ks,.s (wf ws 33),.s (wf ws 0),wf ws 0,(by rw[eks];rfl),pok,?_⟩
  refine⟨aU 0 0 l,rfl,rfl,?_⟩;rw[AL hl];refine⟨3,by decide,nk fun z hz=>?_,fun ca hca=>?_⟩
  ·rcases QH.mp hz with rfl|hz
   ·exact .i
   ·rw[Es.mp hz];refine Ju fun y hy=>?_
    obtain⟨ps,e,_,h⟩:=D9 (w:=wf ws) (l:=[]) (c:=0);cases e;exact h y hy
  obtain rfl:=hca.mpr rfl;have hfl:=rN (l:=l) (g:=0) (m:=0);obtain⟨PS,hPS,hPl⟩:∃ PS:List Int,eU ((aU 0 0 l).map L2.T.i) none (some 4)++eU ((aU 0 0 l).map L2.T.i) (some (-1)) none=PS.map L2.T.i/\PS.length<=60:=by
   refine⟨eU (aU 0 0 l) none (some 4)++eU (aU 0 0 l) (some (-1)) none,?_,?_⟩
   ·rw[HZ,HZ,RL]
   ·have h1:=NO (xs:=aU 0 0 l) (lo:=none) (hi:=some 4);have h2:=NO (xs:=aU 0 0 l) (lo:=some (-1)) (hi:=none);rw[Q9];omega
  refine⟨cN _,cN _,?_⟩;have hcl:(eU ((aU 0 0 l).map L2.T.i) none (some 4)).length+(eU ((aU 0 0 l).map L2.T.i) (some (-1)) none).length<=60:=by
   rw[<- Q9,hPS,QR];exact hPl
  refine⟨RB (dB (Ra hcl (by decide))),(by rw[HZ];exact cN _),(by show L2.T.ims (eU ((aU 0 0 l).map L2.T.i) (some (-1)) none)=true;rw[HZ];exact cN _),?_⟩
  obtain⟨W,hW⟩:∃ W:Nat->Sq->Prop,W=fun i q=>∃(L:List L2.T)(M:List Int)(o9:Sl),q = [.r (.z ns),.r .lb,.o (.l (ws.map .s)),.o (.l (l.map gF)),.o ks,.o pr,.o (vT (wf ws)),.o (.l ((aU 0 0 l).map .i)),.o (.l L),o9,.no,.no,.no,.no,.no,.no,.no]/\L=M.map .i/\M.length<=1+3*i:=⟨_,rfl⟩
  refine⟨W,?_,?_,?_⟩
  ·rw[hW];exact⟨_,[0],_,by rw[eks,epr,eks];rfl,rfl,by decide⟩
  ·intro i y q hy hq;have hy:(PS.map L2.T.i)[i]? = some y:=by rw[<- hPS];exact hy
   rw[Q0]at hy;obtain⟨z,hz,rfl⟩:=Rh.mp hy;have hi:=(Qx.mp hz).1;rw[hW]at hq;obtain⟨L,M,o9,rfl,rfl,hM⟩:=hq;refine⟨_,rfl,?_⟩;refine⟨rfl,RB (dB (by rw[QR];show M.length+3<=_;omega)),cN M,rfl,?_⟩
   rw[hW];exact⟨_,M ++ [z,(if 0 > z - 1 then 0 else z - 1),z+1],_,rfl,by simp,by rw[Q9];show M.length+3<=_;omega⟩
  ·intro q hq;have hN:(eU ((aU 0 0 l).map L2.T.i) none (some 4)++eU ((aU 0 0 l).map L2.T.i) (some (-1)) none).length<=60:=by rw[hPS,QR];exact hPl
   rw[hW]at hq;obtain⟨L,M,o9,rfl,rfl,hM⟩:=hq;clear hW W;refine⟨fun i q=>∃ o9 o10 o11 o12 o13 o14 o15 o16,q = [.r (.z ns),.r .lb,.o (.l (ws.map .s)),.o (.l (l.map gF)),.o ks,.o pr,.o (vT (wf ws)),.o (.l ((aU 0 0 l).map .i)),.r (.l (M.map .i)),o9,o10,o11,o12,o13,o14,o15,o16],⟨_,_,_,_,_,_,_,_,rfl⟩,?_,?_⟩
   ·rintro i y q hy ⟨o9,o10,o11,o12,o13,o14,o15,o16,rfl⟩
    rw[Q0]at hy;obtain⟨c,hc,rfl⟩:=Rh.mp hy;obtain⟨ps,eps,hps,hdp⟩:=D9 (w:=wf ws) (l:=l) (c:=c);refine⟨_,rfl,l,c,vT (wf ws),rfl,rfl,hl,hlen,?_⟩;rw[eps];refine⟨_,rfl,?_⟩;refine⟨rfl,rfl,wf ws,l,ks,.s (wf ws 33),.s (wf ws 0),wf ws 0,c,(by rw[epr]),pok,?_⟩
    rw[eps];refine⟨hps,rfl,rfl,3,by decide,nk fun z hz=>?_,fun ca hca=>?_⟩
    ·rcases QH.mp hz with rfl|hz
     ·exact Ju hdp
     ·rcases QH.mp hz with rfl|hz
      ·exact .i
      ·rw[Es.mp hz];exact .i
    obtain rfl:=hca.mpr rfl;refine⟨rfl,rfl,(by show(pr.im&&(true&&(true&&(true&&true))))=true;rw[pim];rfl),fun x0=>?_⟩
    refine⟨x0,ks,_,.s (wf ws 33),_,.s (wf ws 0),aW (wf ws) 0 l,wf ws 2,wf ws 0,vT (wf ws),_,c,(by rw[epr];rfl),rfl,rfl,rfl,rfl,bX _ _ _,rfl,pok.ks,rfl,fun x=>⟨rfl,rfl,?_⟩⟩
    obtain⟨D1,eD1⟩:∃ D1,(bN (vT (wf ws)) l c).2.1=D1:=⟨_,rfl⟩
    obtain⟨D2,eD2⟩:∃ D2,(bN (vT (wf ws)) l c).2.2.1=D2:=⟨_,rfl⟩
    obtain⟨la,ela⟩:∃ la,(bN (vT (wf ws)) l c).2.2.2=la:=⟨_,rfl⟩
    rw[eD1,eD2,ela];clear hca;obtain⟨W,hW⟩:∃ W:Nat->Sq->Prop,W=fun(j:Nat) q=>∃(o16:Sl)(wt:L2.T),q = [.r (.z ns),.r .lb,.o (.l (ws.map .s)),.o (.l (l.map gF)),.o ks,.o pr,.o (vT (wf ws)),.o (.l ((aU 0 0 l).map .i)),.r (.l (M.map .i)),o9,.r (.i c),.o (.t ps),.o (.i D1),.o (.i D2),.r (.l (la.map .i)),.o wt,o16] /\
     ((∃(nm:List (Key×L2.T))(cc:Int)(pre:List Int),wt=wT a.av x0 (.t (pT (.s (wf ws 33)) (.s (wf ws 0)) (wf ws 0) (wf ws) l)) [fT a.ay x 0 j (aW (wf ws) j (l.drop j)) nm] cc j .n/\my (wf ws) nm j/\gP (vT (wf ws)) l c j cc/\la=pre++(bN (vT (wf ws)) (l.drop j) cc).2.2.2/\pre.length=j/\j<=l.length) \/
      (wt=wT a.av x0 (.t (pT (.s (wf ws 33)) (.s (wf ws 0)) (wf ws 0) (wf ws) l)) [] D1 D2 (.t ps)/\j=la.length)):=⟨_,rfl⟩
    refine⟨W,?_,?_,?_⟩
    ·rw[hW];exact⟨_,_,rfl,.inl ⟨_,c,[],rfl,ns0 _,.zero,ela.symm,rfl,RE _⟩⟩
    ·intro j y q hy hq;rw[Q0]at hy;obtain⟨z,hz,rfl⟩:=Rh.mp hy;have hjl:=(Qx.mp hz).1;rw[hW]at hq;obtain⟨o16,wt,rfl,⟨nm,cc,pre,rfl,hn,ha,hla,hpre,Qb⟩ |⟨rfl,hj⟩⟩:=hq
     ·have hnl:=hn.l;refine⟨_,rfl,?_⟩;refine⟨rfl,rfl,x0,_,_,cc,j,.n,rfl,rfl,?_⟩;refine⟨rfl,rfl,rfl,?_⟩;by_cases hi:j<l.length
      ·obtain⟨ns',hn',hs⟩:=sf (l:=l.drop (j+1)) (c:=cc) (hl _ (Ru hi)) hn;rw[<- drop_cons hi]at hs;refine .inl ⟨x0,x,_,j,_,nm,cc,j,_,rfl,fim,hn.i,by omega,hs,?_⟩
       unfold nxt;by_cases g:l[j].1 = "pay" /\ l[j].2 > cc
       ·obtain⟨e1,e2,e3⟩:=ha.short hi g;rw[if_pos g];rw[drop_cons hi,mf g]at hla;have ez:z=cc:=by
         rw[hla,Rw (by omega),hpre,SJ]at hz
         cases hz;rfl
        subst ez;refine⟨rfl,rfl,_,rfl,?_⟩;refine⟨rfl,rfl,x0,_,_,_,_,_,rfl,rfl,?_⟩;refine⟨rfl,gG (fun g=>absurd g ne_self) fun _=>?_⟩
        rw[hW];refine⟨_,_,rfl,.inr ⟨?_,?_⟩⟩
        ·rw[<- eps,<- eD1,<- eD2,e1,e2,e3];rfl
        ·rw[hla,Q9,hpre];rfl
       ·rw[if_neg g];rw[drop_cons hi,pW g]at hla;have ez:z=cc+dlt l[j]:=by
         rw[hla,Rw (by omega),hpre,SJ]at hz
         cases hz;rfl
        subst ez;refine⟨rfl,rfl,_,rfl,?_⟩;refine⟨rfl,rfl,x0,_,_,_,_,_,rfl,rfl,?_⟩;refine⟨rfl,gG (fun g=>absurd g ne_self) fun _=>?_⟩
        rw[hW];refine⟨_,_,rfl,.inl ⟨ns',cc+dlt l[j],pre ++ [cc+dlt l[j]],rfl,hn',ha.next hi g,?_,by rw[Q9,hpre];rfl,by omega⟩⟩
        rw[hla];simp
      ·have:j=l.length:=by omega
       subst this;have hs:=oN (i:=l.length) (c:=cc) hn;rw[RA]at hla ⊢;refine .inl ⟨x0,x,_,l.length,_,nm,cc,l.length,_,rfl,fim,hn.i,by omega,hs,?_⟩
       obtain⟨e1,e2,e3⟩:=ha.Ll;have ez:z=cc:=by
        rw[hla,Rw (by omega),hpre,SJ]at hz
        cases hz;rfl
       subst ez;refine⟨rfl,rfl,_,rfl,?_⟩;refine⟨rfl,rfl,x0,_,_,_,_,_,rfl,rfl,?_⟩;refine⟨rfl,gG (fun g=>absurd g ne_self) fun _=>?_⟩
       rw[hW];refine⟨_,_,rfl,.inr ⟨?_,?_⟩⟩
       ·rw[<- eps,<- eD1,<- eD2,e1,e2,e3];rfl
       ·rw[hla,Q9,hpre];rfl
     ·omega
    ·intro q hq;rw[hW,QR]at hq;obtain⟨o16,wt,rfl,⟨nm,cc,pre,rfl,hn,ha,hla,hpre,Qb⟩ |⟨rfl,hj⟩⟩:=hq
     ·exfalso
      have:=congrArg TK hla
      rw[Q9,hpre]at this;exact Lo (v:=vT (wf ws)) (l:=l.drop la.length) (c:=cc) (Ss.mp (by omega))
     ·refine⟨rfl,rfl,x0,_,_,_,_,_,rfl,hps,2,by decide,nk hdp,fun ca hca=>?_⟩
      obtain rfl:=hca.mpr rfl;refine⟨rfl,rfl,x0,_,_,_,_,_,rfl,hps,?_⟩;refine⟨rfl,gG (fun g=>absurd g ne_self) fun _=>?_⟩
      exact⟨_,_,_,_,_,_,_,_,rfl⟩
   ·rintro q ⟨o9,o10,o11,o12,o13,o14,o15,o16,rfl⟩
    rfl
end
theorem all_mk{l:W.OpenLaw}{w:World}{K:W.Frag}{h:Heap}{fa:Addr}(X:K.In h)(G:h.Ns mainGlobals mg)(hfa:mg "law" = some (.ref fa))
  {aV:Addr} (sV:W.nsIn K mainGlobals "Spot" = some (some (.ref aV))) (tG:W.plainGet K aV Str.empty=true) (tE:W.hasDictIn K aV=true) (tw:W.plainOver K aV=true)
  (tm:W.findIn K (.ref aV) "__setattr__" = some (some (.builtin "object.__setattr__"))) (sZ:W.makesIn K aV=true) (sX:W.keepIn K (.ref aV)=true)
  (hV:W.findIn K (.ref aV) "piece" = some none)
  (hX:W.findIn K (.ref aV) "above" = some none)
  (jH:W.findIn K (.ref aV) "arm" = some none)
  (eu:W.findIn K (.ref aV) "__init__" = some (some (.ref bG))) (iR:LK K bG "__init__" "Spot.__init__" iG Hm Hh Hx HY GO Iw uf Ie FR) (iY:CI K uf "Spot.__init__") (fI:KI K bG) (fF:W.isFn K (.ref bG)=true)
  {ay:Addr} (pz:W.nsIn K mainGlobals "Frame" = some (some (.ref ay))) (pH:W.plainGet K ay Str.empty=true) (pF:W.hasDictIn K ay=true) (pE:W.plainOver K ay=true)
  (pC:W.findIn K (.ref ay) "__setattr__" = some (some (.builtin "object.__setattr__"))) (pB:W.makesIn K ay=true) (pA:W.keepIn K (.ref ay)=true)
  (kW:W.findIn K (.ref ay) "f" = some none)
  (fj:W.findIn K (.ref ay) "number" = some none)
  (gb:W.findIn K (.ref ay) "piece" = some none)
  (gc:W.findIn K (.ref ay) "names" = some none)
  (dw:W.findIn K (.ref ay) "__init__" = some (some (.ref bh))) (hJ:LK K bh "__init__" "Frame.__init__" gW E8 E5 Fe Fh E1 Fv qZ Fm EX) (h7:CI K qZ "Frame.__init__") (eD:KI K bh) (eh:W.isFn K (.ref bh)=true)
  (cG:W.findIn K (.ref ay) "values_at" = some (some (.ref aT))) (cZ:LK K aT "values_at" "Frame.values_at" cW xy xx xX yb xm yn lh yc wI) (c6:CI K lh "Frame.values_at") (bS:KI K aT) (cY:W.isFn K (.ref aT)=true)
  (ff:W.findIn K (.ref ay) "go_on" = some (some (.ref bj))) (f7:LK K bj "go_on" "Frame.go_on" fR Ds Dp DJ Ef C3 ED pZ Eo B9) (gi:CI K pZ "Frame.go_on") (dz:KI K bj) (fX:W.isFn K (.ref bj)=true)
  (cp:W.findIn K (.ref ay) "go_on_with" = some (some (.ref aL))) (cH:LK K aL "go_on_with" "Frame.go_on_with" cE wg we wj wk wc wo kB wm wb) (cI:CI K kB "Frame.go_on_with") (bL:KI K aL) (cF:W.isFn K (.ref aL)=true)
  (bR:W.findIn K (.ref ay) "go_on_in_arm" = some (some (.ref aG))) (b8:LK K aG "go_on_in_arm" "Frame.go_on_in_arm" dM uG uF uH uI uE uK js uJ uD) (b9:CI K js "Frame.go_on_in_arm") (bq:KI K aG) (b7:W.isFn K (.ref aG)=true)
  {av:Addr} (sU:W.nsIn K mainGlobals "Walk" = some (some (.ref av))) (tF:W.plainGet K av Str.empty=true) (tD:W.hasDictIn K av=true) (tu:W.plainOver K av=true)
  (tj:W.findIn K (.ref av) "__setattr__" = some (some (.builtin "object.__setattr__"))) (sY:W.makesIn K av=true) (sW:W.keepIn K (.ref av)=true)
  (dA:W.findIn K (.ref av) "functions" = some none)
  (fi:W.findIn K (.ref av) "running" = some none)
  (hU:W.findIn K (.ref av) "coins" = some none)
  (iU:W.findIn K (.ref av) "done" = some none)
  (f9:W.findIn K (.ref av) "ending" = some none)
  (er:W.findIn K (.ref av) "__init__" = some (some (.ref bF))) (iQ:LK K bF "__init__" "Walk.__init__" iF Hl Hg Hw HX GN Iv uc Ic FQ) (iX:CI K uc "Walk.__init__") (fH:KI K bF) (fE:W.isFn K (.ref bF)=true)
  (g7:W.findIn K (.ref av) "turn" = some (some (.ref bQ))) (iP:LK K bQ "turn" "Walk.turn" iE Hk Hf Hv HW GL Iu ub Ib FP) (iW:CI K ub "Walk.turn") (fG:KI K bQ) (iN:W.isFn K (.ref bQ)=true)
  (fe:W.findIn K (.ref av) "frames" = some (some (.ref bJ))) (f6:LK K bJ "frames" "Walk.frames" jy Dr Dm DI Ee C2 EC pY En B8) (gg:CI K pY "Walk.frames") (dy:KI K bJ) (fW:W.isFn K (.ref bJ)=true)
  (fZ:W.findIn K (.ref av) "purse" = some (some (.ref bE))) (g9:LK K bE "purse" "Walk.purse" gU E7 E4 Fd Fg EZ Ft qY Fl EW) (h6:CI K qY "Walk.purse") (eC:KI K bE) (g6:W.isFn K (.ref bE)=true)
  (fY:W.findIn K (.ref av) "steps" = some (some (.ref bD))) (g8:LK K bD "steps" "Walk.steps" gT E6 E2 Fb Ff EY Fo qX Fj EV) (hZ:CI K qX "Walk.steps") (eB:KI K bD) (gZ:W.isFn K (.ref bD)=true)
  (iO:W.findIn K (.ref av) "end" = some (some (.ref cw))) (jG:LK K cw "end" "Walk.end" jz Jk Ji Jn Jw Jf JE vR JB IM) (jI:CI K vR "Walk.end") (gJ:KI K cw) (jE:W.isFn K (.ref cw)=true)
  (jF:W.findIn K (.ref av) "do" = some (some (.ref dh))) (kU:LK K dh "do" "Walk.do" kN KS KR K7 Lq Kw Lz ye Ls JW) (kX:CI K ye "Walk.do") (iS:KI K dh) (kT:W.isFn K (.ref dh)=true)
  (dW:W.findIn K (.ref av) "do_give" = some (some (.ref a9))) (fh:LK K a9 "do_give" "Walk.do_give" e8 BE BA BH BK Bx BQ n8 BN Bu) (fm:CI K n8 "Walk.do_give") (cS:KI K a9) (fc:W.isFn K (.ref a9)=true)
  (dU:W.findIn K (.ref av) "do_make" = some (some (.ref a8))) (fg:LK K a8 "do_make" "Walk.do_make" e7 BD Bz BG BJ Bw BP n6 BM Bt) (fk:CI K n6 "Walk.do_make") (cR:KI K a8) (fb:W.isFn K (.ref a8)=true)
  (dv:W.findIn K (.ref av) "do_coins" = some (some (.ref aZ))) (dY:LK K aZ "do_coins" "Walk.do_coins" dO AG AB AW A5 Aq Bo ng Bb z7) (d5:CI K ng "Walk.do_coins") (cB:KI K aZ) (dS:W.isFn K (.ref aZ)=true)
  (du:W.findIn K (.ref av) "end_with" = some (some (.ref aY))) (dX:LK K aY "end_with" "Walk.end_with" dN AF AA AV A4 Ap Bn nc Ba z6) (dZ:CI K nc "Walk.end_with") (cA:KI K aY) (dR:W.isFn K (.ref aY)=true)
  (ke:NI K "number_of" df) (jR:LK K df "number_of" "number_of" nE Hi Hd Ht HU GJ Iq t9 H0 FN) (j7:CI K t9 "number_of") (jT:KI K df)
  (uw:NI K "spots" km) (tS:LK K km "spots" "spots" sx Nc M8 Nr NK MZ N2 Er NQ Mb) (um:CI K Er "spots") (tW:KI K km)
  (fB:NI K "spots_beneath" bx) (fq:LK K bx "spots_beneath" "spots_beneath" e9 AE Az AU A3 Ao Bm m9 A9 z5) (fw:CI K m9 "spots_beneath") (ft:KI K bx)
  (qi:NI K "pieces" iC) (pM:LK K iC "pieces" "pieces" oU LR LQ LS LU LP LW Bd LV LO) (p8:CI K Bd "pieces") (pN:KI K iC)
  (kg:NI K "makers_in" dg) (jS:LK K dg "makers_in" "makers_in" jA Hj He Hu HV GK Ir ua Ia FO) (j8:CI K ua "makers_in") (jU:KI K dg)
  (yq:NI K "size" mZ) (xK:LK K mZ "size" "size" wQ OC Ow OJ OQ Om O2 Ig OW Oe) (yg:CI K Ig "size") (k_size:KI K mZ)
  (uy:NI K "depth" ko) (tU:LK K ko "depth" "depth" sA Ng Na Nu NM M1 N4 Ew NT Md) (uq:CI K Ew "depth") (tY:KI K ko)
  (EF:NI K "ran" rO) (DB:LK K rO "ran" "ran" Cn Pz Pw PY Qj Pr Qr Lu Ql O9) (Ex:CI K Lu "ran") (DF:KI K rO)
  (yt:NI K "need" m4) (xN:LK K m4 "need" "need" wU OE Oy OM OS Oq O4 Ii OY Oh) (yi:CI K Ii "need") (xT:KI K m4)
  (lu:NI K "end_told" d9) (kZ:LK K d9 "end_told" "end_told" kQ Jj Jh Jm Jv Je JD vQ JA IL) (lj:CI K vQ "end_told") (k4:KI K d9)
  (gD:NI K "greatest_pay" bM) (gq:LK K bM "greatest_pay" "greatest_pay" fU BB By BF BI Bv BO nZ BL Bs) (gB:CI K nZ "greatest_pay") (gs:KI K bM)
  (yw:NI K "_law_deal" m6) (xP:LK K m6 "_law_deal" "_law_deal" wW OH OA OO OU Ou O6 Ik O0 Oj) (yk:CI K Ik "_law_deal") (xV:KI K m6)
  (yu:NI K "_law_draw" m5) (xO:LK K m5 "_law_draw" "_law_draw" wV OG Oz ON OT Ot O5 Ij OZ Oi) (yj:CI K Ij "_law_draw") (xU:KI K m5)
  (uv:NI K "_law_words" kl) (tR:LK K kl "_law_words" "_law_words" sv Nb M7 Nq NJ MY N1 Ep NP Ma) (uk:CI K Ep "_law_words") (tV:KI K kl)
  (yr:NI K "_law_rows" m3) (xM:LK K m3 "_law_rows" "_law_rows" wR OD Ox OL OR Oo O3 Ih OX Og) (yh:CI K Ih "_law_rows") (xS:KI K m3)
  (yy:NI K "_law_body" m7) (xQ:LK K m7 "_law_body" "_law_body" wX OI OB OP OV Ov O7 Il O1 Ol) (yl:CI K Il "_law_body") (xW:KI K m7)
  (EG:NI K "_law_due" rQ) (DD:LK K rQ "_law_due" "_law_due" Co PC Py PZ Qk Pt Qs Lv Qm Pb) (Ez:CI K Lv "_law_due") (DH:KI K rQ)
  (ux:NI K "_law_needs" kn) (tT:LK K kn "_law_needs" "_law_needs" sy Nf M9 Nt NL M0 N3 Et NS Mc) (uo:CI K Et "_law_needs") (tX:KI K kn)
  (zM:NI K "law" rP) (DC:LK K rP "law" "law" nF PB Px K6 Lp Kv Ly Eu Lr Pa) (Ey:CI K Eu "law") (DG:KI K rP)
  (BW:W.nsIn K mainGlobals "len" = some none)
  (wq:W.nsIn K mainGlobals "list" = some none)
  (rX:W.nsIn K mainGlobals "tuple" = some none)
  (BX:W.nsIn K mainGlobals "int" = some none)
  (wu:W.nsIn K mainGlobals "dict" = some none)
  (kM:W.nsIn K mainGlobals "reversed" = some none)
  (BV:W.nsIn K mainGlobals "max" = some none)
  (BU:W.nsIn K mainGlobals "min" = some none)
  (rY:W.nsIn K mainGlobals "range" = some none)
  (BS:W.nsIn K mainGlobals "zip" = some none)
  (jv:W.nsIn K mainGlobals "enumerate" = some none)
  {qF:Tok} (gR:W.nsIn K mainGlobals "MOST_MAKERS" = some (some (.int 200 qF)))
  {qE:Tok} (gQ:W.nsIn K mainGlobals "MOST_WITHIN" = some (some (.int 60 qE)))
  : ∃ fd:FuncData,(∀(s:Shared)(v:Value),BindsTo s fd ⟨[v],[]⟩ [("_law_script",v)])/\∀ base:Heap,K.In base->base.Ns mainGlobals mg->aQ l.prog w K mg base CX0 100 fa fd ["_law_script"] (oO K):=by
 have e:=hfa.symm.trans (W.mg_of X G zM);cases e;have nN:=aK jR j7 jT;have zO:=aK tS um tW;have jn:=aK fq fw ft;have v8:=aK pM p8 pN;have nO:=aK jS j8 jU;have EI:=aK xK yg k_size;have zQ:=aK tU uq tY;have JH:=aK DB Ex DF;have EK:=aK xN yi xT;have qw:=aK kZ lj k4;have ki:=aK gq gB gs;have EM:=aK xP yk xV;have EL:=aK xO yj xU;have zN:=aK tR uk tV;have EJ:=aK xM yh xS;have EN:=aK xQ yl xW;have JJ:=aK DD Ez DH;have zP:=aK tT uo tX;have JI:=aK DC Ey DG;have gO:=aK iR iY fI;have fM:=aK hJ h7 eD;have cj:=aK cZ c6 bS;have eO:=aK f7 gi dz;have bU:=aK cH cI bL;have cy:=aK b8 b9 bq;have gN:=aK iQ iX fH;have gM:=aK iP iW fG;have ik:=aK f6 gg dy;have fL:=aK g9 h6 eC;have fK:=aK g8 hZ eB;have jh:=aK jG jI gJ;have kr:=aK kU kX iS;have dI:=aK fh fm cS;have dH:=aK fg fk cR;have cU:=aK dY d5 cB;have cT:=aK dX dZ cA;have T:Txt K mg ⟨aV,bG,_,ay,bh,_,aT,_,bj,_,aL,_,aG,_,av,bF,_,bQ,_,bJ,_,bE,_,bD,_,cw,_,dh,_,a9,_,a8,_,aZ,_,aY,_,df,_,km,_,bx,_,iC,_,dg,_,mZ,_,ko,_,rO,_,m4,_,d9,_,bM,_,m6,_,m5,_,kl,_,m3,_,m7,_,rQ,_,kn,_,rP,_⟩:=⟨⟨tG,tE,tw,tm⟩,W.mg_of X G sV,⟨sZ,eu,fF,sX⟩,hV,hX,jH,gO,⟨eu,fF,fI⟩,gO.b4,⟨pH,pF,pE,pC⟩,W.mg_of X G pz,⟨pB,dw,eh,pA⟩,kW,fj,gb,gc,fM,⟨dw,eh,eD⟩,fM.b4,cj,⟨cG,cY,bS⟩,cj.b2,eO,⟨ff,fX,dz⟩,eO.b3,bU,⟨cp,cF,bL⟩,bU.b2,cy,⟨bR,b7,bq⟩,cy.b1,⟨tF,tD,tu,tj⟩,W.mg_of X G sU,⟨sY,er,fE,sW⟩,dA,fi,hU,iU,f9,gN,⟨er,fE,fH⟩,gN.b5,gM,⟨g7,iN,fG⟩,gM.b1,ik,⟨fe,fW,dy⟩,ik.b1,fL,⟨fZ,g6,eC⟩,fL.b1,fK,⟨fY,gZ,eB⟩,fK.b1,jh,⟨iO,jE,gJ⟩,jh.b1,kr,⟨jF,kT,iS⟩,kr.b2,dI,⟨dW,fc,cS⟩,dI.b2,dH,⟨dU,fb,cR⟩,dH.b2,cU,⟨dv,dS,cB⟩,cU.b3,cT,⟨du,dR,cA⟩,cT.b2,⟨nN,W.mg_of X G ke,nN.b2⟩,⟨zO,W.mg_of X G uw,zO.b1⟩,⟨jn,W.mg_of X G fB,jn.b2⟩,⟨v8,W.mg_of X G qi,v8.b1⟩,⟨nO,W.mg_of X G kg,nO.b1⟩,⟨EI,W.mg_of X G yq,EI.b1⟩,⟨zQ,W.mg_of X G uy,zQ.b1⟩,⟨JH,W.mg_of X G EF,JH.b5⟩,⟨EK,W.mg_of X G yt,EK.b4⟩,⟨qw,W.mg_of X G lu,qw.b1⟩,⟨ki,W.mg_of X G gD,ki.b1⟩,⟨EM,W.mg_of X G yw,EM.b2⟩,⟨EL,W.mg_of X G yu,EL.b2⟩,⟨zN,W.mg_of X G uv,zN.b2⟩,⟨EJ,W.mg_of X G yr,EJ.b2⟩,⟨EN,W.mg_of X G yy,EN.b2⟩,⟨JJ,W.mg_of X G EG,JJ.b3⟩,⟨zP,W.mg_of X G ux,zP.b1⟩,⟨JI,W.mg_of X G zM,JI.b1⟩,W.mg_none_of X G BW,W.mg_none_of X G wq,W.mg_none_of X G rX,W.mg_none_of X G BX,W.mg_none_of X G wu,W.mg_none_of X G kM,W.mg_none_of X G BV,W.mg_none_of X G BU,W.mg_none_of X G rY,W.mg_none_of X G BS,W.mg_none_of X G jv,⟨_,W.mg_of X G gR⟩,⟨_,W.mg_of X G gQ⟩⟩;exact⟨W.fnOf "law" "law" (dD nF) (bH nF) (ak nF) .none K6 Lp Kv Ly Eu Lr,fun s v=>.of_eq rfl,fun base _ _=>KP T⟩
theorem walk{l:W.OpenLaw}{q:Program}{loose:List Str}{XP:(Str->Option Value)->Heap->Prop}{YP:World->Heap->Prop}{d:DefRec}{K:Params->W.Frag}(hn:l.most=some 63)(hdf:d.params.defaults = [])
  (hY:∀(w:World)(h:Heap),YP w h ->(K w.params).In h)
  (F:∀(w:World)(mg:Str->Option Value)(fa:Addr)(h:Heap),(K w.params).In h->h.Ns mainGlobals mg->mg d.name=some (.ref fa) ->
   ∃ fd:FuncData,(∀(s:Shared)(u:Value),BindsTo s fd ⟨[u],[]⟩ [("_law_script",u)])/\∀ base:Heap,(K w.params).In base->base.Ns mainGlobals mg->aQ l.prog w (K w.params) mg base CX0 100 fa fd ["_law_script"] (oO (K w.params))) :
  W.WalkO q loose XP YP l.row.toRowW d [] (fun f vs=>PySem.call f vs) :=
 L2.FF (n:=63) (k:=100) (x:="_law_script") (CX:=fun _=>CX0) (sp:=fun w=>oO (K w.params)) hn (by decide) hdf ⟨rfl,by decide,by decide⟩ hY F (fun _ _ a ns hl hO hS=>⟨a,ns,rfl,ND hO hS,hl,fun _=>rfl⟩) fun _ _ _ _ _ z=>z
end K22
namespace PySem.W.Fast
def tw10103942014054529549:=()
def tw10227135627362121447:=()
def tw10357397701479306402:=()
def tw10648146069205265053:=()
def tw10662015935358995588:=()
def tw10822113235556607049:=()
def tw10898011787719508887:=()
def tw1092288307511798179:=()
def tw10974737715009811961:=()
def tw11088870110300216321:=()
def tw11123010916609017076:=()
def tw1118946015698525954:=()
def tw1122982788224886238:=()
def tw11239880368270833774:=()
def tw11271429339870795298:=()
def tw11288020332257387449:=()
def tw11292733978775344239:=()
def tw11492431517406696733:=()
def tw117662916538656777:=()
def tw11858182105538783068:=()
def tw11869867641808548067:=()
def tw11935127583361934479:=()
def tw12072950375348657013:=()
def tw12244953318410992943:=()
def tw12300173111608832469:=()
def tw12358275501753536154:=()
def tw12390390191303442996:=()
def tw12414969680177782221:=()
def tw12415756350000591034:=()
def tw12516656665660229616:=()
def tw12647181201393902886:=()
def tw12902999317182989084:=()
def tw12974971803037730610:=()
def tw1315285230689033935:=()
def tw13205816057012244827:=()
def tw13245235628120836015:=()
def tw13288981852505760061:=()
def tw13421761305095543727:=()
def tw13477811660111396928:=()
def tw13492793072030755709:=()
def tw1362135406129826510:=()
def tw13626812938545711155:=()
def tw13735406193612219435:=()
def tw13756201769165050951:=()
def tw13778990584042558767:=()
def tw14031110294751804850:=()
def tw14063822642391766170:=()
def tw14147495714191339206:=()
def tw1432954748640547100:=()
def tw14439947024067570525:=()
def tw14708378950668627752:=()
def tw14753675150526957617:=()
def tw1477977192006418491:=()
def tw14787741675566183301:=()
def tw14817735691606484712:=()
def tw14826169503850639191:=()
def tw14875115115224304305:=()
def tw14957018726962167769:=()
def tw14996701883224202766:=()
def tw15068176345697597872:=()
def tw15075842051257058670:=()
def tw15182637359415591651:=()
def tw15256964945732895658:=()
def tw1530599102200191886:=()
def tw15334661653199032054:=()
def tw1553660120439241768:=()
def tw15550458750154157920:=()
def tw15564036780588605347:=()
def tw15576210277290096105:=()
def tw15610609189769714563:=()
def tw15687421132281549699:=()
def tw15777276792776051279:=()
def tw16050173909986470053:=()
def tw16178594390343750362:=()
def tw16182832056106521046:=()
def tw16363538516006222095:=()
def tw16382731315150202177:=()
def tw16471739893767195509:=()
def tw16574502961228812154:=()
def tw16729443027501804586:=()
def tw16994183799318174334:=()
def tw17023945339971126729:=()
def tw1703495792858827313:=()
def tw17088559881148680369:=()
def tw17231637683321343346:=()
def tw17492872701577523113:=()
def tw17506333563831929860:=()
def tw17610605981091750809:=()
def tw1783602530072209207:=()
def tw17951536567948581705:=()
def tw18008047580448683232:=()
def tw18107879075197346370:=()
def tw1812122302121982201:=()
def tw18213005509892422095:=()
def tw1842560191801065742:=()
def tw1940974028703602855:=()
def tw2046099399528094365:=()
def tw2172842288035124644:=()
def tw2196617499310163446:=()
def tw2304452374520406723:=()
def tw2352734737079127212:=()
def tw2354773645200659588:=()
def tw2357238711928277884:=()
def tw2388914206940874576:=()
def tw2687586096168554630:=()
def tw2801262261157097254:=()
def tw286481500846063131:=()
def tw2880608077842543520:=()
def tw294767292820939012:=()
def tw29487380188050332:=()
def tw3077041593311124524:=()
def tw3137126422708039911:=()
def tw3154678464098149280:=()
def tw3193748779222416715:=()
def tw3205711346708436836:=()
def tw3426854545085797093:=()
def tw3448061688492505314:=()
def tw3493687028598646067:=()
def tw3523878026843795917:=()
def tw3538924121982712795:=()
def tw372382501622131074:=()
def tw4062888102150625457:=()
def tw4115077699606438939:=()
def tw43320331798653834:=()
def tw4386170491360213246:=()
def tw4463728236516763456:=()
def tw4467913792670161175:=()
def tw4528422421813365129:=()
def tw4566821080280459558:=()
def tw4619209258187810608:=()
def tw4624476509672610517:=()
def tw4673329688642629842:=()
def tw4747205107134768484:=()
def tw4796703449281333878:=()
def tw5108240340705584360:=()
def tw5126059879546852292:=()
def tw5274430496542213668:=()
def tw5516959965105582168:=()
def tw5536254421570947791:=()
def tw5546769632211473041:=()
def tw562318741560350720:=()
def tw5915843418672949412:=()
def tw6564467053842924611:=()
def tw6726422308389216140:=()
def tw6791839224532278092:=()
def tw6876049044999062335:=()
def tw7173743583176491727:=()
def tw7222938046188885592:=()
def tw7428441524336353046:=()
def tw7489640707203083253:=()
def tw7548632039586373150:=()
def tw7599972991994308693:=()
def tw7783995225250787670:=()
def tw800175519153901897:=()
def tw8032117150798705676:=()
def tw8223383978453128565:=()
def tw830288943588777094:=()
def tw8459886294045681834:=()
def tw8526089511471089929:=()
def tw8575548514341720909:=()
def tw865088590598575854:=()
def tw8688489769997863886:=()
def tw8714084540855814952:=()
def tw8802289157702676163:=()
def tw887137007189756003:=()
def tw8897631686280619924:=()
def tw8963767998748835647:=()
def tw9021299128121448322:=()
def tw9025736950611273021:=()
def tw9109975730468105981:=()
def tw9221556189208671487:=()
def tw9292940552723689239:=()
def tw9333607371839733099:=()
def tw9425719337234384679:=()
def tw9546928178289050698:=()
def tw9597441053606901032:=()
def tw9652726761570470571:=()
def tw9760553497427452151:=()
end PySem.W.Fast
open PySem PySem.W PyProof.Rows
set_option maxRecDepth 100000 in
set_option maxHeartbeats 0 in
theorem PySem.Challenge.cw_pursewright_k22_short_at_the_edge_holds : PySem.Challenge.rw_pursewright_k22_short_at_the_edge.Holds := by
 w_on;o_law;k_head;(case hw=>w_witness2)
 k_fill
 refine K22.walk (l:=PySem.Challenge.rw_pursewright_k22_short_at_the_edge) rfl rfl (fun w h Y=>PySem.W.kIn_of Y) ?F
 case F =>
  intro w mg fa h KX G hmg;refine' K22.all_mk KX G hmg ?sV ?tG ?tE ?tw ?tm ?sZ ?sX ?hV ?hX ?jH ?eu ?iR ?iY ?fI ?fF ?pz ?pH ?pF ?pE ?pC ?pB ?pA ?kW ?fj ?gb ?gc ?dw ?hJ ?h7 ?eD ?eh ?cG ?cZ ?c6 ?bS ?cY ?ff ?f7 ?gi ?dz ?fX ?cp ?cH ?cI ?bL ?cF ?bR ?b8 ?b9 ?bq ?b7 ?sU ?tF ?tD ?tu ?tj ?sY ?sW ?dA ?fi ?hU ?iU ?f9 ?er ?iQ ?iX ?fH ?fE ?g7 ?iP ?iW ?fG ?iN ?fe ?f6 ?gg ?dy ?fW ?fZ ?g9 ?h6 ?eC ?g6 ?fY ?g8 ?hZ ?eB ?gZ ?iO ?jG ?jI ?gJ ?jE ?jF ?kU ?kX ?iS ?kT ?dW ?fh ?fm ?cS ?fc ?dU ?fg ?fk ?cR ?fb ?dv ?dY ?d5 ?cB ?dS ?du ?dX ?dZ ?cA ?dR ?ke ?jR ?j7 ?jT ?uw ?tS ?um ?tW ?fB ?fq ?fw ?ft ?qi ?pM ?p8 ?pN ?kg ?jS ?j8 ?jU ?yq ?xK ?yg ?k_size ?uy ?tU ?uq ?tY ?EF ?DB ?Ex ?DF ?yt ?xN ?yi ?xT ?lu ?kZ ?lj ?k4 ?gD ?gq ?gB ?gs ?yw ?xP ?yk ?xV ?yu ?xO ?yj ?xU ?uv ?tR ?uk ?tV ?yr ?xM ?yh ?xS ?yy ?xQ ?yl ?xW ?EG ?DD ?Ez ?DH ?ux ?tT ?uo ?tX ?zM ?DC ?Ey ?DG ?BW ?wq ?rX ?BX ?wu ?kM ?BV ?BU ?rY ?BS ?jv ?gR ?gQ
  all_goals try delta L2.NI L2.LK L2.CI L2.KI
  all_goals try first|k_is|kernel_rfl
