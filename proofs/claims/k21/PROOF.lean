import PyProof.Rows.All
import Wide.All
import OpenK.AllK
import Wide.FinOn
import Lean
import PyProof.EqAt
import PyProof.EqKinds
import PyProof.TupleCall
import PyProof.InstStoreFacts
import PySem.Challenge.RW_pursewright_k21_values_too_great
set_option Elab.async false
set_option linter.all false
set_option maxRecDepth 100000
open PySem renaming wpAny_bind→j2,starEach→QX,wpAny_pure→TH,sizeLine→WT,wpAny_call_entry→Xz,wpAny_newObj_type→XI,wpAny_holding→XJ,wpAny_Call_Name_kw→XQ,wpAny_mono→X5,wpAny_specialOf→X6,wpAny_isInstance→X8,wpAny_attempt→Ya,wpAny_typeOf→Yg,isSubtype_type→Yh,wpAny_updateSeq→Yj,sizeLine_eq→Yo,wpAny_of_eq→Yp,plainId_quiet→Yt,wpAny_rule→Yu,codeAny_builtin→YJ,PassesOwn→Zt
open PySem.Heap renaming get?_push_of_some→j3,get?_push_size→W8,lt_size→Xe,size_push→Xq,get?_update_other→Xx,get?_update_self→XR,SameBut→X1,ExtBut→Zp,get?_push_cases→Zq
open List renaming mem_cons_self→j5,mem_singleton→qr,mem_cons_of_mem→Es,length_map→PZ,mem_cons→QH,getElem?_eq_getElem→RH,getElem?_eq_some_iff→VZ,size_toArray→Wc,nodup_nil→W2,mem_append_right→W7,getElem?_map→Xc,mem_append_left→Xf,append_nil→Xh,mem_append→Xj,lookup_cons→Xk,length_append→Xl,nodup_cons→Xm,length_cons→Xn,replicate→Xp,map_cons→Xs,range→Xt,take_add_one→Xu,take_length→Xv,not_mem_nil→Xy,mem_of_getElem?→XA,mem_map→XC,find?_cons→XF,getElem?_append_right→XG,all_eq_true→XH,getElem?_set_ne→XM,getElem?_append_left→XN,nodup_append→XT,length_set→XW,getElem?_set_self→XX,append_eq_nil_iff→XZ,cons_ne_nil→X3,getD_eq_getElem?_getD→X4,length_take→X7,length_range→Yb,of_mem_zip→Yc,length_zip→Yd,getElem_of_mem→Ye,perm_append_comm_assoc→Yf,drop_eq_getElem_cons→Yi,lookup→Yk,append_assoc→Yl,any_cons→Ys,getElem?_replicate→Yv,append_cancel_left→Yw,length_eq_zero_iff→Yx,reverse_cons→Yy,mem_range→Yz,getElem_mem→YA,any_eq_true→YB,getElem?_zip_eq_some→YD,length_nil→YG,forIn_cons→YH,map_append→YI,mem_filterMap→YK,findIdx?_eq_some_iff_getElem→YL,map_map→YM,getElem?_eq_none→YN,getElem?_toArray→YO,sublist_nil→YR,filterMap_cons→YV,length_reverse→YW,nodup_iff_pairwise_ne→YZ,forIn_nil→Y0,mem_or_eq_of_mem_set→Y1,sublist_append_right→Y2,set_eq_of_length_le→Y5,length_drop→Y7,cons_append→Y9,mem_flatten→Za,getElem_map→Zb,map_nil→Zc,drop_eq_nil_of_le→Zg,take_of_length_le→Zh,range_succ→Zl,eq_nil_or_concat→Zn,take_append_drop→Zo,dropLast_concat→Zr,mem_of_mem_take→Zs,map_congr_left→Zu,mem_map_of_mem→Zv,flatMap_append→Zw,flatten_append→Zx,all_cons→Zy,sum_cons→Zz,any_eq_false→ZF,any_map→ZJ,all_map→ZK,findIdx?_map→ZL,zip→ZM,flatMap_cons→ZO,zipIdx_cons→ZQ,ext_getElem→ZR,perm_middle→ZS,length→ZT,foldl→ZV
open Nat renaming le_refl→Xa,ne_of_lt→Xo,lt_of_lt_of_le→Xr,le_trans→Xw,lt_succ_self→XE,le_of_lt→XO,lt_succ_of_lt→XS,zero_le→XU,ne_of_gt→XY,le_succ_of_le→Yn,lt_irrefl→Yq,min_le_right→YQ,succ_le_succ→YS,lt_of_le_of_lt→YY,lt_succ_iff_lt_or_eq→Y6,le_of_not_lt→Y8,lt_trans→Zd,sub_self→Ze,not_lt_zero→Zj,mod_mod_of_dvd→ZA,sub_le→ZU
open Bool renaming false_ne_true→Xd,and_eq_true→Xi,false_eq_true→X2,false_or→YT,eq_iff_iff→YU,and_false→YX,true_or→ZH,eq_false_iff→ZI
open Option renaming map_eq_some_iff→Xg,toList_some→ZE,getD_none→ZP
open Int renaming le_refl→X0,le_trans→X9,add_zero→YC,toNat_of_nonneg→YF,toNat_natCast→Y4,natCast_mul→Zi,natCast_add→Zk,zero_add→ZN
open PySem.Around renaming under_plainId→Ym,under→ZG
open PySem.Obj renaming mapSeq→Yr,data_mapFields→ZC
open Array renaming length_toList→YE,size_append→Y3,getElem?_eq_none→Zf,getElem?_toList→Zm,forIn_toList→ZD
namespace L2
open PySem PySem.Spec PyProof.Rows
abbrev Key:=Sum Int Str
def uY:Key->Value->Bool
 | .inl k,v=>Value.isInt k v
 | .inr x,v=>Value.isStrOf x v
def V9(w:World):Key->Int
 | .inl k=>hashInt k
 | .inr x=>hashStr w x
theorem bL:∀{k:Key}{v:Value},uY k v=true ->(∃ i t,k=Sum.inl i/\v=Value.int i t)\/(∃ x t,k=Sum.inr x/\v=Value.str x t)
 | .inl i,v,h=>by
  obtain⟨t,e⟩:=Value.isInt_shape (k:=i) (v:=v) h;exact .inl ⟨i,t,rfl,e⟩
 | .inr x,v,h=>by
  obtain⟨t,e⟩:=Value.isStrOf_shape (x:=x) (v:=v) h;exact .inr ⟨x,t,rfl,e⟩
theorem Ed(i:Int)(t:Tok):uY (.inl i) (.int i t)=true:=by simp[uY,Value.isInt]
theorem Ec(x:Str)(t:Tok):uY (.inr x) (.str x t)=true:=by simp[uY,Value.isStrOf]
theorem PL(a b:Int):decide ((Sum.inl a:Key)=Sum.inl b) =(a==b):=by
 by_cases e:a=b
 ·subst e;simp
 ·have h:¬(Sum.inl a:Key)=Sum.inl b:=fun q=>e (Sum.inl.inj q)
  rw[decide_eq_false h];exact(beq_eq_false_iff_ne.mpr e).symm
theorem PF(a b:Str):decide ((Sum.inr a:Key)=Sum.inr b)=decide (a=b):=by
 by_cases e:a=b
 ·subst e;simp
 ·have h:¬(Sum.inr a:Key)=Sum.inr b:=fun q=>e (Sum.inr.inj q)
  rw[decide_eq_false h,decide_eq_false e]
theorem PJ(a:Int)(b:Str):decide ((Sum.inl a:Key)=Sum.inr b)=false:=decide_eq_false (fun q=>nomatch q)
theorem PH(a:Str)(b:Int):decide ((Sum.inr a:Key)=Sum.inl b)=false:=decide_eq_false (fun q=>nomatch q)
def br(prog:Program)(w:World):PySem.KeyKind prog w Key where
 is:=uY
 hash:=V9 w
 inj:=fun v a b ha hb=>by
  rcases bL ha with⟨i,t,rfl,rfl⟩ |⟨x,t,rfl,rfl⟩
  ·rcases bL hb with⟨j,u,rfl,e⟩ |⟨y,u,rfl,e⟩
   ·injection e with e1 _;rw[e1]
   ·exact nomatch e
  ·rcases bL hb with⟨j,u,rfl,e⟩ |⟨y,u,rfl,e⟩
   ·exact nomatch e
   ·injection e with e1 _;rw[e1]
 byValue:=fun k v h=>by
  rcases bL h with⟨i,t,rfl,rfl⟩ |⟨x,t,rfl,rfl⟩ <;> rfl
 pyHash:=fun hv h=>by
  rcases bL hv with⟨i,t,rfl,rfl⟩ |⟨x,t,rfl,rfl⟩
  ·exact wpAny_pyHash_int h
  ·exact wpAny_pyHash_str h
 eqBool:=fun hu hv h=>by
  rcases bL hu with⟨i,t,rfl,rfl⟩ |⟨x,t,rfl,rfl⟩
  ·rcases bL hv with⟨j,u,rfl,rfl⟩ |⟨y,u,rfl,rfl⟩
   ·rw[PL]at h;exact wpAny_eqBool_int h
   ·rw[PJ]at h;exact SeqAt.EqAt.int_str i t y u _ _ _ _ h
  ·rcases bL hv with⟨j,u,rfl,rfl⟩ |⟨y,u,rfl,rfl⟩
   ·rw[PH]at h;exact SeqAt.EqAt.str_int x t j u _ _ _ _ h
   ·rw[PF]at h;exact wpAny_eqBool_str h
 «strs»:=fun k x t v h=>by
  rcases bL h with⟨i,u,rfl,e⟩ |⟨y,u,rfl,e⟩
  ·exact nomatch e
  ·injection e with e1 _
   subst e1;cases v <;> rfl
theorem yZ(prog:Program)(w:World)(i:Int)(t:Tok):(br prog w).is (.inl i) (.int i t)=true:=Ed i t
theorem yY(prog:Program)(w:World)(x:Str)(t:Tok):(br prog w).is (.inr x) (.str x t)=true:=Ec x t
inductive V where
 | non|bl (b:Bool)|int (i:Int)|str (x:Str)|byt (b:Array UInt8)|flt (b:UInt64)|ref (a:Addr)|ty (n:String)
 deriving DecidableEq
def RelV:V->Value->Prop
 | .non,u=>u=Value.none
 | .bl b,u=>u=Value.bool b
 | .int i,u=>∃ t,u=Value.int i t
 | .str x,u=>∃ t,u=Value.str x t
 | .byt b,u=>∃ t,u=Value.bytes b t
 | .flt b,u=>∃ t,u=Value.float b t
 | .ref a,u=>u=Value.ref a
 | .ty n,u=>u=Value.type n
abbrev Vals:List V->List Value->Prop:=Paired RelV
theorem Vals.length{xs:List V}{us:List Value}(r:Vals xs us):xs.length=us.length:=Paired.length r
theorem Vals.get:∀{xs:List V}{us:List Value}{i:Nat}{x:V},Vals xs us->xs[i]? = some x->∃ u,us[i]? = some u/\RelV x u
 | _,_,_,_,.nil,e=>by simp at e
 | _,_,0,_,.cons r _,e=>by simp at e;subst e;exact⟨_,rfl,r⟩
 | _,_,i+1,x,.cons _ t,e=>by
  obtain⟨u,h1,h2⟩:=Vals.get (i:=i) (x:=x) t (by simpa using e)
  exact⟨u,by simpa using h1,h2⟩
theorem Vals.set{x:V}{u:Value}(r:RelV x u):∀{xs:List V}{us:List Value}(i:Nat),Vals xs us->Vals (xs.set i x) (us.set i u)
 | _,_,_,.nil=>.nil
 | _,_,0,.cons _ t=>.cons r t
 | _,_,i+1,.cons q t=>.cons q (Vals.set r i t)
theorem Vals.append:∀{xs ys:List V}{us ws:List Value},Vals xs us->Vals ys ws->Vals (xs++ys) (us++ws)
 | _,_,_,_,.nil,s=>s
 | _,_,_,_,.cons r t,s=>.cons r (Vals.append t s)
theorem Vals.take:∀{xs:List V}{us:List Value}(n:Nat),Vals xs us->Vals (xs.take n) (us.take n)
 | _,_,0,_=>.nil
 | _,_,_+1,.nil=>.nil
 | _,_,n+1,.cons r t=>.cons r (Vals.take n t)
theorem Vals.drop:∀{xs:List V}{us:List Value}(n:Nat),Vals xs us->Vals (xs.drop n) (us.drop n)
 | _,_,0,r=>r
 | _,_,_+1,.nil=>.nil
 | _,_,n+1,.cons _ t=>Vals.drop n t
def j7:Option V->Option Value->Prop
 | some v,some u=>RelV v u
 | none,none=>True
 | _,_=>False
def KV{κ:Type}:List (κ×V)->List (κ×Value)->Prop:=Paired fun(p:κ×V)(q:κ×Value)=>p.1=q.1/\RelV p.2 q.2
def kV:Key->V
 | .inl i=>.int i
 | .inr x=>.str x
inductive HO where
 | lst(xs:List V)
 | tup(xs:List V)
 | dK(kvs:List (Key×V))|dT (kvs:List (List Key×V))
 | set(S:Int->Bool)(n:Nat)
 | ins(C dx:Addr)(fs:List (Str×V))
 | own(x:Addr)
 | xd(fs:List (Str×V))
 | room(x:Int)
 | met(f x:Addr)
 | rng(lo hi:Int)
 | frz(o:Obj)(u:HO)
 | tbl(ps:Array Value)
 | ext(φ:Heap->Prop)
abbrev Hp:=Addr->Option HO
def upd(H:Hp)(a:Addr)(o:HO):Hp:=fun b=>if b=a then some o else H b
variable{H:Hp}{a:Addr}
theorem aw{o:HO}:upd H a o a=some o:=by unfold upd;rw[if_pos rfl]
theorem ai{b:Addr}{o:HO}(h:b≠a):upd H a o b=H b:=by unfold upd;rw[if_neg h]
theorem BN{o u:HO}:upd (upd H a o) a u=upd H a u:=by
 funext b;unfold upd;split <;> rfl
theorem jS{b:Addr}{o u:HO}(h:H a=some o)(h':H b=some u)(d:o≠u):a≠b:=by
 intro e;subst e;rw[h]at h';exact d (Option.some.inj h')
theorem aQ{b:Addr}{o:HO}(h:H a=some o)(h':H b=none):a≠b:=by
 intro e;subst e;rw[h]at h';cases h'
def lA(h:Heap)(a:Addr)(items:Array Value):Prop:=IsTup h a items/\∃ o,h.get? a=some o/\o.dict=none
theorem lA.new(h:Heap)(items:Array Value):lA (h.push { cls:=.type "tuple",data:=.seq items }) h.objs.size items:=⟨IsTup.new _ _,_,W8 _ rfl,rfl⟩
section
variable(P:Program)(w:World)
def bH(H:Hp)(h:Heap)(a:Addr):HO->Prop
 | .lst xs=>xs.length<=WT/\∃(its:List Value)(n:Nat),Vals xs its/\h.get? a=some { cls:=.type "list",data:=.seq its.toArray n }
 | .tup xs=>xs.length<=WT/\∃ its:List Value,Vals xs its/\lA h a its.toArray
 | .dK kvs=>kvs.length<=WT/\(a==sysModules)=false/\∃ vs,KV kvs vs/\h.DictOf (br P w) a vs
 | .dT kvs=>kvs.length<=WT/\(a==sysModules)=false/\∃ xs:List (List Key×Addr×Value),
   Paired (fun(p:List Key×V)(q:List Key×Addr×Value)=>p.1=q.1/\H q.2.1=some (.tup (p.1.map kV))/\RelV p.2 q.2.2) kvs xs /\
   ∃ o es ep,h.get? a=some o/\o.ExactDict/\o.data = .dict es ep/\es.toList=xs.map (entryOfKey (tupleKind (br P w)))/\(xs.map (·.1)).Nodup
 | .set S n=>h.SetOf (intKind P w) a S n
 | .ins C dx fs=>H dx=some (.own a)/\fs.length<=1000/\dx≠a/\h.get? a=some (W.instObj C dx) /\
   ∃ mA,h.Ns1 dx mA/\(∀ f,j7 (fs.lookup f) (mA f))/\PySem.Within mA (fs.map (·.1))
 | .own _=>∃ o,h.get? a=some o
 | .xd fs=>∃ mA,h.Ns1 a mA/\∀ f,j7 (fs.lookup f) (mA f)
 | .room x=>∃(its:List Value)(n:Nat),Vals [.int x] its/\h.get? a=some { cls:=.type "list",data:=.seq its.toArray n }
 | .rng lo hi=>∃ t u v,h.get? a=some { cls:=.type "range",data:=.fields #[.int lo t,.int hi u,.int 1 v] }
 | .frz o u=>h.get? a=some o/\bH H h a u
 | .tbl ps=>h.get? a=some { cls:=.none,data:=.fields ps }
 | .met f x=>h.get? a=some (W.methodObj (.ref f) (.ref x))
 | .ext φ=>φ h/\(∃ o,h.get? a=some o)/\∀ h1 h2:Heap,φ h1 ->(∀ o,h1.get? a=some o->h2.get? a=some o)->φ h2
def HOk(H:Hp)(h:Heap):Prop:=∀ a o,H a=some o->bH P w H h a o
end
section
variable{P:Program}{w:World}{H':Hp}{h h':Heap}{o:HO}
theorem bH.lt(x:bH P w H h a o):a<h.objs.size:=by
 cases o with
 | lst xs=>obtain⟨_,_,_,_,e⟩:=x;exact Xe e
 | tup xs=>obtain⟨_,_,_,p⟩:=x;exact p.1.lt
 | dK kvs=>obtain⟨_,_,_,_,o,_,_,e,_⟩:=x;exact Xe e
 | dT kvs=>obtain⟨_,_,_,_,o,_,_,e,_⟩:=x;exact Xe e
 | set S n=>obtain⟨o,_,_,_,e,_⟩:=x;exact Xe e
 | ins C dx fs=>obtain⟨_,_,_,e,_⟩:=x;exact Xe e
 | own y=>obtain⟨_,e⟩:=x;exact Xe e
 | xd fs=>obtain⟨_,⟨_,_,_,e,_⟩,_⟩:=x;exact Xe e
 | room x'=>obtain⟨_,_,_,e⟩:=x;exact Xe e
 | rng lo hi=>obtain⟨_,_,_,e⟩:=x;exact Xe e
 | frz ob u=>obtain⟨e,_⟩:=x;exact Xe e
 | tbl ps=>exact Xe (show h.get? a=some _ from x)
 | met f y=>exact Xe (show h.get? a=some _ from x)
 | ext φ=>obtain⟨_,⟨_,e⟩,_⟩:=x;exact Xe e
theorem Paired.Px{α β:Type}{F G:α->β->Prop}:∀{l₁:List α}{l₂:List β},Paired F l₁ l₂ ->(∀ a b,F a b->G a b)->Paired G l₁ l₂
 | _,_,.nil,_=>.nil
 | _,_,.cons r t,f=>.cons (f _ _ r) (Paired.Px t f)
theorem bH.b6(x:bH P w H h a o)(k:∀ b u,(b=a\/H b=some (.own a))->h.get? b=some u->h'.get? b=some u)
  (ho:∀ b,H b=some (.own a)->H' b=some (.own a)) (ht:∀ b xs,H b=some (.tup xs)->H' b=some (.tup xs)):bH P w H' h' a o:=by
 induction o with
 | lst xs=>obtain⟨z,its,n,r,e⟩:=x;exact⟨z,its,n,r,k _ _ (.inl rfl) e⟩
 | tup xs=>obtain⟨z,its,r,⟨ob,e,c⟩,o2,e2,d2⟩:=x;exact⟨z,its,r,⟨ob,k _ _ (.inl rfl) e,c⟩,o2,k _ _ (.inl rfl) e2,d2⟩
 | dK kvs=>obtain⟨z,y,vs,r,ob,es,ep,e,c⟩:=x;exact⟨z,y,vs,r,ob,es,ep,k _ _ (.inl rfl) e,c⟩
 | dT kvs =>
  obtain⟨z,y,xs,r,ob,es,ep,e,c⟩:=x;exact⟨z,y,xs,Paired.Px r fun p q z=>⟨z.1,ht _ _ z.2.1,z.2.2⟩,ob,es,ep,k _ _ (.inl rfl) e,c⟩
 | set S n=>obtain⟨ob,es,ep,t,e,c⟩:=x;exact⟨ob,es,ep,t,k _ _ (.inl rfl) e,c⟩
 | ins C dx fs =>
  obtain⟨d,z,ne,e,mA,⟨od,es,ep,e2,c⟩,r⟩:=x;exact⟨ho _ d,z,ne,k _ _ (.inl rfl) e,mA,⟨od,es,ep,k _ _ (.inr d) e2,c⟩,r⟩
 | own y=>obtain⟨ob,e⟩:=x;exact⟨ob,k _ _ (.inl rfl) e⟩
 | xd fs=>obtain⟨mA,⟨od,es,ep,e,c⟩,r⟩:=x;exact⟨mA,⟨od,es,ep,k _ _ (.inl rfl) e,c⟩,r⟩
 | room x'=>obtain⟨t,u,v,e⟩:=x;exact⟨t,u,v,k _ _ (.inl rfl) e⟩
 | rng lo hi=>obtain⟨t,u,v,e⟩:=x;exact⟨t,u,v,k _ _ (.inl rfl) e⟩
 | frz ob u ih=>obtain⟨e,q⟩:=x;exact⟨k _ _ (.inl rfl) e,ih q⟩
 | tbl ps =>
  have e:h.get? a=some { cls:=.none,data:=.fields ps }:=x;show h'.get? a=some { cls:=.none,data:=.fields ps };exact k a _ (.inl rfl) e
 | met f y =>
  have e:h.get? a=some (W.methodObj (.ref f) (.ref y)):=x;show h'.get? a=some (W.methodObj (.ref f) (.ref y));exact k a _ (.inl rfl) e
 | ext φ=>obtain⟨p,⟨o,e⟩,st⟩:=x;exact⟨st _ _ p fun o q=>k _ _ (.inl rfl) q,⟨o,k _ _ (.inl rfl) e⟩,st⟩
theorem HOk.lt(x:HOk P w H h)(e:H a=some o):a<h.objs.size:=(x a o e).lt
theorem HOk.fresh(x:HOk P w H h)(e:h.objs.size<=a):H a=none:=by
 cases q:H a with
 | none=>rfl
 | some u=>exact absurd (Xr (x.lt q) e) (Yq _)
theorem HOk.kept(x:HOk P w H h)(k:∀ b u,h.get? b=some u->h'.get? b=some u):HOk P w H h':=fun a o e =>
 (x a o e).b6 (fun b u _ q=>k b u q) (fun _ q=>q) fun _ _ q=>q
theorem HOk.laid(x:HOk P w H h)(k:∀ b u,h.get? b=some u->h'.get? b=some u)(hp:h.objs.size<=a)(new:bH P w (upd H a o) h' a o):HOk P w (upd H a o) h':=fun b u e=>by
 have hn:=x.fresh hp;by_cases hb:b=a
 ·subst hb;rw[aw]at e;cases e;exact new
 ·rw[ai hb]at e;exact(x b u e).b6 (fun c v _ q=>k c v q) (fun c q=>by rw[ai (aQ q hn)];exact q) fun c xs q=>by rw[ai (aQ q hn)];exact q
end
def Rd(H:Hp)(a:Addr)(u:HO):Prop:=H a=some u\/∃ o,H a=some (.frz o u)
variable{P:Program}
theorem Rd.ok{w:World}{h:Heap}{u:HO}(r:Rd H a u)(x:HOk P w H h):bH P w H h a u:=by
 rcases r with r |⟨o,r⟩
 ·exact x a u r
 ·obtain⟨_,q⟩:=x a _ r;exact q
def Mut:Option HO->Prop
 | some (.lst _)=>True
 | some (.dK _)=>True
 | some (.dT _)=>True
 | some (.set _ _)=>True
 | some (.ins _ _ _)=>True
 | some (.ext _)=>True
 | some (.room _)=>True
 | _=>False
section
variable{w:World}{h h':Heap}{x e:Addr}{o':HO}
theorem HOk.write(ok:HOk P w H h)(mu:Mut (H x))(he:e=x\/H e=some (.own x))(k:∀ b u,b≠e->h.get? b=some u->h'.get? b=some u)(heo:∃ u,h'.get? e=some u)
  (new:bH P w (upd H x o') h' x o'):HOk P w (upd H x o') h':=fun b u q=>by
 have Ti:∀ c y,H c=some (.own y)->c≠x:=fun c y r z=>by subst z;rw[r]at mu;exact mu
 have VX:∀ c xs,H c=some (.tup xs)->c≠x:=fun c xs r z=>by subst z;rw[r]at mu;exact mu
 by_cases hb:b=x
 ·subst hb;rw[aw]at q;cases q;exact new
 ·rw[ai hb]at q;by_cases hbe:b=e
  ·have q':H b=some (.own x):=by
    rcases he with z|z
    ·exact absurd (hbe.trans z) hb
    ·rw[hbe];exact z
   rw[q]at q';cases q';obtain⟨v,hv⟩:=heo;exact⟨v,by rw[hbe];exact hv⟩
  ·refine(ok b u q).b6 (fun c v hc r=>k c v ?_ r) (fun c r=>by rw[ai (Ti c b r)];exact r) fun c xs r=>by rw[ai (VX c xs r)];exact r
   rcases hc with rfl|hc
   ·exact hbe
   ·rintro rfl
    rcases he with z|z
    ·exact Ti c b hc z
    ·rw[hc]at z;cases z;exact hb rfl
end
structure Un(fs ex:List Addr)(H H':Hp)(h h':Heap):Prop where
 keep:∀ b o,h.get? b=some o->H b=none->b ∉ fs->b ∉ ex->h'.get? b=some o
 slot:∀ b o,h.get? b=some o->H b=none->b∈fs->b ∉ ex->∃ sl,h'.get? b=some { o with slots:=sl }
 free:∀ b o,h.get? b=some o->H b=none->b ∉ ex->H' b=none
 there:∀ b o,h.get? b=some o->b ∉ ex->∃ o',h'.get? b=some o'
 qO:∀ b xs,H b=some (.tup xs)->H' b=some (.tup xs)
 n8:∀ b o u,H b=some (.frz o u)->H' b=some (.frz o u)
 qP:∀ b ps,H b=some (.tbl ps)->∃ more,H' b=some (.tbl (ps++more))
section
variable{fs fs' ex ex':List Addr}{H1 H2:Hp}{h h1 h2 h':Heap}{x e:Addr}{o:HO}
theorem Un.any(u:Un fs ex H H1 h h1){b:Addr}{ob:Obj}(q:h.get? b=some ob)(n:H b=none)(hx:b ∉ ex):∃ sl,h1.get? b=some { ob with slots:=sl }:=by
 by_cases hb:b∈fs
 ·exact u.slot b ob q n hb hx
 ·exact⟨ob.slots,u.keep b ob q n hb hx⟩
theorem Un.kept(k:∀ b u,h.get? b=some u->h'.get? b=some u):Un fs ex H H h h' :=
 ⟨fun b ob q _ _ _=>k b ob q,fun b ob q _ _ _=>⟨ob.slots,k b ob q⟩,fun _ _ _ n _=>n,fun b ob q _=>⟨ob,k b ob q⟩,fun _ _ q=>q,fun _ _ _ q=>q,fun _ ps q=>⟨#[],by rw[q];simp⟩⟩
theorem Un.refl:Un fs ex H H h h:=Un.kept fun _ _ q=>q
theorem Un.laid(k:∀ b u,h.get? b=some u->h'.get? b=some u)(hp:h.objs.size<=a)(hn:H a=none):Un fs ex H (upd H a o) h h' where
 keep:=fun b u q _ _ _=>k b u q
 slot:=fun b u q _ _ _=>⟨u.slots,k b u q⟩
 free:=fun b u q n _=>by rw[ai (Xo (Xr (Xe q) hp))];exact n
 there:=fun b u q _=>⟨u,k b u q⟩
 qO:=fun b xs q=>by rw[ai (aQ q hn)];exact q
 n8:=fun b u xs q=>by rw[ai (aQ q hn)];exact q
 qP:=fun b ps q=>⟨#[],by rw[ai (aQ q hn),q];simp⟩
theorem Un.write(mu:Mut (H x))(he:e=x\/H e=some (.own x))(k:∀ b u,b≠e->h.get? b=some u->h'.get? b=some u)(heo:∃ u,h'.get? e=some u):Un fs ex H (upd H x o) h h':=by
 have hx:∀ b,H b=none->b≠x:=fun b n z=>by subst z;rw[n]at mu;exact mu
 have hb:∀ b,H b=none->b≠e:=fun b n z=>by
  subst z;rcases he with r|r
  ·exact hx b n r
  ·rw[n]at r;cases r
 have hm:∀ b u,H b=some u->¬ Mut (some u)->b≠x:=fun b u q nm z=>by subst z;rw[q]at mu;exact nm mu
 refine⟨fun b u q n _ _=>k b u (hb b n) q,fun b u q n _ _=>⟨u.slots,k b u (hb b n) q⟩,fun b u q n _=>by rw[ai (hx b n)];exact n,fun b u q _=>?_,
  fun b xs q=>by rw[ai (hm b _ q fun z=>z)];exact q,fun b u xs q=>by rw[ai (hm b _ q fun z=>z)];exact q,fun b ps q=>⟨#[],by rw[ai (hm b _ q fun z=>z),q];simp⟩⟩
 by_cases hbe:b=e
 ·subst hbe;exact heo
 ·exact⟨u,k b u hbe q⟩
end
def trk(h:Heap)(H:Hp):List Addr:=(Xt h.objs.size).filter fun a=>(H a).isSome
def xl(h:Heap)(H:Hp):Heap:=W.hideAll h (trk h H)
theorem Ej(h:Heap)(H:Hp):(xl h H).objs.size=h.objs.size:=W.hideAll_size _ _
theorem Iz{h:Heap}{b:Addr}{o:Obj}(e:h.get? b=some o)(n:H b=none):(xl h H).get? b=some o :=
 W.hideAll_get _ e fun hm=>by
  have q:(H b).isSome=true:=(List.mem_filter.mp hm).2;rw[n]at q;simp at q
theorem LU{h:Heap}{b:Addr}{o:Obj}(e:(xl h H).get? b=some o):h.get? b=some o/\H b=none:=by
 have e':h.get? b=some o:=W.of_hideAll (trk h H) e;refine⟨e',?_⟩;cases q:H b with
 | none=>rfl
 | some x =>
  have hm:b∈trk h H:=List.mem_filter.mpr ⟨Yz.mpr (Xe e'),by simp[q]⟩
  have z:(xl h H).get? b=none:=W.hideAll_none (trk h H) hm;rw[z]at e;cases e
structure Mod(K:W.Frag)(mg:Str->Option Value)(base:Heap):Prop where
 kin:K.In base
 glob:base.Ns mainGlobals mg
 blt:∃ mb,base.Ns builtinsNs mb/\∀ x:Str,x ≠ "__name__" -> mb x=bootBuiltins x
 nolimit:base.NoLimit
structure Cx where
 prog:Program
 w:World
 K:W.Frag
 mg:Str->Option Value
 base:Heap
 A:Around
 N:List Str
 s₀:Shared
 H₀:Hp
 env:Env
 outer:List Env
 stack:List Env
 ex:List Addr
 fn:Str->Bool
 calm:Bool
 pn:List (Addr×Obj)
 xe:Value->Shared->Prop
def frs(l:List Env):List Addr:=l.filterMap (·.frame)
abbrev Cx.fs(X:Cx):List Addr:=frs X.outer
def Vis(sc:Scope)(x:Str):Prop:=sc.names.lookup x=some .local\/sc.names.lookup x=some .cell\/sc.names.lookup x=some .free
def Loc(sc:Scope)(x:Str):Prop:=sc.names.lookup x=some .local\/sc.names.lookup x=some .cell
def Look(env:Env)(h:Heap)(m:Str->Option Value)(x:Str)(u:Value):Prop :=
 (env.kindOf x=some .local/\m x=some u)\/((env.kindOf x=some .cell\/env.kindOf x=some .free)/\∃ c,env.cells.lookup x=some c/\h.IsCell c (some u))
structure Cx.Ok(X:Cx):Prop where
 mod:Mod X.K X.mg X.base
 kind:X.env.scope.kind = .function
 glob:X.env.globals=mainGlobals
 blt:X.env.builtins=builtinsNs
 above:X.s₀.heap.objs.size<=X.env.locals
 inj:∀ x y c,X.env.cells.lookup x=some c->X.env.cells.lookup y=some c->x=y
 has:∀ x,(X.env.kindOf x=some .cell\/X.env.kindOf x=some .free)->∃ c,X.env.cells.lookup x=some c
 cab:∀ x c,X.fn x=true->X.env.cells.lookup x=some c->X.s₀.heap.objs.size<=c
 hd:X.calm=true->X.A.handled=none
 frames:X.A.frames=some X.stack
 stk:X.stack=X.outer\/(X.stack=X.env::X.outer/\X.env.frame=some X.env.locals)
 exf:∀ b∈X.ex,b≠X.env.locals/\∀ x c,X.env.cells.lookup x=some c->c≠b
 bs:∀ b o,X.base.get? b=some o->X.s₀.heap.get? b=some o/\X.H₀ b=none
 bsz:X.base.objs.size<=X.s₀.heap.objs.size
 HQ:∀ b o,X.base.get? b=some o->b ∉ X.ex
 ME:∀ b∈X.ex,b ∉ X.fs
 p8:X.s₀.heap.FunFrames X.base X.outer
 frf:∀ b∈X.fs,X.H₀ b=none
structure Inv(X:Cx)(j0:List (Addr×Obj))(σ:List (Option V))(H:Hp)(s:Shared):Prop where
 ok:X.Ok
 os:s.os=X.s₀.os
 bare:AllBare s.gens
 base:Un X.fs X.ex X.H₀ H X.s₀.heap s.heap
 loc:∃ m,s.heap.Ns X.env.locals m/\∀(i:Nat)(x:Str)(v:V),X.N[i]? = some x->σ[i]? = some (some v)->Vis X.env.scope x->∃ u,RelV v u/\Look X.env s.heap m x u
 cell:∀ x c,X.env.cells.lookup x=some c->∃ v,s.heap.IsCell c v
 free:H X.env.locals=none
 gW:∀ x c,X.env.cells.lookup x=some c->H c=none
 pin:∀ p∈X.pn++j0,s.heap.get? p.1=some p.2/\H p.1=none/\p.1≠X.env.locals/\p.1 ∉ X.fs/\∀ v,p.2.data ≠ .cell v
 hok:HOk X.prog X.w H s.heap
 len:σ.length=X.N.length
variable{ch:List Addr}{t':Nat}{it:Addr}{N:List Str}{j:Nat}{x:Str}{u:Value}{s':Shared}
section
variable{X:Cx}{j0:List (Addr×Obj)}{σ:List (Option V)}{H':Hp}{s:Shared}{h':Heap}
theorem Cx.Ok.VY(ok:X.Ok){b:Addr}{o:Obj}(e:X.base.get? b=some o):b ∉ X.fs:=fun hb=>by
 have:=(ok.p8.mem hb).1
 rw[e]at this;cases this
theorem Inv.bs(I:Inv X j0 σ H s):∀ b o,X.base.get? b=some o->s.heap.get? b=some o/\H b=none:=fun b o e =>
 ⟨I.base.keep b o (I.ok.bs b o e).1 (I.ok.bs b o e).2 (I.ok.VY e) (I.ok.HQ b o e),I.base.free b o (I.ok.bs b o e).1 (I.ok.bs b o e).2 (I.ok.HQ b o e)⟩
theorem Inv.bk(I:Inv X j0 σ H s):∀ b o,X.base.get? b=some o->s.heap.get? b=some o:=fun b o e=>(I.bs b o e).1
theorem Inv.mod(I:Inv X j0 σ H s):Mod X.K X.mg X.base:=I.ok.mod
theorem Inv.kIn(I:Inv X j0 σ H s):X.K.In s.heap:=I.ok.mod.kin.keeps I.bk
theorem Inv.lt(I:Inv X j0 σ H s):X.env.locals<s.heap.objs.size:=let⟨_,hn,_⟩:=I.loc;hn.lt
theorem Inv.sz(I:Inv X j0 σ H s):X.s₀.heap.objs.size<=s.heap.objs.size:=Xw I.ok.above (XO I.lt)
theorem Inv.Tn(I:Inv X j0 σ H s)(h:s.heap.objs.size<=a):a ∉ X.fs:=fun hb=>by
 obtain⟨_,o,ho,_⟩:=I.ok.p8.mem hb;exact absurd (Xr (Xe ho) (Xw I.sz h)) (Yq _)
theorem Inv.cne(I:Inv X j0 σ H s):∀ x c,X.env.cells.lookup x=some c->c≠X.env.locals:=fun x c e z=>by
 obtain⟨v,o,ho,hd⟩:=I.cell x c e;obtain⟨m,⟨o',es,ep,ho',hd',_⟩,_⟩:=I.loc;rw[z,ho']at ho;cases ho;rw[hd']at hd;cases hd
theorem Inv.p8(I:Inv X j0 σ H s):s.heap.FunFrames X.base X.outer:=by
 have all:∀(l:List Env),(∀ b∈frs l,b∈X.fs)->X.s₀.heap.FunFrames X.base l->s.heap.FunFrames X.base l:=by
  intro l
  induction l with
  | nil=>intro _ _;trivial
  | cons env r ih =>
   intro hs hl;obtain⟨hk,⟨L,o,hf,hn,ho,hd⟩,hr⟩:=hl;have hL:L∈X.fs:=hs L (by unfold frs;rw[YV,hf];exact j5)
   obtain⟨sl,e⟩:=I.base.slot L o ho (I.ok.frf L hL) hL fun z=>I.ok.ME L z hL
   exact⟨hk,⟨L,_,hf,hn,e,hd⟩,ih (fun b hb=>hs b (by unfold frs;rw[YV,hf];exact Es _ hb)) hr⟩
 exact all X.outer (fun _ hb=>hb) I.ok.p8
theorem Inv.stack(I:Inv X j0 σ H s):s.heap.FunFrames X.base X.stack:=by
 rcases I.ok.stk with e |⟨e,hf⟩
 ·rw[e];exact I.p8
 ·rw[e];obtain⟨m,hn,_⟩:=I.loc;refine .cons (by rw[I.ok.kind];decide) hf hn ?_ I.p8
  exact Heap.get?_none_of_le (Xw I.ok.bsz I.ok.above)
theorem Inv.vB(I:Inv X j0 σ H s):∀ b∈frs X.stack,b∈X.env.locals::X.fs:=fun b hb=>by
 rcases I.ok.stk with e |⟨e,hf⟩
 ·rw[e]at hb;exact Es _ hb
 ·rw[e]at hb;unfold frs at hb;rw[YV,hf]at hb;exact hb
theorem Inv.BS(I:Inv X j0 σ H s):∀ b∈frs X.stack,H b=none:=fun b hb=>by
 rcases QH.mp (I.vB b hb)with e|hb
 ·rw[e];exact I.free
 ·obtain⟨_,o,ho,_⟩:=I.ok.p8.mem hb;exact I.base.free b o ho (I.ok.frf b hb) fun z=>I.ok.ME b z hb
theorem Inv.step{g':Array GenState}{t':Nat}{d':Drawn}(I:Inv X j0 σ H s)
  (hch:∀ b∈ch,(b∈X.ex\/X.s₀.heap.objs.size<=b)/\b≠X.env.locals/\(∀ x c,X.env.cells.lookup x=some c->c≠b)/\∀ p∈X.pn++j0,p.1≠b)
  (keep:∀ b o,b≠X.env.locals->b ∉ X.fs->b ∉ ch->s.heap.get? b=some o->H b=none->h'.get? b=some o)
  (slot:∀ b o,b≠X.env.locals->b∈X.fs->b ∉ ch->s.heap.get? b=some o->H b=none->∃ sl,h'.get? b=some { o with slots:=sl }) (free:∀ b o,b ∉ ch->s.heap.get? b=some o->H b=none->H' b=none)
  (there:∀ b o,b ∉ ch->s.heap.get? b=some o->∃ o',h'.get? b=some o')
  (qO:∀ b xs,H b=some (.tup xs)->H' b=some (.tup xs)) (n8:∀ b o u,H b=some (.frz o u)->H' b=some (.frz o u)) (qP:∀ b ps,H b=some (.tbl ps)->∃ more,H' b=some (.tbl (ps++more)))
  (ns:∀ m,s.heap.Ns X.env.locals m->h'.Ns X.env.locals m) (hok:HOk X.prog X.w H' h') (hg:AllBare g') :
  Inv X j0 σ H' { s with heap:=h',gens:=g',drawn:=d',toks:=t' }:=by
 have neL:∀ b o,X.s₀.heap.get? b=some o->b≠X.env.locals:=fun b o e=>Xo (Xr (Xe e) I.ok.above)
 have neC:∀ b o,X.s₀.heap.get? b=some o->b ∉ X.ex->b ∉ ch:=fun b o e hx hb=>by
  rcases(hch b hb).1 with z|z
  ·exact hx z
  ·exact absurd (Xr (Xe e) z) (Yq _)
 have cellK:∀ x c,X.env.cells.lookup x=some c->∀ v,s.heap.IsCell c v->h'.IsCell c v:=fun x c e v ⟨o,ho,hd⟩=>by
  have nch:c ∉ ch:=fun z=>(hch c z).2.2.1 x c e rfl
  by_cases hc:c∈X.fs
  ·obtain⟨sl,q⟩:=slot c o (I.cne x c e) hc nch ho (I.gW x c e);exact⟨_,q,hd⟩
  ·exact⟨o,keep c o (I.cne x c e) hc nch ho (I.gW x c e),hd⟩
 refine⟨I.ok,I.os,hg,⟨fun b o e n hb hx=>?_,fun b o e n hb hx=>?_,fun b o e n hx=>?_,fun b o e hx=>?_,fun b xs e=>qO b xs (I.base.qO b xs e),fun b o xs e=>n8 b o xs (I.base.n8 b o xs e),fun b ps e=>?_⟩,?_,fun x c e=>?_,?_,fun x c e=>?_,fun p hp=>?_,hok,I.len⟩
 ·exact keep b o (neL b o e) hb (neC b o e hx) (I.base.keep b o e n hb hx) (I.base.free b o e n hx)
 ·obtain⟨sl,e1⟩:=I.base.slot b o e n hb hx;obtain⟨sl',e2⟩:=slot b _ (neL b o e) hb (neC b o e hx) e1 (I.base.free b o e n hx);exact⟨sl',e2⟩
 ·obtain⟨o',e1⟩:=I.base.there b o e hx;exact free b o' (neC b o e hx) e1 (I.base.free b o e n hx)
 ·obtain⟨o',e1⟩:=I.base.there b o e hx;exact there b o' (neC b o e hx) e1
 ·obtain⟨m1,e1⟩:=I.base.qP b ps e;obtain⟨m2,e2⟩:=qP b _ e1;exact⟨m1++m2,by rw[e2,Array.append_assoc]⟩
 ·obtain⟨m,hn,hl⟩:=I.loc;refine⟨m,ns m hn,fun i x v e1 e2 e3=>?_⟩
  obtain⟨u,r,l⟩:=hl i x v e1 e2 e3;refine⟨u,r,?_⟩;rcases l with l |⟨k,c,e,z⟩
  ·exact .inl l
  ·exact .inr ⟨k,c,e,cellK x c e _ z⟩
 ·obtain⟨v,z⟩:=I.cell x c e;exact⟨v,cellK x c e v z⟩
 ·obtain⟨m,⟨o,_,_,ho,_⟩,_⟩:=I.loc;exact free _ o (fun z=>(hch _ z).2.1 rfl) ho I.free
 ·obtain⟨v,o,ho,hd⟩:=I.cell x c e;exact free c o (fun z=>(hch c z).2.2.1 x c e rfl) ho (I.gW x c e)
 ·obtain⟨e,n,ne,nf,d⟩:=I.pin p hp;have nch:p.1 ∉ ch:=fun z=>(hch p.1 z).2.2.2 p hp rfl
  exact⟨keep p.1 p.2 ne nf nch e n,free p.1 p.2 nch e n,ne,nf,d⟩
theorem Inv.un(I:Inv X j0 σ H s)(u:Un X.fs [] H H' s.heap h')(hok:HOk X.prog X.w H' h'):Inv X j0 σ H' { s with heap:=h',toks:=t' }:=by
 obtain⟨m,⟨o,es,ep,ho,r⟩,_⟩:=id I.loc;obtain⟨sl,hL⟩:=u.any ho I.free (by simp)
 exact I.step (g':=s.gens) (d':=s.drawn) (ch:=[]) (fun _ z=>nomatch z) (fun b o _ hb _ e n=>u.keep b o e n hb (by simp)) (fun b o _ hb _ e n=>u.slot b o e n hb (by simp)) (fun b o _ e n=>u.free b o e n (by simp)) (fun b o _ e=>u.there b o e (by simp)) u.qO u.n8 u.qP (fun m' hm=>by
  obtain⟨o',es',ep',ho',r'⟩:=hm;rw[ho]at ho';cases ho';exact⟨_,es',ep',hL,r'⟩) hok I.bare
theorem Inv.call{g':Array GenState}{t':Nat}{d':Drawn}{ch:List Addr}(I:Inv X j0 σ H s)(u:Un (frs X.stack) ch H H' s.heap h')(hok:HOk X.prog X.w H' h')(hg:AllBare g')
  (hch:∀ b∈ch,(b∈X.ex\/X.s₀.heap.objs.size<=b)/\b≠X.env.locals/\(∀ x c,X.env.cells.lookup x=some c->c≠b)/\∀ p∈X.pn++j0,p.1≠b) :
  Inv X j0 σ H' { s with heap:=h',gens:=g',drawn:=d',toks:=t' }:=by
 obtain⟨m,⟨o,es,ep,ho,r⟩,_⟩:=id I.loc;obtain⟨sl,hL⟩:=u.any ho I.free fun z=>(hch _ z).2.1 rfl
 exact I.step (ch:=ch) hch (fun b o hL hb hc e n=>u.keep b o e n (fun z=>(QH.mp (I.vB b z)).elim hL hb) hc) (fun b o _ _ hc e n=>u.any e n hc) (fun b o hc e n=>u.free b o e n hc) (fun b o hc e=>u.there b o e hc) u.qO u.n8 u.qP (fun m' hm=>by
  obtain⟨o',es',ep',ho',r'⟩:=hm;rw[ho]at ho';cases ho';exact⟨_,es',ep',hL,r'⟩) hok hg
theorem Inv.turned(I:Inv X j0 σ H s)(k:∀ b o,b≠it->s.heap.get? b=some o->h'.get? b=some o)(hn:H it=none)(hL:it≠X.env.locals)
  (h1:it∈X.ex\/X.s₀.heap.objs.size<=it) (h2:∀ x c,X.env.cells.lookup x=some c->c≠it) (h3:∀ p∈X.pn++j0,p.1≠it):Inv X j0 σ H { s with heap:=h',toks:=t' }:=by
 have nit:∀ b u,H b=some u->b≠it:=fun b u e z=>by rw[z,hn]at e;cases e
 refine I.step (g':=s.gens) (d':=s.drawn) (ch:=[it]) (fun b hb=>?_) (fun b o _ _ hc e _=>k b o (fun z=>hc (by simp[z])) e) (fun b o _ _ hc e _=>⟨o.slots,k b o (fun z=>hc (by simp[z])) e⟩) (fun _ _ _ _ n=>n)
  (fun b o hc e=>⟨o,k b o (fun z=>hc (by simp[z])) e⟩) (fun _ _ e=>e) (fun _ _ _ e=>e) (fun b ps e=>⟨#[],by rw[e];simp⟩) (fun m hm=>?_) (fun b u e=>?_) I.bare
 ·have e:b=it:=by simpa using hb
  subst e;exact⟨h1,hL,h2,h3⟩
 ·obtain⟨o,es,ep,ho,r⟩:=hm;exact⟨o,es,ep,k _ o (Ne.symm hL) ho,r⟩
 ·refine(I.hok b u e).b6 (fun c v hc q=>k c v ?_ q) (fun _ q=>q) fun _ _ q=>q
  rcases hc with z|z
  ·rw[z];exact nit b u e
  ·exact nit c _ z
theorem Inv.tok(I:Inv X j0 σ H s)(t:Nat):Inv X j0 σ H { s with toks:=t }:=I.un (h':=s.heap) (t':=t) Un.refl I.hok
theorem Inv.kept{t':Nat}(I:Inv X j0 σ H s)(k:∀ b u,s.heap.get? b=some u->h'.get? b=some u):Inv X j0 σ H { s with heap:=h',toks:=t' }:=I.un (Un.kept k) (I.hok.kept k)
theorem Inv.laid{a:Addr}{o:HO}{t':Nat}(I:Inv X j0 σ H s)(k:∀ b u,s.heap.get? b=some u->h'.get? b=some u)(hp:s.heap.objs.size<=a)(new:bH X.prog X.w (upd H a o) h' a o) :
  Inv X j0 σ (upd H a o) { s with heap:=h',toks:=t' }:=I.un (Un.laid k hp (I.hok.fresh hp)) (I.hok.laid k hp new)
theorem Inv.write{x e:Addr}{o:HO}{t':Nat}(I:Inv X j0 σ H s)(mu:Mut (H x))(he:e=x\/H e=some (.own x))(k:∀ b u,b≠e->s.heap.get? b=some u->h'.get? b=some u)(heo:∃ u,h'.get? e=some u)
  (new:bH X.prog X.w (upd H x o) h' x o):Inv X j0 σ (upd H x o) { s with heap:=h',toks:=t' }:=I.un (Un.write mu he k heo) (I.hok.write mu he k heo new)
theorem Inv.nR{pins':List (Addr×Obj)}(I:Inv X j0 σ H s)(h:∀ p∈pins',s.heap.get? p.1=some p.2/\H p.1=none/\p.1≠X.env.locals/\p.1 ∉ X.fs/\∀ v,p.2.data ≠ .cell v):Inv X pins' σ H s :=
 ⟨I.ok,I.os,I.bare,I.base,I.loc,I.cell,I.free,I.gW,fun p hp=>(Xj.mp hp).elim (fun z=>I.pin p (Xf _ z)) (h p),I.hok,I.len⟩
theorem yT(hN:N.Nodup){i:Nat}(a:N[i]? = some x)(b:N[j]? = some x):i=j:=by
 obtain⟨h1,e1⟩:=VZ.mp a;obtain⟨h2,e2⟩:=VZ.mp b;exact(List.getElem_inj hN).mp (e1.trans e2.symm)
theorem Dj{M:Model}{A:Around}{E:Value->Shared->Prop}{i:Nat}{v:V}{Q:Unit->Shared->Prop}(I:Inv X j0 σ H s)(hN:X.N.Nodup)(hi:X.N[i]? = some x)(hx:Loc X.env.scope x)(r:RelV v u)
  (h:∀ s',Inv X j0 (σ.set i (some v)) H s' ->(∃ a,X1 a s.heap s'.heap/\(a=X.env.locals\/X.env.cells.lookup x=some a))->Q () s') (hf:X.fn x=true\/X.env.scope.names.lookup x=some .local:=by first|exact .inl rfl|exact .inr rfl|assumption):wpAny M A (storeName X.env x u) Q E s:=by
 obtain⟨m,hn,hl⟩:=id I.loc;have Wx:(X.env.scope.kind == .class ||(X.env.scope.kind == .module&&X.env.locals != X.env.globals))=false:=by rw[I.ok.kind];rfl
 have hiσ:i < σ.length:=by rw[I.len];exact(VZ.mp hi).1
 have cne:=I.cne;have tracked:∀{a:Addr}{h':Heap},(∃ o,s.heap.get? a=some o/\H a=none)->X1 a s.heap h'->HOk X.prog X.w H h':=fun{a h'} ha hs b ob e=>by
  obtain⟨_,_,jT⟩:=ha;refine(I.hok b ob e).b6 (fun c w' hc q=>(hs.2 c ?_).trans q) (fun _ q=>q) fun _ _ q=>q
  rintro rfl
  rcases hc with rfl|hc
  ·rw[jT]at e;cases e
  ·rw[jT]at hc;cases hc
 rcases hx with hk|hk
 ·refine wpAny_storeName_local hk hn (fun h' hn' hs=>?_) Wx
  obtain⟨oL,_,_,hoL,_⟩:=id hn;refine h _ ⟨I.ok,I.os,I.bare,⟨fun b o e n hb hx=>?_,fun b o e n hb hx=>?_,I.base.free,fun b o e hx=>?_,I.base.qO,I.base.n8,I.base.qP⟩,⟨_,hn',fun j y v' e1 e2 e3=>?_⟩,fun y c e=>?_,I.free,I.gW,fun p hp=>?_,tracked ⟨oL,hoL,I.free⟩ hs,by simpa using I.len⟩ ⟨_,hs,.inl rfl⟩
  ·exact(hs.2 b (Xo (Xr (Xe e) I.ok.above))).trans (I.base.keep b o e n hb hx)
  ·obtain⟨sl,e1⟩:=I.base.slot b o e n hb hx;exact⟨sl,(hs.2 b (Xo (Xr (Xe e) I.ok.above))).trans e1⟩
  ·obtain⟨o',e1⟩:=I.base.there b o e hx;exact⟨o',(hs.2 b (Xo (Xr (Xe e) I.ok.above))).trans e1⟩
  ·by_cases hj:j=i
   ·subst hj;rw[hi]at e1;cases e1;rw[XX hiσ]at e2;cases e2;exact⟨u,r,.inl ⟨hk,by simp⟩⟩
   ·rw[XM (Ne.symm hj)]at e2;obtain⟨u',r',q⟩:=hl j y v' e1 e2 e3;refine⟨u',r',?_⟩;rcases q with⟨k,e⟩ |⟨k,c,e,z⟩
    ·refine .inl ⟨k,?_⟩
     have:y≠x:=fun e=>hj (yT hN e1 (e▸hi))
     simp[this,e]
    ·exact .inr ⟨k,c,e,z.sameBut hs (cne y c e)⟩
  ·obtain⟨w',z⟩:=I.cell y c e;exact⟨w',z.sameBut hs (cne y c e)⟩
  ·obtain⟨e,n,ne,nf,d⟩:=I.pin p hp;exact⟨(hs.2 p.1 ne).trans e,n,ne,nf,d⟩
 ·have hfn:X.fn x=true:=by
   rcases hf with z|z
   ·exact z
   ·rw[z]at hk;cases hk
  obtain⟨c,hc⟩:=I.ok.has x (.inl hk);obtain⟨w',z⟩:=I.cell x c hc;refine wpAny_storeName_cell I.ok.kind hk hc z (fun h' hc' hs=>?_)
  obtain⟨oc,hoc,Wl⟩:=id z;refine h { s with heap:=h' } ⟨I.ok,I.os,I.bare,⟨fun b o e n hb hx=>?_,fun b o e n hb hx=>?_,I.base.free,fun b o e hx=>?_,I.base.qO,I.base.n8,I.base.qP⟩,⟨m,hn.sameBut hs (Ne.symm (cne x c hc)),fun j y v' e1 e2 e3=>?_⟩,fun y c' e=>?_,I.free,I.gW,fun p hp=>?_,tracked ⟨oc,hoc,I.gW x c hc⟩ hs,by simpa using I.len⟩ ⟨c,hs,.inr hc⟩
  ·exact(hs.2 b (Xo (Xr (Xe e) (I.ok.cab x c hfn hc)))).trans (I.base.keep b o e n hb hx)
  ·obtain⟨sl,e1⟩:=I.base.slot b o e n hb hx;exact⟨sl,(hs.2 b (Xo (Xr (Xe e) (I.ok.cab x c hfn hc)))).trans e1⟩
  ·obtain⟨o',e1⟩:=I.base.there b o e hx;exact⟨o',(hs.2 b (Xo (Xr (Xe e) (I.ok.cab x c hfn hc)))).trans e1⟩
  ·by_cases hj:j=i
   ·subst hj;rw[hi]at e1;cases e1;rw[XX hiσ]at e2;cases e2;exact⟨u,r,.inr ⟨.inl hk,c,hc,hc'⟩⟩
   ·rw[XM (Ne.symm hj)]at e2;obtain⟨u',r',q⟩:=hl j y v' e1 e2 e3;refine⟨u',r',?_⟩;rcases q with q |⟨k,c',e,z'⟩
    ·exact .inl q
    ·refine .inr ⟨k,c',e,z'.sameBut hs ?_⟩
     rintro rfl
     exact hj (yT hN e1 (I.ok.inj _ _ _ e hc▸hi))
  ·by_cases hcc:c'=c
   ·subst hcc;exact⟨_,hc'⟩
   ·obtain⟨w2,z2⟩:=I.cell y c' e;exact⟨w2,z2.sameBut hs hcc⟩
  ·obtain⟨e,n,ne,nf,d⟩:=I.pin p hp;refine⟨(hs.2 p.1 ?_).trans e,n,ne,nf,d⟩;intro q;rw[q,hoc]at e;have q':oc=p.2:=Option.some.inj e;exact d w' (by rw[<- q'];exact Wl)
theorem nj{M:Model}{A:Around}{E:Value->Shared->Prop}{i:Nat}{v:V}{Q:Unit->Shared->Prop}(I:Inv X j0 σ H s)(hN:X.N.Nodup)(hi:X.N[i]? = some x)(hx:Loc X.env.scope x)(r:RelV v u)
  (h:∀ s',Inv X j0 (σ.set i (some v)) H s'->Q () s') (hf:X.fn x=true\/X.env.scope.names.lookup x=some .local:=by first|exact .inl rfl|exact .inr rfl|assumption):wpAny M A (storeName X.env x u) Q E s :=
 Dj I hN hi hx r (fun s' I' _=>h s' I') hf
theorem Inv.Uw(I:Inv X j0 σ H s)(ho:s'.os=s.os)(u:Un (frs X.stack) ch H H' s.heap s'.heap)(hok:HOk X.prog X.w H' s'.heap)(hg:AllBare s'.gens)
  (hch:∀ b∈ch,(b∈X.ex\/X.s₀.heap.objs.size<=b)/\b≠X.env.locals/\(∀ x c,X.env.cells.lookup x=some c->c≠b)/\∀ p∈X.pn++j0,p.1≠b):Inv X j0 σ H' s':=by
 obtain⟨h',g',d',t',o'⟩:=s';have e:o'=s.os:=ho;subst e;exact I.call (g':=g') (t':=t') (d':=d') u hok hg hch
end
abbrev XK:=Value->Option Addr->Hp->Prop
abbrev St:=List (Option V)
abbrev VK:=V->Hp->Prop
abbrev TE:=St->Hp->VK->Prop
abbrev TT:=St->Hp ->(Bool->Hp->Prop)->Prop
abbrev TA:=St->Hp ->(List V->Hp->Prop)->Prop
structure Ends where
 nx:St->Hp->Prop
 rt:VK
 bk:St->Hp->Prop:=fun _ _=>False
 ct:St->Hp->Prop:=fun _ _=>False
abbrev TS:=Ends->St->Hp->Prop
def EP(X:Cx)(j0:List (Addr×Obj))(σ:St)(Q:VK)(u:Value)(s':Shared):Prop:=∃ v H',Inv X j0 σ H' s'/\RelV v u/\Q v H'
def TP(X:Cx)(j0:List (Addr×Obj))(σ:St)(Q:Bool->Hp->Prop)(b:Bool)(s':Shared):Prop:=∃ H',Inv X j0 σ H' s'/\Q b H'
def AP(X:Cx)(j0:List (Addr×Obj))(σ:St)(Q:List V->Hp->Prop)(us:List Value)(s':Shared):Prop:=∃ vs H',Inv X j0 σ H' s'/\Vals vs us/\Q vs H'
def SP(X:Cx)(j0:List (Addr×Obj))(D:Ends)(f:Flow)(s':Shared):Prop :=
 match f with
 | .next=>∃ σ' H',Inv X j0 σ' H' s'/\D.nx σ' H'
 | .brk=>∃ σ' H',Inv X j0 σ' H' s'/\D.bk σ' H'
 | .cont=>∃ σ' H',Inv X j0 σ' H' s'/\D.ct σ' H'
 | .ret u=>∃ v σ' H',Inv X j0 σ' H' s'/\RelV v u/\D.rt v H'
def PE(X:Cx)(e:Expr)(t:TE):Prop :=
 ∀(j0:List (Addr×Obj))(s:Shared)(σ:St)(H:Hp)(Q:VK),Inv X j0 σ H s->t σ H Q->wpAny (model X.prog X.w) X.A (eval e X.env) (EP X j0 σ Q) X.xe s
def PT(X:Cx)(e:Expr)(t:TT):Prop :=
 ∀(j0:List (Addr×Obj))(s:Shared)(σ:St)(H:Hp)(Q:Bool->Hp->Prop),Inv X j0 σ H s->t σ H Q->wpAny (model X.prog X.w) X.A (isTrue e X.env (eval e X.env)) (TP X j0 σ Q) X.xe s
def PW(X:Cx)(e:Expr)(t:TT):Prop :=
 ∀(whole:Sem Value)(j0:List (Addr×Obj))(s:Shared)(σ:St)(H:Hp)(Q:Bool->Hp->Prop),Inv X j0 σ H s->t σ H Q->wpAny (model X.prog X.w) X.A (isTrue e X.env whole) (TP X j0 σ Q) X.xe s
variable{X:Cx}{e:Expr}
theorem PW.pt{t:TT}(h:PW X e t):PT X e t:=h _
def PA(X:Cx)(es:List Expr)(t:TA):Prop :=
 ∀(pos:Pos)(j0:List (Addr×Obj))(s:Shared)(σ:St)(H:Hp)(Q:List V->Hp->Prop),Inv X j0 σ H s->t σ H Q->wpAny (model X.prog X.w) X.A (spliced (backTo pos (QX es X.env))) (AP X j0 σ Q) X.xe s
def PS(X:Cx)(st:Stmt)(t:TS):Prop :=
 ∀(j0:List (Addr×Obj))(s:Shared)(σ:St)(H:Hp)(D:Ends),Inv X j0 σ H s->t D σ H->wpAny (model X.prog X.w) X.A (exec st X.env) (SP X j0 D) X.xe s
def PSs(X:Cx)(st:List Stmt)(t:TS):Prop :=
 ∀(j0:List (Addr×Obj))(s:Shared)(σ:St)(H:Hp)(D:Ends),Inv X j0 σ H s->t D σ H->wpAny (model X.prog X.w) X.A (execs st X.env) (SP X j0 D) X.xe s
variable{M:Model}{A:Around}{E:Value->Shared->Prop}
theorem thn{α:Type}{t:Sem α}{Q Q':α->Shared->Prop}{s:Shared}(h:wpAny M A t Q E s)(hQ:∀ a s,Q a s->Q' a s):wpAny M A t Q' E s:=X5 h hQ fun _ _ x=>x
variable{pos:Pos}{j0:List (Addr×Obj)}{Q:Value->Shared->Prop}
section
def cm(i:Nat):TE:=fun σ H Q=>∃ v,σ[i]? = some (some v)/\Q v H
def tC(v:V):TE:=fun _ H Q=>Q v H
theorem wb{i:Nat}(hN:X.N[i]? = some x)(hv:Vis X.env.scope x)(hd:(x ==("__debug__":Str))=false:=by decide)(hcd:(x ==("__classdict__":Str))=false:=by decide):PE X (.Name x pos) (cm i):=by
 intro j0 s σ H Q I h;obtain⟨v,e,h⟩:=h;obtain⟨m,hn,hl⟩:=I.loc;obtain⟨u,r,l⟩:=hl i x v hN e hv;have fin:EP X j0 σ Q u s:=⟨v,H,I,r,h⟩;rcases l with⟨hk,hm⟩ |⟨hk,c,hc,gT⟩
 ·exact wpAny_Name (wpAny_loadName_local I.ok.kind hk hn hm fin) hd
 ·rcases hk with hk|hk
  ·exact wpAny_Name (wpAny_loadName_cell I.ok.kind hk hc gT fin) hd
  ·exact wpAny_Name (wpAny_loadName_free I.ok.kind hk hc gT fin hcd) hd
theorem bu{i j pos}:PE X (.Constant (.int i) j pos) (tC (.int i)):=fun _ _ _ H _ I h=>wpAny_Constant_int ⟨.int i,H,I.tok _,⟨_,rfl⟩,h⟩
theorem SV{b j pos}:PE X (.Constant (.bool b) j pos) (tC (.bl b)):=fun _ _ _ H _ I h=>Constant_bool ⟨.bl b,H,I,rfl,h⟩
theorem Ph{j pos}:PE X (.Constant .none j pos) (tC .non):=fun _ _ _ H _ I h=>Constant_none ⟨.non,H,I,rfl,h⟩
theorem dm{x j pos}:PE X (.Constant (.str x) j pos) (tC (.str x)):=fun _ _ _ H _ I h=>Calls.Constant_str ⟨.str x,H,I.tok _,⟨_,rfl⟩,h⟩
def Gl(X:Cx)(x:Str):Prop:=X.env.kindOf x=some .globalImplicit
theorem qG{E:Value->Shared->Prop}{s:Shared}{σ:St}{pos:Pos}(I:Inv X j0 σ H s)(hg:Gl X x)(hm:X.mg x=some u)(h:Q u s)
  (hd:(x ==("__debug__":Str))=false:=by decide):wpAny (model X.prog X.w) X.A (eval (.Name x pos) X.env) Q E s :=
 Calls.Name_function_global I.ok.kind hg (Calls.loadGlobal_global (by rw[I.ok.glob];exact I.mod.glob.keeps I.bk) hm h) hd
theorem fO{E:Value->Shared->Prop}{s:Shared}{σ:St}{pos:Pos}(I:Inv X j0 σ H s)(hg:Gl X x)(hm:X.mg x=none)(hv:bootBuiltins x=some u)(h:Q u s)
  (hn:x ≠ "__name__":=by decide) (hd:(x ==("__debug__":Str))=false:=by decide):wpAny (model X.prog X.w) X.A (eval (.Name x pos) X.env) Q E s:=by
 obtain⟨mb,h1,h2⟩:=I.mod.blt;exact Calls.Name_function_global I.ok.kind hg (Calls.loadGlobal_builtin (by rw[I.ok.glob];exact I.mod.glob.keeps I.bk) hm (by rw[I.ok.blt];exact h1.keeps I.bk) ((h2 x hn).trans hv) h) hd
theorem LC{v:V}(hg:Gl X x)(hm:X.mg x=some u)(r:RelV v u)(hd:(x ==("__debug__":Str))=false:=by decide):PE X (.Name x pos) (tC v) :=
 fun _ _ _ H _ I h=>qG I hg hm ⟨v,H,I,r,h⟩ hd
variable{a b:Expr}{ta tb:TE}
def tB(t:TE):TT:=fun σ H Q=>t σ H fun x H1=>∃ c,x = .bl c/\Q c H1
theorem OZ{t:TE}(h:PE X e t)(he:∀ whole,isTrue e X.env whole =(do let v <- whole;standAt e.pos;holding [v] (truthy v)):=by intro _;rfl):PT X e (tB t):=by
 intro j0 s σ H Q I hw;refine isTrue_plain (thn (h j0 s σ H _ I hw) fun v s1 ⟨x,H1,I1,r1,q1⟩=>?_) (he _)
 obtain⟨d,rfl,q⟩:=q1;cases r1;exact wpAny_truthy_bool ⟨H1,I1,q⟩
variable{tA tB':TT}{rest:List Expr}
def Kf(t u:TT):TT:=fun σ H Q=>t σ H fun c H1=>if c=true then u σ H1 Q else Q false H1
def tOr(t u:TT):TT:=fun σ H Q=>t σ H fun c H1=>if c=true then Q true H1 else u σ H1 Q
theorem v8(ha:PT X a tA):PW X (.BoolOp .And [a] pos) tA:=by
 intro wh j0 s σ H Q I h;refine isTrue_and (thn (ha j0 s σ H Q I h) fun c s1 e=>?_)
 cases c with
 | true=>exact isTrue_and_nil e
 | false=>exact e
theorem Hb(ha:PT X a tA):PW X (.BoolOp .Or [a] pos) tA:=by
 intro wh j0 s σ H Q I h;refine isTrue_or (thn (ha j0 s σ H Q I h) fun c s1 e=>?_)
 cases c with
 | false=>exact isTrue_or_nil e
 | true=>exact e
theorem As(ha:PT X a tA)(hb:PW X (.BoolOp .And (b::rest) pos) tB'):PW X (.BoolOp .And (a::b::rest) pos) (Kf tA tB'):=by
 intro wh j0 s σ H Q I h;refine isTrue_and (thn (ha j0 s σ H _ I h) fun c s1 hPP=>?_)
 obtain⟨H1,I1,q1⟩:=hPP;cases c with
 | true=>exact hb wh j0 s1 σ H1 Q I1 q1
 | false=>exact⟨H1,I1,q1⟩
theorem NM(ha:PT X a tA)(hb:PW X (.BoolOp .Or (b::rest) pos) tB'):PW X (.BoolOp .Or (a::b::rest) pos) (tOr tA tB'):=by
 intro wh j0 s σ H Q I h;refine isTrue_or (thn (ha j0 s σ H _ I h) fun c s1 hPP=>?_)
 obtain⟨H1,I1,q1⟩:=hPP;cases c with
 | true=>exact⟨H1,I1,q1⟩
 | false=>exact hb wh j0 s1 σ H1 Q I1 q1
def FV(ta tb:TE):TE:=fun σ H Q=>ta σ H fun x H1=>∃ c,x = .bl c/\if c=true then tb σ H1 Q else Q (.bl false) H1
theorem Pg{op}{t:TE}(h:PE X a t):PE X (.BoolOp op [a] pos) t:=fun j0 s σ H Q I hw=>BoolOp_one (h j0 s σ H Q I hw)
theorem Pk(ha:PE X a ta)(hb:PE X (.BoolOp .And (b::rest) pos) tb):PE X (.BoolOp .And (a::b::rest) pos) (FV ta tb):=by
 intro j0 s σ H Q I h;refine BoolOp_and (thn (ha j0 s σ H _ I h) fun v s1 hPP=>?_)
 obtain⟨x,H1,I1,r1,q1⟩:=hPP;obtain⟨c,rfl,q1⟩:=q1;cases r1;refine wpAny_truthy_bool ?_;cases c with
 | true=>exact hb j0 s1 σ H1 Q I1 q1
 | false=>exact⟨.bl false,H1,I1,rfl,q1⟩
def tIf(t:TT)(ta tb:TE):TE:=fun σ H Q=>t σ H fun c H1=>if c=true then ta σ H1 Q else tb σ H1 Q
theorem Hx{c:Expr}(hc:PT X c tA)(ha:PE X a ta)(hb:PE X b tb):PE X (.IfExp c a b pos) (tIf tA ta tb):=by
 intro j0 s σ H Q I h;refine wpAny_IfExp (thn (hc j0 s σ H _ I h) fun d s1 hPP=>?_)
 obtain⟨H1,I1,q1⟩:=hPP;cases d with
 | true=>exact ha j0 s1 σ H1 Q I1 q1
 | false=>exact hb j0 s1 σ H1 Q I1 q1
end
def SqL(K:W.Frag)(H:Hp)(a:Addr)(xs:List V):Prop :=
 Rd H a (.lst xs) \/
  ∃(o:Obj)(its:Array Value)(n:Nat),K.lookup a=some o/\o.cls = .type "list" /\ o.dict=none/\o.data = .seq its n/\its.size<=WT/\Vals xs its.toList
def SqT(K:W.Frag)(H:Hp)(a:Addr)(xs:List V):Prop :=
 Rd H a (.tup xs) \/
  ∃(o:Obj)(its:Array Value)(n:Nat),K.lookup a=some o/\o.cls = .type "tuple" /\ o.data = .seq its n/\its.size<=WT/\Vals xs its.toList
def WO:Value->Option V
 | .none=>some .non
 | .bool b=>some (.bl b)
 | .int i _=>some (.int i)
 | .str x _=>some (.str x)
 | .bytes b _=>some (.byt b)
 | .float b _=>some (.flt b)
 | .ref a=>some (.ref a)
 | .type n=>some (.ty n)
 | _=>none
theorem RelV.abs{x:V}(r:RelV x u):WO u=some x:=by
 cases x with
 | non=>cases r;rfl
 | bl _=>cases r;rfl
 | int _=>obtain⟨t,rfl⟩:=r;rfl
 | str _=>obtain⟨t,rfl⟩:=r;rfl
 | byt _=>obtain⟨t,rfl⟩:=r;rfl
 | flt _=>obtain⟨t,rfl⟩:=r;rfl
 | ref _=>cases r;rfl
 | ty _=>cases r;rfl
theorem RelV.inj{x y:V}{u:Value}(r:RelV x u)(q:RelV y u):x=y:=Option.some.inj (r.abs.symm.trans q.abs)
theorem Vals.inj:∀{xs ys:List V}{us:List Value},Vals xs us->Vals ys us->xs=ys:=by
 intro xs ys us h
 induction h generalizing ys with
 | nil=>intro h';cases h';rfl
 | cons r t ih=>intro h';cases h' with|cons r' t'=>rw[r.inj r',ih t']
section
variable{σ:St}{s:Shared}{xs ys:List V}
theorem SqL.of{K:W.Frag}(h:H a=some (.lst xs)):SqL K H a xs:=.inl (.inl h)
theorem SqT.of{K:W.Frag}(h:H a=some (.tup xs)):SqT K H a xs:=.inl (.inl h)
theorem Inv.list(I:Inv X j0 σ H s)(h:SqL X.K H a xs):∃ its:List Value,Vals xs its/\PlainL s.heap a its.toArray/\xs.length<=WT:=by
 rcases h with h |⟨o,its,n,hk,hc,hd,hs,hz,r⟩
 ·obtain⟨z,its,n,r,e⟩:=h.ok I.hok;exact⟨its,r,⟨_,n,e,rfl,rfl,rfl⟩,z⟩
 ·refine⟨its.toList,r,⟨o,n,I.kIn a o hk,hc,hd,by simpa using hs⟩,?_⟩
  have e:=r.length;simp only[YE]at e;omega
theorem Inv.tuple(I:Inv X j0 σ H s)(h:SqT X.K H a xs):∃ its:List Value,Vals xs its/\IsTup s.heap a its.toArray/\xs.length<=WT:=by
 rcases h with h |⟨o,its,n,hk,hc,hs,hz,r⟩
 ·obtain⟨z,its,r,p⟩:=h.ok I.hok;exact⟨its,r,p.1,z⟩
 ·refine⟨its.toList,r,⟨o,I.kIn a o hk,hc,n,by simpa using hs⟩,?_⟩
  have e:=r.length;simp only[YE]at e;omega
theorem Inv.y4(I:Inv X j0 σ H s)(h:SqL X.K H a xs)(h':SqL X.K H a ys):xs=ys:=by
 obtain⟨its,r,⟨o,n,e,_,_,d⟩,_⟩:=I.list h;obtain⟨its',r',⟨o',n',e',_,_,d'⟩,_⟩:=I.list h';rw[e]at e';cases e';rw[d]at d';injection d' with d1 _
 have:its=its':=by simpa using congrArg Array.toList d1
 subst this;exact r.inj r'
theorem Inv.uJ(I:Inv X j0 σ H s)(h:SqT X.K H a xs)(h':SqT X.K H a ys):xs=ys:=by
 obtain⟨its,r,⟨o,e,_,n,d⟩,_⟩:=I.tuple h;obtain⟨its',r',⟨o',e',_,n',d'⟩,_⟩:=I.tuple h';rw[e]at e';cases e';rw[d]at d';injection d' with d1 _
 have:its=its':=by simpa using congrArg Array.toList d1
 subst this;exact r.inj r'
end
abbrev Cx.tV(X:Cx)(E:Value->Shared->Prop):Cx:={ X with xe:=E }
abbrev Cx.nox(X:Cx):Cx:=X.tV fun _ _=>False
theorem Cx.Ok.tV{X:Cx}(ok:X.Ok)(E:Value->Shared->Prop):(X.tV E).Ok :=
 ⟨ok.mod,ok.kind,ok.glob,ok.blt,ok.above,ok.inj,ok.has,ok.cab,ok.hd,ok.frames,ok.stk,ok.exf,ok.bs,ok.bsz,ok.HQ,ok.ME,ok.p8,ok.frf⟩
theorem Cx.Ok.kb(ok:(X.tV E).Ok):X.Ok :=
 ⟨ok.mod,ok.kind,ok.glob,ok.blt,ok.above,ok.inj,ok.has,ok.cab,ok.hd,ok.frames,ok.stk,ok.exf,ok.bs,ok.bsz,ok.HQ,ok.ME,ok.p8,ok.frf⟩
section
variable{σ:St}{s:Shared}
theorem Inv.tV(I:Inv X j0 σ H s)(E:Value->Shared->Prop):Inv (X.tV E) j0 σ H s:=⟨I.ok.tV E,I.os,I.bare,I.base,I.loc,I.cell,I.free,I.gW,I.pin,I.hok,I.len⟩
theorem Inv.kb(I:Inv (X.tV E) j0 σ H s):Inv X j0 σ H s:=⟨I.ok.kb,I.os,I.bare,I.base,I.loc,I.cell,I.free,I.gW,I.pin,I.hok,I.len⟩
theorem SP.kb{D:Ends}{f:Flow}{s':Shared}(h:SP (X.tV E) j0 D f s'):SP X j0 D f s':=by
 cases f with
 | next=>obtain⟨σ',H',I,q⟩:=h;exact⟨σ',H',I.kb,q⟩
 | brk=>obtain⟨σ',H',I,q⟩:=h;exact⟨σ',H',I.kb,q⟩
 | cont=>obtain⟨σ',H',I,q⟩:=h;exact⟨σ',H',I.kb,q⟩
 | ret u=>obtain⟨v,σ',H',I,r,q⟩:=h;exact⟨v,σ',H',I.kb,r,q⟩
theorem PSs.nox{st:List Stmt}{t:TS}(h:PSs X.nox st t):PSs X st t:=fun j0 s σ H D I hw =>
 X5 (h j0 s σ H D (I.tV _) hw) (fun _ _ q=>q.kb) fun _ _ z=>False.elim z
end
variable{tc:TT}
section
variable{st:Stmt}{rest:List Stmt}{t u:TS}{te:TE}
def BQ:TS:=fun D σ H=>D.nx σ H
def RC(t u:TS):TS:=fun D σ H=>t { D with nx:=u D } σ H
theorem Ca:PSs X [] BQ:=fun _ _ σ H _ I h=>wpAny_execs_nil ⟨σ,H,I,h⟩
theorem bK(h1:PS X st t)(h2:PSs X rest u):PSs X (st::rest) (RC t u):=by
 intro j0 s σ H D I h;refine wpAny_execs_cons (thn (h1 j0 s σ H { D with nx:=u D } I h) fun f s1 q=>?_)
 cases f with
 | next =>
  obtain⟨σ',H',I',q⟩:=q;exact h2 j0 s1 σ' H' D I' q
 | ret v=>exact q
 | brk=>exact q
 | cont=>exact q
theorem jo(h1:PS X st t):PSs X [st] t:=by
 intro j0 s σ H D I h;refine wpAny_execs_cons (thn (h1 j0 s σ H D I h) fun f s1 q=>?_)
 cases f with
 | next=>exact wpAny_execs_nil q
 | ret v=>exact q
 | brk=>exact q
 | cont=>exact q
theorem Li:PS X (.Pass pos) BQ:=fun _ _ σ H _ I h=>wpAny_Pass ⟨σ,H,I,h⟩
theorem Inv.quiet{σ:St}{s:Shared}(I:Inv X j0 σ H s):interactive X.env=false:=by simp[interactive,I.ok.kind]
def jP(te:TE):TS:=fun D σ H=>te σ H fun _ H1=>D.nx σ H1
theorem jr(he:PE X e te)(hs:swapsWith e none pos.line X.env=pure false:=by rfl):PS X (.Expr e pos) (jP te):=by
 intro j0 s σ H D I h;exact wpAny_Expr_any (thn (he j0 s σ H _ I h) fun v s1 ⟨x,H1,I1,r1,q1⟩=>⟨σ,H1,I1,q1⟩) I.quiet hs
def Ke(te:TE):TS:=fun D σ H=>te σ H D.rt
theorem oM(he:PE X e te):PS X (.Return (some e) pos) (Ke te):=by
 intro j0 s σ H D I h;exact wpAny_Return_some (thn (he j0 s σ H _ I h) fun v s1 ⟨x,H1,I1,r1,q1⟩=>⟨x,σ,H1,I1,r1,q1⟩)
def Ol(c:TT)(t u:TS):TS:=fun D σ H=>c σ H fun b H1=>if b=true then t D σ H1 else u D σ H1
theorem Hf{c:Expr}{a b:List Stmt}(hc:PT X c tc)(ha:PSs X a t)(hb:PSs X b u):PS X (.If c a b pos) (Ol tc t u):=by
 intro j0 s σ H D I h;refine wpAny_If (thn (hc j0 s σ H _ I h) fun d s1 hPP=>?_)
 obtain⟨H1,I1,q1⟩:=hPP;cases d with
 | true=>exact ha j0 s1 σ H1 D I1 q1
 | false=>exact hb j0 s1 σ H1 D I1 q1
end
abbrev TG:=V->St->Hp ->(St->Hp->Prop)->Prop
abbrev TGs:=List V->St->Hp ->(St->Hp->Prop)->Prop
def PG(X:Cx)(target:Expr)(t:TG):Prop :=
 ∀(j0:List (Addr×Obj))(s:Shared)(σ:St)(H:Hp)(v:V)(u:Value)(Q:St->Hp->Prop),Inv X j0 σ H s->RelV v u->t v σ H Q ->
  wpAny (model X.prog X.w) X.A (assign target X.env u) (fun _ s'=>∃ σ' H',Inv X j0 σ' H' s'/\Q σ' H') X.xe s
def PGs(X:Cx)(ts:List Expr)(t:TGs):Prop :=
 ∀(j0:List (Addr×Obj))(s:Shared)(σ:St)(H:Hp)(vs:List V)(us:List Value)(Q:St->Hp->Prop),Inv X j0 σ H s->Vals vs us->t vs σ H Q ->
  wpAny (model X.prog X.w) X.A (assignInOrder ((assignEach ts X.env).map (·.2)) us) (fun _ s'=>∃ σ' H',Inv X j0 σ' H' s'/\Q σ' H') X.xe s
abbrev Qr:=V->V->V->Hp ->(Hp->Prop)->Prop
def UN(X:Cx)(t:Qr):Prop :=
 ∀(j0:List (Addr×Obj))(s:Shared)(σ:St)(H:Hp)(o i v:V)(ov iv u:Value)(Q:Hp->Prop),Inv X j0 σ H s->RelV o ov->RelV i iv->RelV v u->t o i v H Q ->
  wpAny (model X.prog X.w) X.A (setItem ov iv u) (fun _ s'=>∃ H',Inv X j0 σ H' s'/\Q H') X.xe s
abbrev TIp:=V->V->Hp->VK->Prop
def PIp(X:Cx)(op:Operator)(t:TIp):Prop :=
 ∀(j0:List (Addr×Obj))(s:Shared)(σ:St)(H:Hp)(x y:V)(v u:Value)(Q:VK),Inv X j0 σ H s->RelV x v->RelV y u->t x y H Q ->
  wpAny (model X.prog X.w) X.A (inplaceOp op v u) (EP X j0 σ Q) X.xe s
variable{es:List Expr}{n:Nat}{o:Expr}{to:TE}{tg:Expr}{te:TE}{pos':Pos}
section
def gU(i:Nat):TG:=fun v σ H Q=>Q (σ.set i (some v)) H
theorem nU{i:Nat}(hN:X.N.Nodup)(hi:X.N[i]? = some x)(hx:Loc X.env.scope x)(hf:X.fn x=true\/X.env.scope.names.lookup x=some .local:=by first|exact .inl rfl|exact .inr rfl|assumption):PG X (.Name x pos) (gU i):=by
 intro j0 s σ H v u Q I r h;exact wpAny_assign_Name (nj I hN hi hx r (fun s' I'=>⟨_,H,I',h⟩) hf)
def Qc:TGs:=fun vs σ H Q=>vs = []/\Q σ H
def Cw(t:TG)(u:TGs):TGs:=fun vs σ H Q=>∃ v r,vs=v::r/\t v σ H fun σ' H'=>u r σ' H' Q
theorem nS:PGs X [] Qc:=by
 intro j0 s σ H vs us Q I r h;obtain⟨e,h⟩:=h;subst e;cases r;exact assignInOrder_nil ⟨σ,H,I,h⟩
theorem bD{t:TG}{u:TGs}(h1:PG X e t)(h2:PGs X es u)
  (hs:(assignEach (e::es) X.env).map (·.2)=assign e X.env ::(assignEach es X.env).map (·.2):=by rfl):PGs X (e::es) (Cw t u):=by
 intro j0 s σ H vs us Q I r h;obtain⟨v,vr,e1,h⟩:=h;subst e1;cases r with
 | cons r rr =>
  rw[hs];refine assignInOrder_cons (thn (h1 j0 s σ H _ _ _ I r h) fun _ s1 hPP=>?_)
  obtain⟨σ1,H1,I1,q1⟩:=hPP;exact h2 j0 s1 σ1 H1 _ _ Q I1 rr q1
def MC(K:W.Frag)(n:Nat)(t:TGs):TG:=fun v σ H Q=>∃ a xs,v = .ref a/\SqT K H a xs/\xs.length=n/\t xs σ H Q
theorem Pd{k:Nat}{t:TGs}(hc:X.calm=true)(h:PGs X es t)
  (hn:(assignEach es X.env).length=n:=by rfl) (hst:(assignEach es X.env).findIdx? (·.1)=none:=by rfl):PG X (.Tuple es k pos) (MC X.K n t):=by
 intro j0 s σ H v u Q I r hw;obtain⟨a,xs,e1,hq,hl,hw⟩:=hw;subst e1;cases r;obtain⟨its,rv,ht,hz⟩:=I.tuple hq;refine assign_Tuple_tuple (I.ok.hd hc) ht (by simp[hn,<- hl,rv.length]) hst fun h' hx=>?_
 have I1:Inv X j0 σ H { s with heap:=h' }:=I.kept (t':=s.toks) fun b o e=>hx b o (Xo (Xe e)) e
 exact h j0 _ σ H xs _ Q I1 (by simpa using rv) hw
def Qb(to ti:TE)(t:Qr):TG:=fun v σ H Q=>to σ H fun o H1=>ti σ H1 fun i H2=>t o i v H2 fun H3=>Q σ H3
theorem Pe{i:Expr}{ti:TE}{t:Qr}(ho:PE X o to)(hi:PE X i ti)(hs:UN X t)
  (ha:∀ v,assign (.Subscript o i pos) X.env v =(do
   let ov <- holding [v] (eval o X.env)
   let iv <- holding [v,ov] (eval i X.env)
   standAt pos
   holding [v,ov,iv] (setItem ov iv v)
   release [v,ov,iv] []):=by intro _;rfl):PG X (.Subscript o i pos) (Qb to ti t):=by
 intro j0 s σ H v u Q I r h;rw[ha];refine j2 (XJ (thn (ho j0 s σ H _ I h) fun ov s1 hPP=>?_))
 obtain⟨x,H1,I1,r1,q1⟩:=hPP;refine j2 (XJ (thn (hi j0 s1 σ H1 _ I1 q1) fun iv s2 hPP=>?_))
 obtain⟨y,H2,I2,r2,q2⟩:=hPP;refine j2 (wpAny_standAt (j2 (XJ (thn (hs j0 s2 σ H2 x y v ov iv u _ I2 r1 r2 r q2) fun _ s3 hPP=>?_))))
 obtain⟨H3,I3,q3⟩:=hPP;exact wpAny_release ⟨σ,H3,I3,q3⟩
def ni(te:TE)(g:TG):TS:=fun D σ H=>te σ H fun x H1=>g x σ H1 D.nx
theorem Hh{g:TG}(he:PE X e te)(hg:PG X tg g)(hs:swapsWithSole [tg] e pos.line X.env=pure false:=by rfl)(hw:swappedStores [tg] e X.env=pure none:=by rfl)
  (h1:(assignEach [tg] X.env).map (·.2) = [assign tg X.env]:=by rfl):PS X (.Assign [tg] e pos) (ni te g):=by
 intro j0 s σ H D I h;refine wpAny_Assign_stores (thn (he j0 s σ H _ I h) fun v s1 hPP=>?_) hs hw
 obtain⟨x,H1,I1,r1,q1⟩:=hPP;rw[h1];exact thn (hg j0 s1 σ H1 x v _ I1 r1 q1) fun _ s2 q=>q
theorem jq{i:Nat}(hN:X.N.Nodup)(hi:X.N[i]? = some x)(hx:Loc X.env.scope x)(he:PE X e te)(hs:swapsWith e (some (.Name x pos')) pos.line X.env=pure false:=by rfl)(hf:X.fn x=true\/X.env.scope.names.lookup x=some .local:=by first|exact .inl rfl|exact .inr rfl|assumption) :
  PS X (.Assign [.Name x pos'] e pos) (ni te (gU i)):=by
 intro j0 s σ H D I h;refine wpAny_Assign_Name (thn (he j0 s σ H _ I h) fun v s1 hPP=>?_) hs
 obtain⟨y,H1,I1,r1,q1⟩:=hPP;exact nj I1 hN hi hx r1 (fun s2 I2=>⟨_,H1,I2,q1⟩) hf
def RG(i:Nat)(te:TE)(ti:TIp):TS:=fun D σ H=>∃ x,σ[i]? = some (some x)/\te σ H fun y H1=>ti x y H1 fun z H2=>D.nx (σ.set i (some z)) H2
theorem O1{i:Nat}{op:Operator}{ti:TIp}(hN:X.N.Nodup)(hi:X.N[i]? = some x)(hx:Loc X.env.scope x)(he:PE X e te)(ho:PIp X op ti)(hf:X.fn x=true\/X.env.scope.names.lookup x=some .local:=by first|exact .inl rfl|exact .inr rfl|assumption) :
  PS X (.AugAssign (.Name x pos') op e pos) (RG i te ti):=by
 intro j0 s σ H D I h;obtain⟨v,e1,h⟩:=h;obtain⟨m,hn,hl⟩:=I.loc;have vis:Vis X.env.scope x:=by rcases hx with k|k;exact .inl k;exact .inr (.inl k)
 obtain⟨u,r,l⟩:=hl i x v hi e1 vis;refine wpAny_AugAssign_Name ?_;have go:wpAny (model X.prog X.w) X.A (eval e X.env) (fun w s₂=>wpAny (model X.prog X.w) X.A (inplaceOp op u w) (fun r s₃=>wpAny (model X.prog X.w) X.A (storeName X.env x r) (fun _=>SP X j0 D .next) X.xe s₃) X.xe s₂) X.xe s:=by
  refine thn (he j0 s σ H _ I h) fun w s1 hPP=>?_
  obtain⟨y,H1,I1,r1,q1⟩:=hPP;refine thn (ho j0 s1 σ H1 v y u w _ I1 r r1 q1) fun z s2 hPP=>?_
  obtain⟨zv,H2,I2,r2,q2⟩:=hPP;exact nj I2 hN hi hx r2 (fun s3 I3=>⟨_,H2,I3,q2⟩) hf
 rcases l with⟨hk,hm⟩ |⟨hk,c,hc,gT⟩
 ·exact wpAny_loadName_local I.ok.kind hk hn hm go
 ·rcases hk with hk|hk
  ·exact wpAny_loadName_cell I.ok.kind hk hc gT go
  ·rcases hx with k|k
   ·have:X.env.scope.names.lookup x=some .free:=hk
    rw[k]at this;cases this
   ·have:X.env.scope.names.lookup x=some .free:=hk
    rw[k]at this;cases this
def ipI(f:Int->Int->Int):TIp:=fun x y H Q=>∃ i j,x = .int i/\y = .int j/\Q (.int (f i j)) H
theorem PY:PIp X .Add (ipI fun i j=>i+j):=by
 intro j0 s σ H x y v u Q I r1 r2 h;obtain⟨i,j,e1,e2,q⟩:=h;subst e1;subst e2;obtain⟨t,rfl⟩:=r1;obtain⟨t',rfl⟩:=r2;exact iadd_int ⟨.int _,H,I.tok _,⟨_,rfl⟩,q⟩
end
variable{body:List Stmt}
section
def vy(c:TT)(tb:TS):TS:=fun D σ H=>∃ W:Nat->St->Hp->Prop,(∃ m,W m σ H)/\∀ m σ H,W m σ H ->
 c σ H fun b H1=>if b=true then ∃ N:St->Hp->Prop,(∀ σ' H',N σ' H'->∃ m',m'<m/\W m' σ' H')/\tb { D with nx:=N,ct:=N,bk:=D.nx } σ H1 else D.nx σ H1
theorem rP{c:Expr}{tb:TS}(hp:Zt (model X.prog X.w) X.A X.env X.xe)(hc:PT X c tc)(hb:PSs X body tb):PS X (.While c body [] pos) (vy tc tb):=by
 intro j0 s σ H D I h;obtain⟨W,⟨m0,w0⟩,turn⟩:=h;refine wpAny_While (codeAny_whileLoop (fun n s'=>∃ σ' H',Inv X j0 σ' H' s'/\W n σ' H') ?_ m0 ⟨σ,H,I,w0⟩)
 rintro n s1 ⟨σ1,H1,I1,w1⟩
 refine wpAny_passesOwn hp (thn (hc j0 s1 σ1 H1 _ I1 (turn n σ1 H1 w1)) fun b s2 hPP=>?_)
 obtain⟨H2,I2,q2⟩:=hPP;cases b with
 | true =>
  obtain⟨N,hN,q2⟩:=q2;rw[if_pos rfl];refine wpAny_passesOwn hp (thn (hb j0 s2 σ1 H2 _ I2 q2) fun f s3 q3=>?_)
  cases f with
  | next =>
   obtain⟨σ3,H3,I3,n3⟩:=q3;obtain⟨m',hm,w3⟩:=hN σ3 H3 n3;exact⟨m',hm,σ3,H3,I3,w3⟩
  | cont =>
   obtain⟨σ3,H3,I3,n3⟩:=q3;obtain⟨m',hm,w3⟩:=hN σ3 H3 n3;exact⟨m',hm,σ3,H3,I3,w3⟩
  | brk=>exact q3
  | ret v=>exact q3
 | false =>
  rw[if_neg Xd];exact wpAny_execs_nil ⟨σ1,H2,I2,q2⟩
end
structure It where
 go:Nat->Hp->Prop
 yld:Nat->Hp->V->Hp->Prop
 stop:Nat->Hp->Prop
def tR(X:Cx)(j0:List (Addr×Obj))(H:Hp)(b:Addr):Prop :=
 H b=none/\b≠X.env.locals/\b ∉ X.fs/\(b∈X.ex\/X.s₀.heap.objs.size<=b)/\(∀ x c,X.env.cells.lookup x=some c->c≠b)/\∀ p∈X.pn++j0,p.1≠b
variable{H':Hp}
theorem Inv.IF{σ:St}{s:Shared}{b:Addr}(I:Inv X j0 σ H s)(hb:s.heap.objs.size<=b)(hn:H' b=none):tR X j0 H' b:=by
 refine⟨hn,XY (Xr I.lt hb),I.Tn hb,.inr (Xw I.sz hb),fun x c e z=>?_,fun p hp z=>?_⟩
 ·obtain⟨v,q⟩:=I.cell x c e;exact absurd (Xr q.lt (by rw[z];exact hb)) (Yq _)
 ·exact absurd (Xr (Xe (I.pin p hp).1) (by rw[z];exact hb)) (Yq _)
structure Turn(P:Program)(w:World)(K:W.Frag)(tg:Expr)(J:It)(fp:List Addr)(it:Addr)(tn:Nat->Heap->Prop):Prop where
 mem:it∈fp
 obj:∀ i h,tn i h->∀ b∈fp,∃ o,h.get? b=some o/\∀ v,o.data ≠ .cell v
 keep:∀ i h h',tn i h ->(∀ b∈fp,∀ o,h.get? b=some o->h'.get? b=some o)->tn i h'
 item:∀(X:Cx),X.prog=P->X.w=w->X.K=K->X.calm=true->∀(i:Nat)(j0:List (Addr×Obj))(s:Shared)(σ:St)(H:Hp)(E:Value->Shared->Prop),Inv X j0 σ H s ->(∀ b∈fp,tR X j0 H b)->tn i s.heap->J.go i H ->
  wpAny (model P w) X.A (pyNext (.ref it)) (fun r s1=>∃ u,r=some u /\
   wpAny (model P w) X.A (letOwnedTupleGo tg (.ref it) u) (fun _ s2=>∃ x H',Inv X j0 σ H' s2/\RelV x u/\J.yld i H x H'/\tn (i+1) s2.heap/\∀ b∈fp,H' b=none) E s1) E s
 done:∀(X:Cx),X.prog=P->X.w=w->X.K=K->X.calm=true->∀(i:Nat)(j0:List (Addr×Obj))(s:Shared)(σ:St)(H:Hp)(E:Value->Shared->Prop),Inv X j0 σ H s ->(∀ b∈fp,tR X j0 H b)->tn i s.heap->J.stop i H ->
  wpAny (model P w) X.A (pyNext (.ref it)) (fun r s1=>r=none/\Inv X j0 σ H s1) E s
 self:∀(A:Around)(i:Nat)(s:Shared)(Q:Value->Shared->Prop)(E:Value->Shared->Prop),tn i s.heap->Q (.ref it) s->wpAny (model P w) A (pyIter (.ref it)) Q E s
abbrev TI:=St->Hp ->(It->Hp->Prop)->Prop
def PIE(X:Cx)(j0:List (Addr×Obj))(σ:St)(tg:Expr)(R:It->Hp->Prop)(itv:Value)(s2:Shared):Prop :=
 ∃(it:Addr)(fp:List Addr)(tn:Nat->Heap->Prop)(J:It)(H':Hp),itv = .ref it/\Inv X j0 σ H' s2/\Turn X.prog X.w X.K tg J fp it tn/\tn 0 s2.heap/\(∀ b∈fp,tR X j0 H' b)/\R J H'
def PI(X:Cx)(tg iter:Expr)(wi:TI):Prop :=
 ∀(j0:List (Addr×Obj))(s:Shared)(σ:St)(H:Hp)(R:It->Hp->Prop),Inv X j0 σ H s->wi σ H R ->
  wpAny (model X.prog X.w) X.A (eval iter X.env) (fun v s1=>wpAny (model X.prog X.w) X.A (pyIter v) (PIE X j0 σ tg R) X.xe s1) X.xe s
theorem ID{s:Shared}{o:Obj}{n:String}{vs:Array Value}{Q:Unit->Shared->Prop}(ho:s.heap.get? it=some o)(hc:o.cls = .type n)(hd:o.data = .fields vs)
  (hn:["enumerate","zip","dict_itemiterator","dict_reverseitemiterator","odict_iterator","itertools.zip_longest","itertools.pairwise"].contains n=false) (hQ:Q () s):wpAny M A (letOwnedTupleGo tg (.ref it) u) Q E s:=by
 unfold letOwnedTupleGo;cases tg <;> first
  | exact TH hQ
  | (cases u <;> first
    | exact TH hQ
    | (refine j2 (wpAny_load ho ?_)
       rw[hc,hd];show wpAny M A (if(["enumerate","zip","dict_itemiterator","dict_reverseitemiterator","odict_iterator","itertools.zip_longest","itertools.pairwise"].contains n&&vs[0]? == some (rawInt _))=true then _ else _) Q E s
       rw[if_neg (by intro h;rw[hn,Bool.false_and]at h;cases h)]
       exact TH hQ))
def Itl(K:W.Frag)(a:Addr):It :=
 ⟨fun i H=>∃ xs x,SqL K H a xs/\xs[i]? = some x,fun i H x H'=>H'=H/\∀ xs,SqL K H a xs->xs[i]? = some x,fun i H=>∃ xs,SqL K H a xs/\xs.length<=i⟩
def Itt(K:W.Frag)(a:Addr):It :=
 ⟨fun i H=>∃ xs x,SqT K H a xs/\xs[i]? = some x,fun i H x H'=>H'=H/\∀ xs,SqT K H a xs->xs[i]? = some x,fun i H=>∃ xs,SqT K H a xs/\xs.length<=i⟩
def Itr(lo:Int)(n:Nat):It:=⟨fun i _=>i<n,fun i H x H'=>H'=H/\x = .int (lo+i),fun i _=>n<=i⟩
theorem Dg{w:World}{K:W.Frag}(a it:Addr):Turn P w K tg (Itl K a) [it] it (fun i h=>h.IsListIter it a i) where
 mem:=by simp
 obj:=fun i h st b hb=>by
  have e:b=it:=by simpa using hb
  subst e;obtain⟨o,e,c,d⟩:=st;exact⟨o,e,fun v z=>by rw[d]at z;cases z⟩
 keep:=fun i h h' st k=>st.at fun o e=>k it (by simp) o e
 item:=by
  intro X hP hw hK hc i j0 s σ H E I hf st hg;subst hP hw hK;obtain⟨xs,x,hq,hx⟩:=hg;obtain⟨its,rv,p,hz⟩:=I.list hq;obtain⟨u,hu,ru⟩:=rv.get hx;obtain⟨f0,f1,f2,f3,f4,f5⟩:=hf it (by simp)
  refine wpAny_pyNext_list_item st p.isList (x:=u) (by simpa using hu) fun h' st' sb=>?_
  have I1:Inv X j0 σ H { s with heap:=h' }:=I.turned (t':=s.toks) (fun b o hb e=>(sb.2 b hb).trans e) f0 f1 f3 f4 f5
  obtain⟨o,e,c,d⟩:=id st';exact⟨u,rfl,ID (s:={ s with heap:=h' }) e c d (by decide) ⟨x,H,I1,ru,⟨rfl,fun ys hy=>by rw[I.y4 hy hq];exact hx⟩,st',fun b hb=>(hf b hb).1⟩⟩
 done:=by
  intro X hP hw hK hc i j0 s σ H E I hf st hg;subst hP hw hK;obtain⟨xs,hq,hx⟩:=hg;obtain⟨its,rv,p,hz⟩:=I.list hq;obtain⟨f0,f1,f2,f3,f4,f5⟩:=hf it (by simp)
  have hl:=rv.length;exact wpAny_pyNext_list_end (I.ok.hd hc) st p.isList (by simp;omega) fun h' eb=>⟨rfl,I.turned (t':=s.toks) (fun b o hb e=>eb b o hb e) f0 f1 f3 f4 f5⟩
 self:=fun _ _ _ _ _ st h=>wpAny_pyIter_listiter st h
theorem zY{w:World}{K:W.Frag}(a it:Addr):Turn P w K tg (Itt K a) [it] it (fun i h=>h.IsTupleIter it a i) where
 mem:=by simp
 obj:=fun i h st b hb=>by
  have e:b=it:=by simpa using hb
  subst e;obtain⟨o,e,c,d⟩:=st;exact⟨o,e,fun v z=>by rw[d]at z;cases z⟩
 keep:=fun i h h' st k=>st.at fun o e=>k it (by simp) o e
 item:=by
  intro X hP hw hK hc i j0 s σ H E I hf st hg;subst hP hw hK;obtain⟨xs,x,hq,hx⟩:=hg;obtain⟨its,rv,p,hz⟩:=I.tuple hq;obtain⟨u,hu,ru⟩:=rv.get hx;obtain⟨f0,f1,f2,f3,f4,f5⟩:=hf it (by simp)
  refine wpAny_pyNext_tuple_item st (show s.heap.IsTuple a its.toArray from p) (x:=u) (by simpa using hu) fun h' st' sb=>?_
  have I1:Inv X j0 σ H { s with heap:=h' }:=I.turned (t':=s.toks) (fun b o hb e=>(sb.2 b hb).trans e) f0 f1 f3 f4 f5
  obtain⟨o,e,c,d⟩:=id st';exact⟨u,rfl,ID (s:={ s with heap:=h' }) e c d (by decide) ⟨x,H,I1,ru,⟨rfl,fun ys hy=>by rw[I.uJ hy hq];exact hx⟩,st',fun b hb=>(hf b hb).1⟩⟩
 done:=by
  intro X hP hw hK hc i j0 s σ H E I hf st hg;subst hP hw hK;obtain⟨xs,hq,hx⟩:=hg;obtain⟨its,rv,p,hz⟩:=I.tuple hq;obtain⟨f0,f1,f2,f3,f4,f5⟩:=hf it (by simp)
  have hl:=rv.length;exact wpAny_pyNext_tuple_end (I.ok.hd hc) st (show s.heap.IsTuple a its.toArray from p) (by simp;omega) fun h' eb=>⟨rfl,I.turned (t':=s.toks) (fun b o hb e=>eb b o hb e) f0 f1 f3 f4 f5⟩
 self:=fun _ _ _ _ _ st h=>wpAny_pyIter_tupleiter st h
theorem zZ{w:World}{K:W.Frag}(it:Addr)(lo:Int)(n:Nat):Turn P w K tg (Itr lo n) [it] it (fun i h=>IsRangeIter h it (lo+(i:Nat)*1) ((n:Int) - (i:Nat)) 1) where
 mem:=by simp
 obj:=fun i h st b hb=>by
  have e:b=it:=by simpa using hb
  subst e;exact⟨_,st,fun v z=>by
   have z':Data.fields _=Data.cell v:=z;cases z'⟩
 keep:=fun i h h' st k=>k it (by simp) _ st
 item:=by
  intro X hP hw hK hc i j0 s σ H E I hf st hg;subst hP hw hK;obtain⟨f0,f1,f2,f3,f4,f5⟩:=hf it (by simp)
  have W:=Walks.range (prog:=X.prog) (w:=X.w) (I.ok.hd hc) it lo 1 n;refine W.item i s _ _ hg st fun v h' tk hv st' kk=>?_
  obtain⟨t,rfl⟩:=hv;have I1:Inv X j0 σ H { s with heap:=h',toks:=tk }:=I.turned (fun b o hb e=>kk b o (by simpa using hb) e) f0 f1 f3 f4 f5
  refine⟨_,rfl,ID (s:={ s with heap:=h',toks:=tk }) (n:="range_iterator") st' rfl rfl (by decide) ⟨.int (lo+i),H,I1,⟨t,?_⟩,⟨rfl,rfl⟩,st',fun b hb=>(hf b hb).1⟩⟩
  rw[Int.mul_one]
 done:=by
  intro X hP hw hK hc i j0 s σ H E I hf st hg;subst hP hw hK;obtain⟨f0,f1,f2,f3,f4,f5⟩:=hf it (by simp)
  exact wpAny_pyNext_range_end (I.ok.hd hc) st (by have:n<=i:=hg;omega) fun h' eb=>⟨rfl,I.turned (t':=s.toks) (fun b o hb e=>eb b o hb e) f0 f1 f3 f4 f5⟩
 self:=fun _ _ _ _ _ st h=>wpAny_pyIter_rangeiter st h
variable{p:Pos}{fp:List Addr}{iter:Expr}
section
def Cu(K:W.Frag)(tl:TE):TI:=fun σ H R=>tl σ H fun x H1=>∃ a,x = .ref a/\(∃ xs,SqL K H1 a xs)/\R (Itl K a) H1
def Mu(K:W.Frag)(tl:TE):TI:=fun σ H R=>tl σ H fun x H1=>∃ a,x = .ref a/\(∃ xs,SqT K H1 a xs)/\R (Itt K a) H1
theorem qF{l:Expr}{tl:TE}(hl:PE X l tl):PI X tg l (Cu X.K tl):=by
 intro j0 s σ H R I h;refine thn (hl j0 s σ H _ I h) fun v s1 hPP=>?_
 obtain⟨x,H1,I1,r1,q1⟩:=hPP;obtain⟨a,e,⟨xs,hq⟩,q⟩:=q1;subst e;cases r1;obtain⟨its,rv,p,hz⟩:=I1.list hq;refine wpAny_pyIter_list p.isList ?_;refine⟨s1.heap.objs.size,[s1.heap.objs.size],_,_,H1,rfl,I1.kept (t':=s1.toks) fun b o e=>j3 _ e,Dg a _,⟨_,W8 _ rfl,rfl,rfl⟩,fun b hb=>?_,q⟩
 have e:b=s1.heap.objs.size:=by simpa using hb
 subst e;exact I1.IF (Xa _) (I1.hok.fresh (Xa _))
theorem Pb{l:Expr}{tl:TE}(hl:PE X l tl):PI X tg l (Mu X.K tl):=by
 intro j0 s σ H R I h;refine thn (hl j0 s σ H _ I h) fun v s1 hPP=>?_
 obtain⟨x,H1,I1,r1,q1⟩:=hPP;obtain⟨a,e,⟨xs,hq⟩,q⟩:=q1;subst e;cases r1;obtain⟨its,rv,p,hz⟩:=I1.tuple hq;refine wpAny_pyIter_tuple (show s1.heap.IsTuple a its.toArray from p) ?_;refine⟨s1.heap.objs.size,[s1.heap.objs.size],_,_,H1,rfl,I1.kept (t':=s1.toks) fun b o e=>j3 _ e,zY a _,⟨_,W8 _ rfl,rfl,rfl⟩,fun b hb=>?_,q⟩
 have e:b=s1.heap.objs.size:=by simpa using hb
 subst e;exact I1.IF (Xa _) (I1.hok.fresh (Xa _))
theorem GA{σ:St}{s:Shared}{R:It->Hp->Prop}{lo hi:Int}{t u v:Tok}{tk:Nat}(I:Inv X j0 σ H s)(h1:-(2 ^ 62)<=lo)(h2:lo<2 ^ 62)(h3:-(2 ^ 62)<=hi)(h4:hi<2 ^ 62)
  (q:R (Itr lo (hi - lo).toNat) H):wpAny (model X.prog X.w) X.A (pyIter (.ref s.heap.objs.size)) (PIE X j0 σ tg R) E { s with heap:=s.heap.push { cls:=.type "range",data:=.fields #[.int lo t,.int hi u,.int 1 v] },toks:=tk }:=by
 refine wpAny_pyIter_range (IsRange.new ..) (small_one h1 h2 h3 h4) ?_;have I1:Inv X j0 σ H { s with heap:=s.heap.push { cls:=.type "range",data:=.fields #[.int lo t,.int hi u,.int 1 v] },toks:=tk }:=I.kept fun b o e=>j3 _ e
 refine⟨(s.heap.push { cls:=.type "range",data:=.fields #[.int lo t,.int hi u,.int 1 v] }).objs.size,[(s.heap.push { cls:=.type "range",data:=.fields #[.int lo t,.int hi u,.int 1 v] }).objs.size],_,_,H,rfl,
  I1.kept (t':=tk) fun b o e=>j3 _ e,zZ _ lo (hi - lo).toNat,?_,fun b hb=>?_,q⟩
 ·have e1:lo+((0:Nat):Int)*1=lo:=by simp
  have e2:(((hi - lo).toNat:Nat):Int) - ((0:Nat):Int)=Builtin.Range.rangeSize lo hi 1:=by rw[rangeSize_one];split <;> omega
  show IsRangeIter _ _ (lo+((0:Nat):Int)*1) ((((hi - lo).toNat:Nat):Int) - ((0:Nat):Int)) 1;rw[e1,e2];exact W8 _ rfl
 ·have e:b =(s.heap.push { cls:=.type "range",data:=.fields #[.int lo t,.int hi u,.int 1 v] }).objs.size:=by simpa using hb
  subst e;exact I1.IF (Xa _) (I1.hok.fresh (Xa _))
def Io(ta:TA):TI:=fun σ H R=>ta σ H fun vs H1=>∃ j:Int,vs = [.int j] /\ -(2 ^ 62)<=j/\j<2 ^ 62/\R (Itr 0 j.toNat) H1
theorem uU{a:Expr}{ta:TA}(hg:Gl X "range")(hm:X.mg "range" = none)(ha:PA X [a] ta)(hs:QX [a] X.env = [(false,eval a X.env)]:=by rfl):PI X tg (.Call (.Name "range" p) [a] [] pos) (Io ta):=by
 intro j0 s σ H R I h;refine Call_ (fO I hg hm boot_range (PyProof.Rows.callWith_type1 (thn (ha pos j0 s σ H _ I h) fun us s1 ⟨vs,H1,I1,r1,q1⟩=>?_) hs rfl))
 obtain⟨j,e,q1,q2,q⟩:=q1;subst e;cases r1 with
 | cons r rr =>
  cases rr;obtain⟨t,rfl⟩:=r;exact call_range_1 (GA I1 (by omega) (by omega) q1 q2 (by simpa using q))
def RE(wi:TI)(g:TG)(tb:TS):TS:=fun D σ H=>wi σ H fun J H1=>∃ W:Nat->Nat->St->Hp->Prop,(∃ m,W 0 m σ H1)/\∀ i m σ H,W i m σ H ->
 (J.stop i H/\D.nx σ H)\/(J.go i H/\∃ N:St->Hp->Prop,(∀ σ' H',N σ' H'->∃ m',m'<m/\W (i+1) m' σ' H')/\∀ x H',J.yld i H x H'->g x σ H' fun σ2 H2=>tb { D with nx:=N,ct:=N,bk:=D.nx } σ2 H2)
def rQ(fp:List Addr)(h:Heap):List (Addr×Obj):=fp.filterMap fun b=>(h.get? b).map fun o=>(b,o)
theorem gP{h:Heap}{b:Addr}{o:Obj}(hb:b∈fp)(e:h.get? b=some o):(b,o)∈rQ fp h:=YK.mpr ⟨b,hb,by rw[e];rfl⟩
theorem DU{h:Heap}{p:Addr×Obj}(hp:p∈rQ fp h):p.1∈fp/\h.get? p.1=some p.2:=by
 obtain⟨b,hb,e⟩:=YK.mp hp;cases q:h.get? b with
 | none=>rw[q]at e;cases e
 | some o =>
  rw[q]at e;have e':(b,o)=p:=Option.some.inj e;subst e';exact⟨hb,q⟩
theorem Inv.pinned{σ:St}{s:Shared}(I:Inv X j0 σ H s)(hf:∀ b∈fp,tR X j0 H b)(ho:∀ b∈fp,∃ o,s.heap.get? b=some o/\∀ v,o.data ≠ .cell v):Inv X (j0++rQ fp s.heap) σ H s :=
 I.nR fun p hp=>(Xj.mp hp).elim (fun z=>I.pin p (W7 _ z)) fun z=>by
  obtain⟨hb,e⟩:=DU z;obtain⟨f0,f1,f2,_⟩:=hf p.1 hb;obtain⟨o,e',d⟩:=ho p.1 hb;rw[e]at e';cases e';exact⟨e,f0,f1,f2,d⟩
theorem Inv.ng{pl:List (Addr×Obj)}{σ:St}{s:Shared}(I:Inv X (j0++pl) σ H s):Inv X j0 σ H s:=I.nR fun p hp=>I.pin p (W7 _ (Xf _ hp))
theorem Hg{wi:TI}{g:TG}{tb:TS}{pos:Pos}(hp:Zt (model X.prog X.w) X.A X.env X.xe)(hc:X.calm=true)(hi:PI X tg iter wi)(hg:PG X tg g)(hb:PSs X body tb)
  (hs:∀ x,foldedSetIterable iter X.env x=pure x:=by intro _;rfl):PS X (.For tg iter body [] pos) (RE wi g tb):=by
 intro j0 s σ H D I h;refine wpAny_For (thn (hi j0 s σ H _ I h) fun v s1 h1=>thn h1 fun itv s2 h2=>?_) hs
 obtain⟨it,fp,tn,J,H2,e,I2,T,st2,f2,W,⟨m0,w0⟩,turn⟩:=h2;subst e;have Ot:∀{H':Hp},(∀ b∈fp,H' b=none)->∀ b∈fp,tR X j0 H' b:=fun hn b hb=>⟨hn b hb,(f2 b hb).2⟩
 refine codeAny_forLoop_any (fun n s'=>∃ i σ' H',Inv X j0 σ' H' s'/\tn i s'.heap/\(∀ b∈fp,H' b=none)/\W i n σ' H') ?_ m0 ⟨0,σ,H2,I2,st2,fun b hb=>(f2 b hb).1,w0⟩
 rintro n s3 ⟨i,σ3,H3,I3,st3,fr3,w3⟩
 rcases turn i n σ3 H3 w3 with⟨stop,qn⟩ |⟨go,N,hN,step⟩
 ·refine wpAny_passesOwn hp (thn (T.done X rfl rfl rfl hc i j0 s3 σ3 H3 X.xe I3 (Ot fr3) st3 stop) fun r s4 hPP=>?_)
  obtain⟨hr,I4⟩:=hPP;subst hr;exact wpAny_execs_nil ⟨σ3,H3,I4,qn⟩
 ·refine wpAny_passesOwn hp (thn (T.item X rfl rfl rfl hc i j0 s3 σ3 H3 X.xe I3 (Ot fr3) st3 go) fun r s4 hPP=>?_)
  obtain⟨u,hr,h4⟩:=hPP;subst hr;refine wpAny_passesOwn hp (thn h4 fun _ s5 hPP=>?_)
  obtain⟨x,H5,I5,r5,y5,st5,fr5⟩:=hPP;have I5':=I5.pinned (Ot fr5) (T.obj _ _ st5);refine wpAny_passesOwn hp (thn (hg _ s5 σ3 H5 x u _ I5' r5 (step x H5 y5)) fun _ s6 hPP=>?_)
  obtain⟨σ6,H6,I6,q6⟩:=hPP;refine wpAny_passesOwn hp (thn (hb _ s6 σ6 H6 _ I6 q6) fun f s7 q7=>?_)
  have again:∀{σ7:St}{H7:Hp},Inv X (j0++rQ fp s5.heap) σ7 H7 s7->N σ7 H7->∃ m,m<n/\∃ i σ' H',Inv X j0 σ' H' s7/\tn i s7.heap/\(∀ b∈fp,H' b=none)/\W i m σ' H':=fun{σ7 H7} I7 n7=>by
   obtain⟨m',hm,w7⟩:=hN σ7 H7 n7;refine⟨m',hm,i+1,σ7,H7,I7.ng,T.keep _ _ _ st5 fun b hb o e=>(I7.pin (b,o) (W7 _ (W7 _ (gP hb e)))).1,fun b hb=>?_,w7⟩
   obtain⟨o,e,d⟩:=T.obj _ _ st5 b hb;exact(I7.pin (b,o) (W7 _ (W7 _ (gP hb e)))).2.1
  cases f with
  | next=>obtain⟨σ7,H7,I7,n7⟩:=q7;exact again I7 n7
  | cont=>obtain⟨σ7,H7,I7,n7⟩:=q7;exact again I7 n7
  | brk=>obtain⟨σ7,H7,I7,q7⟩:=q7;exact⟨σ7,H7,I7.ng,q7⟩
  | ret v=>obtain⟨x7,σ7,H7,I7,r7,q7⟩:=q7;exact⟨x7,σ7,H7,I7.ng,r7,q7⟩
end
variable{xs:List V}{D:Ends}
theorem IG{K:W.Frag}{g:TG}{tb:TS}{σ:St}(Pv:Nat->St->Hp->Prop)(h0:Pv 0 σ H)(hl:∀ i σ H,i<=xs.length->Pv i σ H->SqL K H a xs)
  (hs:∀ i x σ H,xs[i]? = some x->Pv i σ H->g x σ H fun σ2 H2=>tb { D with nx:=Pv (i+1),ct:=Pv (i+1),bk:=D.nx } σ2 H2) (hd:∀ σ H,Pv xs.length σ H->D.nx σ H) :
  ∃ W:Nat->Nat->St->Hp->Prop,(∃ m,W 0 m σ H)/\∀ i m σ H,W i m σ H ->
   ((Itl K a).stop i H/\D.nx σ H)\/((Itl K a).go i H/\∃ N:St->Hp->Prop,(∀ σ' H',N σ' H'->∃ m',m'<m/\W (i+1) m' σ' H')/\∀ x H',(Itl K a).yld i H x H'->g x σ H' fun σ2 H2=>tb { D with nx:=N,ct:=N,bk:=D.nx } σ2 H2):=by
 refine⟨fun i m σ H=>m=xs.length - i/\i<=xs.length/\Pv i σ H,⟨xs.length,by simp,XU _,h0⟩,?_⟩
 rintro i m σ H ⟨rfl,hi,p⟩
 have q:=hl i σ H hi p;by_cases hlt:i<xs.length
 ·refine .inr ⟨⟨xs,xs[i],q,by simp[hlt]⟩,Pv (i+1),fun σ' H' p'=>⟨xs.length - (i+1),by omega,rfl,hlt,p'⟩,fun x H' y=>?_⟩
  obtain⟨e,y⟩:=y;subst e;exact hs i x σ _ (y xs q) p
 ·have e:i=xs.length:=by omega
  subst e;exact .inl ⟨⟨xs,q,Xa _⟩,hd σ H p⟩
abbrev R2:=V->V->Hp->VK->Prop
def OpR(X:Cx)(f:Value->Value->Sem Value)(r:R2):Prop :=
 ∀(j0:List (Addr×Obj))(s:Shared)(σ:St)(H:Hp)(x y:V)(v u:Value)(Q:VK),Inv X j0 σ H s->RelV x v->RelV y u->r x y H Q ->
  wpAny (model X.prog X.w) X.A (f v u) (EP X j0 σ Q) X.xe s
def UnR(X:Cx)(f:Value->Sem Value)(r:V->Hp->VK->Prop):Prop :=
 ∀(j0:List (Addr×Obj))(s:Shared)(σ:St)(H:Hp)(x:V)(v:Value)(Q:VK),Inv X j0 σ H s->RelV x v->r x H Q ->
  wpAny (model X.prog X.w) X.A (f v) (EP X j0 σ Q) X.xe s
def c7(X:Cx)(f:Value)(r:List V->Hp->VK->Prop):Prop :=
 ∀(j0:List (Addr×Obj))(s:Shared)(σ:St)(H:Hp)(xs:List V)(us:List Value)(Q:VK),Inv X j0 σ H s->Vals xs us->r xs H Q ->
  wpAny (model X.prog X.w) X.A (call f us) (EP X j0 σ Q) X.xe s
def WQ(X:Cx)(r:V->Hp ->(Bool->Hp->Prop)->Prop):Prop :=
 ∀(j0:List (Addr×Obj))(s:Shared)(σ:St)(H:Hp)(x:V)(v:Value)(Q:Bool->Hp->Prop),Inv X j0 σ H s->RelV x v->r x H Q ->
  wpAny (model X.prog X.w) X.A (truthy v) (TP X j0 σ Q) X.xe s
def tOp(r:R2)(ta tb:TE):TE:=fun σ H Q=>ta σ H fun x H1=>tb σ H1 fun y H2=>r x y H2 Q
def tUn(r:V->Hp->VK->Prop)(ta:TE):TE:=fun σ H Q=>ta σ H fun x H1=>r x H1 Q
def rI(C:Int->Int->Prop)(g:Int->Int->V):R2:=fun x y H Q=>∃ i j,x = .int i/\y = .int j/\C i j/\Q (g i j) H
def rI0(g:Int->Int->V):R2:=fun x y H Q=>∃ i j,x = .int i/\y = .int j/\Q (g i j) H
def rU(g:Int->V):V->Hp->VK->Prop:=fun x H Q=>∃ i,x = .int i/\Q (g i) H
section
variable{a b c:Expr}{ta tb tc:TE}
theorem Qk(ha:PE X a ta)(hb:PE X b tb){s:Shared}{σ:St}{R:V->V->Hp->Prop}(I:Inv X j0 σ H s)
  (h:ta σ H fun x H1=>tb σ H1 fun y H2=>R x y H2) {Q:Value->Shared->Prop} {f:Value->Value->Sem Value}
  (hf:∀ v u s2 x y H2,Inv X j0 σ H2 s2->RelV x v->RelV y u->R x y H2->wpAny (model X.prog X.w) X.A (f v u) Q X.xe s2) :
  wpAny (model X.prog X.w) X.A (eval a X.env) (fun v s₁=>wpAny (model X.prog X.w) X.A (eval b X.env) (fun u s₂=>wpAny (model X.prog X.w) X.A (f v u) Q X.xe s₂) X.xe s₁) X.xe s:=by
 refine thn (ha j0 s σ H _ I h) fun v s1 hPP=>?_
 obtain⟨x,H1,I1,r1,q1⟩:=hPP;refine thn (hb j0 s1 σ H1 _ I1 q1) fun u s2 hPP=>?_
 obtain⟨y,H2,I2,r2,q2⟩:=hPP;exact hf v u s2 x y H2 I2 r1 r2 q2
theorem cx{op:Operator}{r:R2}(ho:OpR X (binaryOp op) r)(ha:PE X a ta)(hb:PE X b tb):PE X (.BinOp a op b pos) (tOp r ta tb):=by
 intro j0 s σ H Q I h;exact wpAny_BinOp (Qk ha hb I h fun v u s2 x y H2 I2 rx ry q=>ho j0 s2 σ H2 x y v u Q I2 rx ry q)
theorem NP{op:UnaryOp}{r:V->Hp->VK->Prop}(ho:UnR X (unaryOp op) r)(ha:PE X a ta):PE X (.UnaryOp op a pos) (tUn r ta):=by
 intro j0 s σ H Q I h;exact UnaryOp_ (thn (ha j0 s σ H _ I h) fun v s1 ⟨x,H1,I1,r1,q1⟩=>ho j0 s1 σ H1 x v Q I1 r1 q1)
theorem opI{f:Value->Value->Sem Value}{C:Int->Int->Prop}{g:Int->Int->Int}
  (rule:∀(i j:Int)(t u:Tok)(s:Shared)(Q:Value->Shared->Prop)(E:Value->Shared->Prop),C i j->Q (.int (g i j) s.toks) { s with toks:=s.toks+1 }->wpAny (model X.prog X.w) X.A (f (.int i t) (.int j u)) Q E s) :
  OpR X f (rI C fun i j=>.int (g i j)):=by
 intro j0 s σ H x y v u Q I rx ry h;obtain⟨i,j,rfl,rfl,hc,q⟩:=h;obtain⟨t,rfl⟩:=rx;obtain⟨t',rfl⟩:=ry;exact rule i j t t' s _ _ hc ⟨.int (g i j),H,I.tok _,⟨_,rfl⟩,q⟩
theorem SY{f:Value->Value->Sem Value}{g:Int->Int->Int}
  (rule:∀(i j:Int)(t u:Tok)(s:Shared)(Q:Value->Shared->Prop)(E:Value->Shared->Prop),Q (.int (g i j) s.toks) { s with toks:=s.toks+1 }->wpAny (model X.prog X.w) X.A (f (.int i t) (.int j u)) Q E s) :
  OpR X f (rI0 fun i j=>.int (g i j)):=by
 intro j0 s σ H x y v u Q I rx ry h;obtain⟨i,j,rfl,rfl,q⟩:=h;obtain⟨t,rfl⟩:=rx;obtain⟨t',rfl⟩:=ry;exact rule i j t t' s _ _ ⟨.int (g i j),H,I.tok _,⟨_,rfl⟩,q⟩
theorem Pn{f:Value->Value->Sem Value}{g:Int->Int->Bool}
  (rule:∀(i j:Int)(t u:Tok)(s:Shared)(Q:Value->Shared->Prop)(E:Value->Shared->Prop),Q (.bool (g i j)) s->wpAny (model X.prog X.w) X.A (f (.int i t) (.int j u)) Q E s) :
  OpR X f (rI0 fun i j=>.bl (g i j)):=by
 intro j0 s σ H x y v u Q I rx ry h;obtain⟨i,j,rfl,rfl,q⟩:=h;obtain⟨t,rfl⟩:=rx;obtain⟨t',rfl⟩:=ry;exact rule i j t t' s _ _ ⟨.bl (g i j),H,I,rfl,q⟩
def Nn(i j:Int):Prop:=0<=j/\j<=1000000/\i.natAbs<2 ^ 64
def JH(i j:Int):Prop:=(-(2 ^ 64)<i/\i<2 ^ 64)\/(-(2 ^ 64)<j/\j<2 ^ 64)
theorem JH.ok{i j:Int}(h:JH i j):IntMulOk i j:=by
 rcases h with⟨h1,h2⟩ |⟨h1,h2⟩
 ·exact .of_left (intBits_le_64 h1 h2)
 ·exact .of_right (intBits_le_64 h1 h2)
theorem oO:OpR X (binaryOp .Add) (rI0 fun i j=>.int (i+j)):=SY fun _ _ _ _ _ _ _ q=>add_int q
theorem HB:OpR X (binaryOp .Sub) (rI0 fun i j=>.int (i - j)):=SY fun _ _ _ _ _ _ _ q=>sub_int q
theorem mP:OpR X (binaryOp .Mult) (rI JH fun i j=>.int (i*j)):=opI fun _ _ _ _ _ _ _ hc q=>mul_int q hc.ok
theorem jD:OpR X (binaryOp .Mod) (rI (fun _ j=>0<j) fun i j=>.int (i % j)):=opI fun i j _ _ _ _ _ hc q=>by
 have h1:(0:Int)<j:=hc;exact mod_int' (by omega) (by rw[Int.fmod_eq_emod_of_nonneg i (by omega)];exact q)
theorem HC:OpR X (binaryOp .Pow) (rI Nn fun i j=>.int (i ^ j.toNat)):=opI fun _ _ _ _ _ _ _ hc q=>pow_int_small hc.1 hc.2.1 hc.2.2 q
theorem unI{f:Value->Sem Value}{g:Int->Int}
  (rule:∀(i:Int)(t:Tok)(s:Shared)(Q:Value->Shared->Prop)(E:Value->Shared->Prop),Q (.int (g i) s.toks) { s with toks:=s.toks+1 }->wpAny (model X.prog X.w) X.A (f (.int i t)) Q E s) :
  UnR X f (rU fun i=>.int (g i)):=by
 intro j0 s σ H x v Q I rx h;obtain⟨i,rfl,q⟩:=h;obtain⟨t,rfl⟩:=rx;exact rule i t s _ _ ⟨.int (g i),H,I.tok _,⟨_,rfl⟩,q⟩
theorem FI:UnR X (unaryOp .USub) (rU fun i=>.int (-i)):=unI fun _ _ _ _ _ q=>neg_int q
end
def KD:V->V->Bool
 | .non,.non=>true | .non,.int _=>true | .int _,.non=>true | .non,.bl _=>true | .bl _,.non=>true | .non,.str _=>true | .str _,.non=>true
 | .int _,.int _=>true | .bl _,.bl _=>true | .str _,.str _=>true | .byt _,.byt _=>true
 | .int _,.str _=>true | .str _,.int _=>true | .bl _,.str _=>true | .str _,.bl _=>true
 | _,_=>false
def rEq:R2:=fun x y H Q=>KD x y=true/\Q (.bl (decide (x=y))) H
def rNe:R2:=fun x y H Q=>KD x y=true/\Q (.bl (!decide (x=y))) H
theorem CC{i j:Int}:decide (V.int i=V.int j) =(i==j):=by
 rw[YU];simp
theorem IU{i j:Bool}:decide (V.bl i=V.bl j) =(i==j):=by
 rw[YU];simp
theorem CB{i j:Str}:decide (V.str i=V.str j) =(i==j):=by
 rw[YU];simp
theorem CD{i j:Array UInt8}:decide (V.byt i=V.byt j) =(i.toList==j.toList):=by
 rw[YU];cases i;cases j;simp
variable{op:CmpOp}{its:List Value}{us:List Value}{y:V}
section
variable{a b c:Expr}{ta tb tc:TE}
theorem aZ{σ:St}{s:Shared}{Q:VK}{k k':Bool}(I:Inv X j0 σ H s)(q:Q (.bl k) H)(e:k=k'):EP X j0 σ Q (.bool k') s:=by
 subst e;exact⟨.bl k,H,I,rfl,q⟩
theorem NQ:OpR X (compareOp .Eq) rEq:=by
 intro j0 s σ H x y v u Q I rx ry h;obtain⟨hs,q⟩:=h;cases x with
 | non =>
  cases rx;cases y with
  | non=>cases ry;exact PySem.EqNone.eq_none_none (aZ I q (by simp))
  | bl j=>cases ry;exact PySem.EqNone.eq_none_bool (aZ I q (by simp))
  | int j=>obtain⟨t',rfl⟩:=ry;exact PySem.EqNone.eq_none_int (aZ I q (by simp))
  | str j=>obtain⟨t',rfl⟩:=ry;exact PySem.EqNone.eq_none_str (aZ I q (by simp))
  | _=>exact absurd (show false=true from hs) Xd
 | bl i =>
  cases rx;cases y with
  | non=>cases ry;exact PySem.EqNone.eq_bool_none (aZ I q (by simp))
  | bl j=>cases ry;exact eq_bool (aZ I q IU)
  | str j=>obtain⟨t',rfl⟩:=ry;exact PySem.EqMixed.eq_bool_str (aZ I q (by simp))
  | _=>exact absurd (show false=true from hs) Xd
 | int i =>
  obtain⟨t,rfl⟩:=rx;cases y with
  | non=>cases ry;exact PySem.EqNone.eq_int_none (aZ I q (by simp))
  | int j=>obtain⟨t',rfl⟩:=ry;exact eq_int (aZ I q CC)
  | str j=>obtain⟨t',rfl⟩:=ry;exact PySem.EqMixed.eq_int_str (aZ I q (by simp))
  | _=>exact absurd (show false=true from hs) Xd
 | str i =>
  obtain⟨t,rfl⟩:=rx;cases y with
  | non=>cases ry;exact PySem.EqNone.eq_str_none (aZ I q (by simp))
  | bl j=>cases ry;exact PySem.EqMixed.eq_str_bool (aZ I q (by simp))
  | int j=>obtain⟨t',rfl⟩:=ry;exact PySem.EqMixed.eq_str_int (aZ I q (by simp))
  | str j=>obtain⟨t',rfl⟩:=ry;exact eq_str (aZ I q CB)
  | _=>exact absurd (show false=true from hs) Xd
 | byt i =>
  obtain⟨t,rfl⟩:=rx;cases y with
  | byt j=>obtain⟨t',rfl⟩:=ry;exact W.eq_bytes (aZ I q CD)
  | _=>exact absurd (show false=true from hs) Xd
 | _=>cases y <;> exact absurd (show false=true from hs) Xd
theorem yO:OpR X (compareOp .NotEq) rNe:=by
 intro j0 s σ H x y v u Q I rx ry h;obtain⟨hs,q⟩:=h;cases x with
 | non =>
  cases rx;cases y with
  | non=>cases ry;exact PySem.EqNone.ne_none_none (aZ I q (by simp))
  | bl j=>cases ry;exact PySem.EqNone.ne_none_bool (aZ I q (by simp))
  | int j=>obtain⟨t',rfl⟩:=ry;exact PySem.EqNone.ne_none_int (aZ I q (by simp))
  | str j=>obtain⟨t',rfl⟩:=ry;exact PySem.EqNone.ne_none_str (aZ I q (by simp))
  | _=>exact absurd (show false=true from hs) Xd
 | bl i =>
  cases rx;cases y with
  | non=>cases ry;exact PySem.EqNone.ne_bool_none (aZ I q (by simp))
  | bl j=>cases ry;exact ne_bool (aZ I q (congrArg not IU))
  | str j=>obtain⟨t',rfl⟩:=ry;exact PySem.EqMixed.ne_bool_str (aZ I q (by simp))
  | _=>exact absurd (show false=true from hs) Xd
 | int i =>
  obtain⟨t,rfl⟩:=rx;cases y with
  | non=>cases ry;exact PySem.EqNone.ne_int_none (aZ I q (by simp))
  | int j=>obtain⟨t',rfl⟩:=ry;exact ne_int (aZ I q (congrArg not CC))
  | str j=>obtain⟨t',rfl⟩:=ry;exact PySem.EqMixed.ne_int_str (aZ I q (by simp))
  | _=>exact absurd (show false=true from hs) Xd
 | str i =>
  obtain⟨t,rfl⟩:=rx;cases y with
  | non=>cases ry;exact PySem.EqNone.ne_str_none (aZ I q (by simp))
  | bl j=>cases ry;exact PySem.EqMixed.ne_str_bool (aZ I q (by simp))
  | int j=>obtain⟨t',rfl⟩:=ry;exact PySem.EqMixed.ne_str_int (aZ I q (by simp))
  | str j=>obtain⟨t',rfl⟩:=ry;exact ne_str (aZ I q (congrArg not CB))
  | _=>exact absurd (show false=true from hs) Xd
 | byt i =>
  obtain⟨t,rfl⟩:=rx;cases y with
  | byt j=>obtain⟨t',rfl⟩:=ry;exact W.ne_bytes (aZ I q (congrArg not CD))
  | _=>exact absurd (show false=true from hs) Xd
 | _=>cases y <;> exact absurd (show false=true from hs) Xd
theorem SW:OpR X (compareOp .Lt) (rI0 fun i j=>.bl (decide (i<j))):=Pn fun _ _ _ _ _ _ _ q=>lt_int q
theorem Ck:OpR X (compareOp .Gt) (rI0 fun i j=>.bl (decide (j<i))):=Pn fun _ _ _ _ _ _ _ q=>gt_int q
theorem SX:OpR X (compareOp .GtE) (rI0 fun i j=>.bl (decide (j<=i))):=Pn fun _ _ _ _ _ _ _ q=>ge_int q
theorem DO:OpR X (compareOp .In) (fun x y H Q=>∃ i j,x = .str i/\y = .str j/\Q (.bl (!(Builtin.Str.occurrences j i 0 j.length 1).isEmpty)) H):=by
 intro j0 s σ H x y v u Q I rx ry h;obtain⟨i,j,rfl,rfl,q⟩:=h;obtain⟨t,rfl⟩:=rx;obtain⟨t',rfl⟩:=ry;exact in_str (aZ I q rfl)
theorem kC:OpR X (compareOp .Is) (fun x y H Q=>y = .non/\Q (.bl (decide (x = .non))) H):=by
 intro j0 s σ H x y v u Q I rx ry h;obtain⟨rfl,q⟩:=h;cases ry;refine is_none_gen (aZ I q ?_);cases x <;> first
  | (cases rx;rfl)
  | (obtain⟨t,rfl⟩:=rx;rfl)
theorem wG:OpR X (compareOp .NotIn) (fun x y H Q=>∃ i j,x = .str i/\y = .str j/\Q (.bl (!(!(Builtin.Str.occurrences j i 0 j.length 1).isEmpty))) H):=by
 intro j0 s σ H x y v u Q I rx ry h;obtain⟨i,j,rfl,rfl,q⟩:=h;obtain⟨t,rfl⟩:=rx;obtain⟨t',rfl⟩:=ry;exact notIn_str (aZ I q rfl)
theorem OpR.or{f:Value->Value->Sem Value}{r r':R2}(h:OpR X f r)(h':OpR X f r'):OpR X f (fun x y H Q=>r x y H Q\/r' x y H Q):=by
 intro j0 s σ H x y v u Q I rx ry q;rcases q with q|q
 ·exact h j0 s σ H x y v u Q I rx ry q
 ·exact h' j0 s σ H x y v u Q I rx ry q
theorem a7(b:Expr)(h:op ≠ .In:=by decide)(h2:op ≠ .NotIn:=by decide):behindInMarks op b=false:=by
 have e1:(op==CmpOp.In)=false:=by cases op <;> first|rfl|exact absurd rfl h
 have e2:(op==CmpOp.NotIn)=false:=by cases op <;> first|rfl|exact absurd rfl h2
 cases b <;> simp[behindInMarks,e1,e2]
theorem LG{r:R2}(ho:OpR X (compareOp op) r)(ha:PE X a ta)(hb:PE X b tb)(hm:behindInMarks op b=false):PE X (.Compare a [op] [b] pos) (tOp r ta tb):=by
 intro j0 s σ H Q I h;exact wpAny_Compare1 (Qk ha hb I h fun v u s2 x y H2 I2 rx ry q=>ho j0 s2 σ H2 x y v u Q I2 rx ry q) hm
def yf(t:TE):TT:=fun σ H Q=>t σ H fun x H'=>∃ k,x = .bl k/\Q k H'
theorem lN{r:R2}(ho:OpR X (compareOp op) r)(ha:PE X a ta)(hb:PE X b tb)(hm:behindInMarks op b=false):PT X (.Compare a [op] [b] pos) (yf (tOp r ta tb)):=by
 intro j0 s σ H Q I h;refine wpAny_isTrue_Compare1 (thn (ha j0 s σ H _ I h) fun v s1 ⟨x,H1,I1,r1,q1⟩=>thn (hb j0 s1 σ H1 _ I1 q1) fun u s2 ⟨y,H2,I2,r2,q2⟩ =>
  thn (ho j0 s2 σ H2 x y v u _ I2 r1 r2 q2) fun c s3 ⟨z,H3,I3,r3,k,e,q3⟩=>?_) hm
 subst e;cases r3;exact wpAny_truthy_bool ⟨H3,I3,q3⟩
def M9(K:W.Frag)(x:V)(H:Hp)(k:Bool):Prop :=
 match x with
 | .non=>k=false
 | .bl b=>k=b
 | .int i=>k =(i != 0)
 | .str y=>y.length<=WT/\k =((y.length:Int) != 0)
 | .byt y=>y.size<=WT/\k =((y.size:Int) != 0)
 | .ref p=>(∃ xs,SqL K H p xs/\k = !xs.isEmpty)\/(∃ xs,SqT K H p xs/\k = !xs.isEmpty)\/∃ kvs,H p=some (.dK kvs)/\k = !kvs.isEmpty
 | _=>False
theorem Bb{κ:Type}{kvs:List (κ×V)}{vs:List (κ×Value)}(r:KV kvs vs):(!vs.isEmpty) = !kvs.isEmpty:=by
 cases r <;> rfl
theorem sN(r:Vals xs its):(!its.toArray.isEmpty) = !xs.isEmpty:=by
 cases r <;> simp
theorem jH:(WT:Nat)<2 ^ 63:=by rw[Yo];decide
theorem Oj:WQ X (fun x H Q=>∃ k,M9 X.K x H k/\Q k H):=by
 intro j0 s σ H x v Q I rx h;obtain⟨k,e,q⟩:=h;have hl:=jH;have hs:WT=16777216:=Yo;cases x with
 | non =>
  cases rx;have e':k=false:=e;subst e';exact truthy_none ⟨H,I,q⟩
 | bl b =>
  cases rx;have e':k=b:=e;subst e';exact wpAny_truthy_bool ⟨H,I,q⟩
 | int i =>
  obtain⟨t,rfl⟩:=rx;have e':k =(i != 0):=e;subst e';exact PySem.P.truthy_int ⟨H,I,q⟩
 | str y =>
  obtain⟨t,rfl⟩:=rx;obtain⟨hy,e'⟩:y.length<=WT/\k =((y.length:Int) != 0):=e;subst e';exact PySem.P.truthy_str (by omega) ⟨H,I.tok _,q⟩
 | byt y =>
  obtain⟨t,rfl⟩:=rx;obtain⟨hy,e'⟩:y.size<=WT/\k =((y.size:Int) != 0):=e;subst e';exact W.truthy_bytes (by omega) ⟨H,I.tok _,q⟩
 | ref p =>
  cases rx;have e':(∃ xs,SqL X.K H p xs/\k = !xs.isEmpty)\/(∃ xs,SqT X.K H p xs/\k = !xs.isEmpty)\/∃ kvs,H p=some (.dK kvs)/\k = !kvs.isEmpty:=e
  rcases e' with⟨xs,hx,e'⟩ |⟨xs,hx,e'⟩ |⟨kvs,hx,e'⟩
  ·subst e';obtain⟨its,r,pl,hz⟩:=I.list hx;have hlen:=r.length;exact wpAny_truthy_list pl.isList (by simp only[Wc];omega) ⟨H,I.tok _,by rw[sN r];exact q⟩
  ·subst e';obtain⟨its,r,pl,hz⟩:=I.tuple hx;have hlen:=r.length;exact truthy_tuple pl (by simp only[Wc];omega) ⟨H,I.tok _,by rw[sN r];exact q⟩
  ·subst e';obtain⟨hz,hS,vs,r,m⟩:kvs.length<=WT/\(p==sysModules)=false/\∃ vs,KV kvs vs/\s.heap.DictOf (br X.prog X.w) p vs:=I.hok p _ hx
   have hlen:kvs.length=vs.length:=Paired.length r;exact wpAny_truthy_dict hS m (by omega) ⟨H,I.tok _,by rw[Bb r];exact q⟩
 | _=>exact(show False from e).elim
theorem He(ha:PE X a ta)(he:∀ whole,isTrue a X.env whole =(do let v <- whole;standAt a.pos;holding [v] (truthy v))) :
  PT X a (fun σ H Q=>ta σ H fun x H'=>∃ k,M9 X.K x H' k/\Q k H'):=by
 intro j0 s σ H Q I h;exact isTrue_plain (thn (ha j0 s σ H _ I h) fun v s1 ⟨x,H1,I1,r1,q1⟩=>Oj j0 s1 σ H1 x v Q I1 r1 q1) (he _)
theorem AI:OpR X (binaryOp .Add) (fun x y H Q=>∃ i j,x = .str i/\y = .str j/\i.length+j.length<=WT/\Q (.str (i++j)) H):=by
 intro j0 s σ H x y v u Q I rx ry h;obtain⟨i,j,rfl,rfl,hz,q⟩:=h;obtain⟨t,rfl⟩:=rx;obtain⟨t',rfl⟩:=ry;exact add_str (fun t' tk=>⟨.str (i++j),H,I.tok _,⟨_,rfl⟩,q⟩) hz
theorem vals1{x:V}(r:Vals [x] us):∃ u,us = [u]/\RelV x u:=by
 cases r with
 | cons r1 r2=>cases r2;exact⟨_,rfl,r1⟩
theorem vals2{x:V}(r:Vals [x,y] us):∃ u w',us = [u,w']/\RelV x u/\RelV y w':=by
 cases r with
 | cons r1 r2 =>
  cases r2 with
  | cons r3 r4=>cases r4;exact⟨_,_,rfl,r1,r3⟩
theorem vg(hc:X.calm=true):c7 X (.builtin "max") (fun xs H Q=>∃ i j,xs = [.int i,.int j]/\Q (.int (if j > i then j else i)) H):=by
 intro j0 s σ H xs us Q I r h;obtain⟨i,j,rfl,q⟩:=h;obtain⟨u,w',rfl,⟨t,rfl⟩,⟨t',rfl⟩⟩:=vals2 r;refine max_two_ints (I.ok.hd hc) fun h' tk k=>⟨_,H,I.kept k,?_,q⟩
 by_cases hj:j > i
 ·rw[if_pos hj,if_pos hj];exact⟨_,rfl⟩
 ·rw[if_neg hj,if_neg hj];exact⟨_,rfl⟩
theorem vf(hc:X.calm=true):c7 X (.builtin "min") (fun xs H Q=>∃ i j,xs = [.int i,.int j]/\Q (.int (if j<i then j else i)) H):=by
 intro j0 s σ H xs us Q I r h;obtain⟨i,j,rfl,q⟩:=h;obtain⟨u,w',rfl,⟨t,rfl⟩,⟨t',rfl⟩⟩:=vals2 r;refine min_two_ints (I.ok.hd hc) fun h' tk k=>⟨_,H,I.kept k,?_,q⟩
 by_cases hj:j<i
 ·rw[if_pos hj,if_pos hj];exact⟨_,rfl⟩
 ·rw[if_neg hj,if_neg hj];exact⟨_,rfl⟩
theorem pk:c7 X (.type "int") (fun xs H Q=>(∃ i,xs = [.int i]/\Q (.int i) H)\/∃ k,xs = [.bl k]/\Q (.int (if k then 1 else 0)) H):=by
 intro j0 s σ H xs us Q I r h;rcases h with⟨i,rfl,q⟩ |⟨k,rfl,q⟩
 ·obtain⟨u,rfl,t,rfl⟩:=vals1 r;exact call_int_int ⟨.int i,H,I,⟨_,rfl⟩,q⟩
 ·obtain⟨u,rfl,r1⟩:=vals1 r;cases r1;exact call_int_bool ⟨.int (if k then 1 else 0),H,I.tok _,⟨_,rfl⟩,q⟩
end
structure BE(h:Heap)(x dx C:Addr)(mA:Str->Option Value):Prop where
 obj:h.get? x=some (W.instObj C dx)
 ns:h.Ns1 dx mA
 ne:dx≠x
variable{dx:Addr}{mA:Str->Option Value}
theorem Ea{h:Heap}(n:h.Ns1 dx mA):∃ od,h.get? dx=some od/\∀ name,W.lookIn name od=some (mA name):=by
 obtain⟨o,es,ep,ho,hd,hk,_,hm⟩:=n;refine⟨o,ho,fun name=>?_⟩
 have e:=hm name;unfold nsFind findBy at e;rw[<- Array.find?_toList]at e;unfold W.lookIn;rw[hd];dsimp only
 split
 ·rename_i y q;rw[q]at e;exact congrArg some e
 ·rename_i q;rw[q]at e;have a:es.toList.any (·.refKey)=false:=by
   rw[ZF];intro y hy;obtain⟨z,t,Wq⟩:=hk y (Array.mem_toList_iff.mp hy);simp[DictEntry.refKey,Wq]
  have a':¬ es.toList.any (·.refKey)=true:=by rw[a];exact Xd
  rw[if_neg a'];exact congrArg some e
variable{C:Addr}
theorem BE.look{h:Heap}{x:Addr}(I:BE h x dx C mA):∃ od,W.InstAt h x (W.instObj C dx) C (some od)/\∀ name,W.lookIn name od=some (mA name) :=
 let⟨od,ho,hl⟩:=Ea I.ns
 ⟨od,⟨I.obj,rfl,rfl,ho⟩,hl⟩
variable{R:Result->Shared->Prop}{kw:List (Str×Value)}
section
variable{prog:Program}{w:World}{s:Shared}{K:W.Frag}{x f:Addr}{name:Str}{v:Value}
theorem get_map{expr:Bool}(X:K.In s.heap)(I:BE s.heap x dx C mA)(hg:W.plainGet K C name=true)(hh:W.hasDictIn K C=true)
  (ha:W.findIn K (.ref C) name=some none) (hv:mA name=some v) (hv':W.handedIn v=true) (h:Q v { s with toks:=s.toks+1 }) :
  wpAny (model prog w) A (getAttr (.ref x) name expr) Q E s:=by
 obtain⟨od,J,hl⟩:=I.look;exact W.get_value X J (W.plainGet_of hg).1 (W.findObj_own hh ha rfl (by rw[hl,hv])) hv' h
theorem IE{pl:Sem Bool}{Q:Value×List Value->Shared->Prop}(X:K.In s.heap)(I:BE s.heap x dx C mA)(hg:W.plainGet K C name=true)
  (hf:W.findIn K (.ref C) name=some (some (.ref f))) (ht:W.isFn K (.ref f)=true) (hv:mA name=none) (h:Q (.ref f,[.ref x]) s) :
  wpAny (model prog w) A (getMethod (.ref x) name pl) Q E s:=by
 obtain⟨od,J,hl⟩:=I.look;exact W.method_fn X J (W.plainGet_of hg).1 (W.plainGet_of hg).2 hf (beq_iff_eq.mp ht) (by show(W.lookIn name od).map (·.isSome)=some false;rw[hl,hv];rfl) h
theorem KC{ns:List Str}{Q:Unit->Shared->Prop}(X:K.In s.heap)(I:BE s.heap x dx C mA)
  (hs:W.findIn K (.ref C) "__setattr__" = some (some (.builtin "object.__setattr__"))) (hp:W.plainOver K C=true) (ht:W.takerIn K C name=some none) (hh:W.hasDictIn K C=true)
  (hw:PySem.Within mA ns) (hsz:ns.length<=WT)
  (h:∀ h',BE h' x dx C (fun y=>if y=name then some v else mA y)->X1 dx s.heap h'->Q () { s with heap:=h',toks:=s.toks+2 }) :
  wpAny (model prog w) A (setAttr (.ref x) name v) Q E s:=by
 obtain⟨od,J,hl⟩:=I.look;refine W.set_plain X J hs (W.osa_open (s:={ s with toks:=s.toks+1 }) (r:=none) X J hp ht fun b=>?_)
 obtain⟨cd,hc,hd'⟩:=W.any_some hh;have hx:s.heap.get? x=some ⟨.ref C,some dx,.plain,#[]⟩:=I.obj;refine j2 (TH (j2 (j2 (wpAny_loadPart hx (j2 (W.Looks.here (s:={ s with toks:=s.toks+1 }) (W.looks_clsIn X hc) ?_))))))
 rw[hd'];refine TH (a:=some dx) (j2 (TH (j2 ?_)));refine wpAny_nsSet1 (s:={ s with toks:=s.toks+1 }) I.ns fun h' hn2 hs2=>?_
 obtain⟨oD,esD,epD,hoD,hdD,hcD⟩:=hn2.count (PySem.Within.cons name v hw);refine j2 (wpAny_lookBehind hoD (by rw[hdD];exact pastItsLine_dict (Xw hcD (by rw[Xn];omega))) ?_)
 exact TH (h _ ⟨(hs2.2 _ (Ne.symm I.ne)).trans I.obj,hn2,I.ne⟩ hs2)
theorem HW{vs:List Value}(X:K.In s.heap)(hm:W.makesIn K C=true)
  (hi:W.findIn K (.ref C) "__init__" = some (some (.ref f))) (hf:W.typeIn K (.ref f)=some (.type "function"))
  (h:codeAny (model prog w) (A.under (.builtin "type.__call__" ⟨.ref C::vs,kw⟩)) (.call (.ref f) ⟨.ref (s.heap.objs.size+1)::vs,kw⟩) (W.InitBack (s.heap.objs.size+1) R)
   { s with heap:=(s.heap.push W.emptyDict).push (W.instObj C s.heap.objs.size) }) :
  codeAny (model prog w) A (.call (.ref C) ⟨vs,kw⟩) R s:=by
 obtain⟨hh,g,d,t,os⟩:=s;exact W.make_core (W.makes_of X hm) (W.looks_findIn X hi) (fun self=>W.bind_fn X self hf) (.inl rfl) h
end
def dD(f:Str)(v:V):List (Str×V)->List (Str×V)
 | []=>[(f,v)]
 | (g,x)::r=>if g=f then(g,v)::r else(g,x)::dD f v r
theorem pH(f g:Str)(v:V):∀ fs:List (Str×V),(dD f v fs).lookup g=if g=f then some v else fs.lookup g
 | []=>by
  show Yk g [(f,v)]=_;by_cases h:g=f
  ·have hb:(g==f)=true:=beq_iff_eq.mpr h;simp only[Yk,hb,if_pos h]
  ·have hb:(g==f)=false:=beq_eq_false_iff_ne.mpr h;simp only[Yk,hb,if_neg h]
 | (k,x)::r=>by
  have ih:=pH f g v r;rw[show dD f v ((k,x)::r) =(if k=f then(k,v)::r else(k,x)::dD f v r)from rfl]
  by_cases hk:k=f
  ·rw[if_pos hk];by_cases h:g=k
   ·have hb:(g==k)=true:=beq_iff_eq.mpr h;simp only[Yk,hb,if_pos (h.trans hk)]
   ·have hb:(g==k)=false:=beq_eq_false_iff_ne.mpr h;simp only[Yk,hb,if_neg (fun e:g=f=>h (e.trans hk.symm))]
  ·rw[if_neg hk];by_cases h:g=k
   ·have hb:(g==k)=true:=beq_iff_eq.mpr h;simp only[Yk,hb,if_neg (fun e:g=f=>hk (h.symm.trans e))]
   ·have hb:(g==k)=false:=beq_eq_false_iff_ne.mpr h;simp only[Yk,hb];exact ih
theorem oU(f:Str)(v:V):∀ fs:List (Str×V),f∈(dD f v fs).map (·.1)/\∀ g,g∈fs.map (·.1)->g∈(dD f v fs).map (·.1)
 | []=>⟨by simp[dD],fun g h=>by simp at h⟩
 | (k,x)::r=>by
  obtain⟨i1,i2⟩:=oU f v r;rw[show dD f v ((k,x)::r) =(if k=f then(k,v)::r else(k,x)::dD f v r)from rfl]
  by_cases hk:k=f
  ·rw[if_pos hk];subst hk;exact⟨by simp,fun g h=>by simpa using h⟩
  ·rw[if_neg hk];refine⟨?_,fun g h=>?_⟩
   ·rw[Xs];exact Es _ i1
   ·rw[Xs]at h ⊢;rcases QH.mp h with e|e
    ·exact QH.mpr (.inl e)
    ·exact Es _ (i2 g e)
theorem pI(f:Str)(v:V):∀ fs:List (Str×V),(dD f v fs).length<=fs.length+1
 | []=>by simp[dD]
 | (k,x)::r=>by
  have ih:=pI f v r;rw[show dD f v ((k,x)::r) =(if k=f then(k,v)::r else(k,x)::dD f v r)from rfl]
  by_cases hk:k=f
  ·rw[if_pos hk,Xn,Xn];omega
  ·rw[if_neg hk,Xn,Xn];omega
theorem j7.some_of{v:V}{o:Option Value}(r:j7 (some v) o):∃ u,o=some u/\RelV v u:=by
 cases o with
 | none=>exact(show False from r).elim
 | some u=>exact⟨u,rfl,r⟩
theorem j7.none_of{o:Option Value}(r:j7 none o):o=none:=by
 cases o with
 | none=>rfl
 | some u=>exact(show False from r).elim
theorem Ek{v:V}(r:RelV v u):W.handedIn u=true:=by
 cases v with
 | non=>cases(show u=Value.none from r);rfl
 | bl b=>cases(show u=Value.bool b from r);rfl
 | int i=>obtain⟨t,e⟩:=(show ∃ t,u=Value.int i t from r);cases e;rfl
 | str x=>obtain⟨t,e⟩:=(show ∃ t,u=Value.str x t from r);cases e;rfl
 | byt b=>obtain⟨t,e⟩:=(show ∃ t,u=Value.bytes b t from r);cases e;rfl
 | flt b=>obtain⟨t,e⟩:=(show ∃ t,u=Value.float b t from r);cases e;rfl
 | ref a=>cases(show u=Value.ref a from r);rfl
 | ty n=>cases(show u=Value.type n from r);rfl
section
variable{w:World}{h h':Heap}{fs fs':List (Str×V)}
theorem xj(hok:HOk P w H h)(e:H a=some (.ins C dx fs)):∃ mA,BE h a dx C mA/\(∀ f,j7 (fs.lookup f) (mA f))/\PySem.Within mA (fs.map (·.1))/\fs.length<=1000/\H dx=some (.own a):=by
 obtain⟨d,z,ne,ob,mA,n,r,q⟩:=(show bH P w H h a (.ins C dx fs)from hok a _ e);exact⟨mA,⟨ob,n,ne⟩,r,q,z,d⟩
end
structure Cls(K:W.Frag)(C:Addr):Prop where
 pg:W.plainGet K C Str.empty=true
 hd:W.hasDictIn K C=true
 po:W.plainOver K C=true
 sa:W.findIn K (.ref C) "__setattr__" = some (some (.builtin "object.__setattr__"))
theorem Cls.get{K:W.Frag}{C:Addr}(c:Cls K C)(f:Str):W.plainGet K C f=true:=c.pg
def bw(K:W.Frag)(C:Addr)(f:Str):Prop:=W.findIn K (.ref C) f=some none
theorem bw.Rz{K:W.Frag}{f:Str}(n:bw K C f):W.takerIn K C f=some none:=by
 unfold W.takerIn;rw[show W.findIn K (.ref C) f=some none from n];rfl
structure Meth(K:W.Frag)(C:Addr)(m:Str)(f:Addr):Prop where
 at_:W.findIn K (.ref C) m=some (some (.ref f))
 fn:W.isFn K (.ref f)=true
 kp:W.keepIn K (.ref f)=true
variable{prog:Program}{env:Env}
section
variable{σ:St}{s:Shared}{fs:List (Str×V)}{f:Str}{v:V}
theorem mV{b:Bool}(I:Inv X j0 σ H s)(e:H a=some (.ins C dx fs))(c:Cls X.K C)(n:bw X.K C f)(l:fs.lookup f=some v)
  (h:∀ u s',Inv X j0 σ H s'->RelV v u->Q u s'):wpAny (model X.prog X.w) A (getAttr (.ref a) f b) Q E s:=by
 obtain⟨mA,O,r,_,_,_⟩:=xj I.hok e;obtain⟨u,hu,ru⟩:=j7.some_of (v:=v) (o:=mA f) (by rw[<- l];exact r f)
 exact get_map I.kIn O (c.get f) c.hd n hu (Ek ru) (h u _ (I.tok _) ru)
theorem sS{m:Str}{g:Addr}{pl:Sem Bool}{Q:Value×List Value->Shared->Prop}(I:Inv X j0 σ H s)(e:H a=some (.ins C dx fs))(c:Cls X.K C)(k:Meth X.K C m g)(l:fs.lookup m=none)
  (h:Q (.ref g,[.ref a]) s):wpAny (model X.prog X.w) A (getMethod (.ref a) m pl) Q E s:=by
 obtain⟨mA,O,r,_,_,_⟩:=xj I.hok e;have hn:mA m=none:=j7.none_of (by rw[<- l];exact r m)
 exact IE I.kIn O (c.get m) k.at_ k.fn hn h
theorem qV{Q:Unit->Shared->Prop}(I:Inv X j0 σ H s)(e:H a=some (.ins C dx fs))(c:Cls X.K C)(n:bw X.K C f)(hl:fs.length<1000)(ry:RelV y u)
  (h:∀ s',Inv X j0 σ (upd H a (.ins C dx (dD f y fs))) s'->Q () s'):wpAny (model X.prog X.w) A (setAttr (.ref a) f u) Q E s:=by
 obtain⟨mA,O,r,wi,_,ho⟩:=xj I.hok e;have hz:(fs.map (·.1)).length<=WT:=by rw[PZ,Yo];omega
 refine KC I.kIn O c.sa c.po n.Rz c.hd wi hz fun h' O' sb=>h _ ?_
 have hd:∃ o,h'.get? dx=some o:=let⟨o,_,_,e',_⟩:=O'.ns;⟨o,e'⟩
 refine I.write (x:=a) (e:=dx) (by rw[e];exact True.intro) (.inr ho) (fun b q hb z=>(sb.2 b hb).trans z) hd ?_
 refine⟨by rw[ai O.ne];exact ho,?_,O.ne,O'.obj,_,O'.ns,fun g=>?_,fun g hg=>?_⟩
 ·have:=pI f y fs;omega
 ·show j7 ((dD f y fs).lookup g) (if g=f then some u else mA g)
  rw[pH];by_cases q:g=f
  ·rw[if_pos q,if_pos q];exact ry
  ·rw[if_neg q,if_neg q];exact r g
 ·by_cases q:g=f
  ·rw[q];exact(oU f y fs).1
  ·refine(oU f y fs).2 g (wi g fun z=>hg ?_)
   show(if g=f then some u else mA g)=none
   rw[if_neg q];exact z
theorem Inv.made(I:Inv X j0 σ H s):Inv X j0 σ (upd (upd H s.heap.objs.size (.own (s.heap.objs.size+1))) (s.heap.objs.size+1) (.ins C s.heap.objs.size []))
  { s with heap:=(s.heap.push W.emptyDict).push (W.instObj C s.heap.objs.size) }:=by
 have e1:(s.heap.push W.emptyDict).get? s.heap.objs.size=some W.emptyDict:=W8 s.heap rfl;have e2:((s.heap.push W.emptyDict).push (W.instObj C s.heap.objs.size)).get? (s.heap.objs.size+1)=some (W.instObj C s.heap.objs.size):=by
  have:=W8 (s.heap.push W.emptyDict) (o:=W.instObj C s.heap.objs.size) rfl
  rwa [Xq]at this
 have e3:(s.heap.push W.emptyDict).Ns s.heap.objs.size (fun _=>none):=⟨W.emptyDict,#[],_,e1,rfl,(fun e he=>absurd he (by simp)),fun _=>rfl⟩
 have I1:=I.laid (a:=s.heap.objs.size) (o:=.own (s.heap.objs.size+1)) (h':=s.heap.push W.emptyDict) (t':=s.toks) (fun b u q=>j3 _ q) (Xa _) ⟨_,e1⟩
 refine I1.laid (a:=s.heap.objs.size+1) (o:=.ins C s.heap.objs.size []) (t':=s.toks) (fun b u q=>j3 _ q) (Nat.le_of_eq (Xq _ _)) ?_
 have ne:s.heap.objs.size≠s.heap.objs.size+1:=Xo (XE _);refine⟨by rw[ai ne,aw],XU _,ne,e2,fun _=>none,(Heap.Ns1.of_empty e3).at fun o q=>j3 _ q,fun _=>True.intro,fun y hy=>absurd rfl hy⟩
theorem CU{w:World}{f:Str}{s:Shared}(hb:attributeBase e f env (eval e env)=eval e env)
  (h:wpAny (model prog w) A (eval e env) (fun o s₁=>wpAny (model prog w) A (getAttr o f true) Q E s₁) E s):wpAny (model prog w) A (eval (.Attribute e f pos) env) Q E s :=
 Attribute_any_ h (by rw[arm_eval_Attribute,hb])
end
def Om(K:W.Frag)(ta:TE)(f:Str):TE:=fun σ H Q=>ta σ H fun x H1=>∃ a C dx fs v,x = .ref a/\H1 a=some (.ins C dx fs)/\Cls K C/\bw K C f/\fs.lookup f=some v/\Q v H1
def RP(K:W.Frag)(ta tv:TE)(f:Str):TS:=fun D σ H=>tv σ H fun y H1=>ta σ H1 fun x H2=>∃ a C dx fs,x = .ref a/\H2 a=some (.ins C dx fs)/\Cls K C/\bw K C f/\fs.length<1000 /\
 D.nx σ (upd H2 a (.ins C dx (dD f y fs)))
def Qs(X:Cx)(op:Operator)(rd:V->V->Hp->VK->Prop):Prop :=
 ∀(j0:List (Addr×Obj))(s:Shared)(σ:St)(H:Hp)(x y:V)(u v:Value)(Q:VK),Inv X j0 σ H s->RelV x u->RelV y v->rd x y H Q->wpAny (model X.prog X.w) X.A (inplaceOp op u v) (EP X j0 σ Q) X.xe s
def BY(K:W.Frag)(ta tv:TE)(rd:V->V->Hp->VK->Prop)(f:Str):TS:=fun D σ H=>ta σ H fun x H1=>∃ a C dx fs v,x = .ref a/\H1 a=some (.ins C dx fs)/\Cls K C/\bw K C f/\fs.lookup f=some v /\
 tv σ H1 fun y H2=>rd v y H2 fun z H3=>∃ dx' fs',H3 a=some (.ins C dx' fs')/\fs'.length<1000/\D.nx σ (upd H3 a (.ins C dx' (dD f z fs')))
section
variable{value:Expr}{f:Str}{FN:Pos}{ta tv:TE}
theorem Hz(he:PE X e ta)(hb:attributeBase e f X.env (eval e X.env)=eval e X.env):PE X (.Attribute e f pos) (Om X.K ta f):=by
 intro j0 s σ H Q I h;refine CU hb (thn (he j0 s σ H _ I h) fun u s1 hPP=>?_)
 obtain⟨x,H1,I1,rx,a,C,dx,fs,v,ex,ea,c,n,l,q⟩:=hPP;subst ex;obtain rfl:u=Value.ref a:=rx;exact mV I1 ea c n l fun u' s2 I2 ru=>⟨v,H1,I2,ru,q⟩
theorem v9(ha:PE X o ta)(hv:PE X value tv)(hs:swapsWith value (some (.Attribute o f pos')) pos.line X.env=pure false):PS X (.Assign [.Attribute o f pos'] value pos) (RP X.K ta tv f):=by
 intro j0 s σ H D I h;refine plainObj_wpAny_Assign_Attribute (thn (hv j0 s σ H _ I h) fun u s1 ⟨y,H1,I1,ry,q⟩=>thn (ha j0 s1 σ H1 _ I1 q) fun ov s2 hPP=>?_) hs
 obtain⟨x,H2,I2,rx,a,C,dx,fs,ex,ea,c,n,l,q2⟩:=hPP;subst ex;obtain rfl:ov=Value.ref a:=rx;exact qV I2 ea c n l ry fun s3 I3=>⟨σ,_,I3,q2⟩
theorem DE{op:Operator}{rd:V->V->Hp->VK->Prop}(ha:PE X o ta)(hv:PE X value tv)(hop:Qs X op rd):PS X (.AugAssign (.Attribute o f FN) op value pos) (BY X.K ta tv rd f):=by
 intro j0 s σ H D I h;refine wpAny_AugAssign_AttributeAny (thn (ha j0 s σ H _ I h) fun ov s1 hPP=>?_)
 obtain⟨x,H1,I1,rx,a,C,dx,fs,v,ex,ea,c,n,l,q⟩:=hPP;subst ex;obtain rfl:ov=Value.ref a:=rx;refine mV I1 ea c n l fun u s2 I2 ru=>thn (hv j0 s2 σ H1 _ I2 q) fun w3 s3 ⟨y,H2,I3,ry,q3⟩=>thn (hop j0 s3 σ H2 v y u w3 _ I3 ru ry q3) fun w4 s4 hPP=>?_
 obtain⟨z,H3,I4,rz,dx',fs',ea',l',q4⟩:=hPP;exact qV I4 ea' c n l' rz fun s5 I5=>⟨σ,_,I5,q4⟩
def OM:V->V->Hp->VK->Prop:=fun x y H Q=>∃ i j,x = .int i/\y = .int j/\Q (.int (i+j)) H
theorem Bc:Qs X .Add OM:=by
 rintro j0 s σ H x y u v Q I rx ry ⟨i,j,rfl,rfl,q⟩
 obtain⟨t,rfl⟩:=(show ∃ t,u=Value.int i t from rx)
 obtain⟨t',rfl⟩:=(show ∃ t',v=Value.int j t' from ry)
 exact PyProof.Rows.iadd_int ⟨.int (i+j),H,I.tok _,⟨_,rfl⟩,q⟩
end
structure bT(k:Nat)(A:Around):Prop where
 hd:A.handled=none
 dp:A.depth+3*k+5<recursionLimit
 un:A.units+16*k+200<cLine
theorem bT.mono{k:Nat}(r:bT k A)(h:j<=k):bT j A:=⟨r.hd,by have:=r.dp;omega,by have:=r.un;omega⟩
theorem bT.deeper{k:Nat}{A:Around}(r:bT (k+1) A)(env:Env):bT k (A.deeper env) :=
 ⟨r.hd,by have:=r.dp;show A.depth+1+3*k+5<_;omega,by have:=r.un;show A.units+3+16*k+200<_;omega⟩
theorem AW:(A.under (.builtin "type.__call__" ⟨.ref C::us,kw⟩)).depth=A.depth+1:=by
 first|rfl|simp[ZG,Code.weight,Code.isCreation,Code.isGuard,Code.isCaller,Code.frames,Code.isFrame,guardIds]
theorem AV:(A.under (.builtin "type.__call__" ⟨.ref C::us,kw⟩)).units=A.units+1:=by
 first|rfl|simp[ZG,Code.cUnits,Code.frames,Code.isFrame]
theorem bT.make{k:Nat}{A:Around}(r:bT (k+1) A)(C:Addr)(us:List Value)(kw:List (Str×Value)):bT k (A.under (.builtin "type.__call__" ⟨.ref C::us,kw⟩)) :=
 ⟨r.hd,by have:=r.dp;rw[AW];omega,by have:=r.un;rw[AV];omega⟩
theorem bT.depth{k:Nat}{A:Around}(r:bT k A):A.depth<recursionLimit:=by have:=r.dp;omega
theorem bT.units{k:Nat}{A:Around}(r:bT k A):A.units+64<cLine:=by have:=r.un;omega
def iS:TA:=fun _ H Q=>Q [] H
def fY(ta:TE)(tr:TA):TA:=fun σ H Q=>ta σ H fun x H1=>tr σ H1 fun xs H2=>Q (x::xs) H2
section
variable{t:TA}
theorem gN:PA X [] iS:=fun _ _ _ _ H Q I h=>Calls.spliced_nil ⟨[],H,I,.nil,h⟩
theorem bV(ha:PE X e te)(hr:PA X es t)(hs:QX (e::es) X.env =(false,eval e X.env)::QX es X.env:=by rfl):PA X (e::es) (fY te t):=by
 intro pos j0 s σ H Q I h;rw[hs];show wpAny _ _ (spliced ((false,eval e X.env)::backTo pos (QX es X.env))) _ _ s;refine Calls.spliced_cons (thn (ha j0 s σ H _ I h) fun u s1 hPP=>?_)
 obtain⟨x,H1,I1,r1,q1⟩:=hPP;refine thn (hr pos j0 s1 σ H1 _ I1 q1) fun us s2 hPP=>?_
 obtain⟨xs,H2,I2,r2,q2⟩:=hPP;exact⟨x::xs,H2,I2,.cons r1 r2,q2⟩
def RB(t:TA):TE:=fun σ H Q=>t σ H fun xs H1=>xs.length<=WT/\∀ p,H1 p=none->Q (.ref p) (upd H1 p (.tup xs))
def RD(t:TA):TE:=fun σ H Q=>t σ H fun xs H1=>xs.length<=WT/\∀ p,H1 p=none->Q (.ref p) (upd H1 p (.lst xs))
theorem Pf{x1}(h:PA X es t):PE X (.Tuple es x1 pos) (RB t):=by
 intro j0 s σ H Q I hq;refine wpAny_Tuple_spliced (thn (h pos j0 s σ H _ I hq) fun us s1 ⟨xs,H1,I1,r,z,q⟩=>⟨by rw[<- r.length];exact z,?_⟩)
 have hf:H1 s1.heap.objs.size=none:=I1.hok.fresh (Xa _);refine⟨.ref s1.heap.objs.size,upd H1 s1.heap.objs.size (.tup xs),I1.laid (t':=s1.toks) (fun b u e=>j3 _ e) (Xa _) ?_,rfl,q _ hf⟩
 exact⟨z,us,r,⟨⟨_,W8 _ rfl,rfl,_,rfl⟩,_,W8 _ rfl,rfl⟩⟩
theorem Pj(h:PA X es t):PE X (.List es pos) (RD t):=by
 intro j0 s σ H Q I hq;refine wpAny_List_spliced (thn (h pos j0 s σ H _ I hq) fun us s1 ⟨xs,H1,I1,r,z,q⟩=>⟨by rw[<- r.length];exact z,?_⟩)
 have hf:H1 s1.heap.objs.size=none:=I1.hok.fresh (Xa _);refine⟨.ref s1.heap.objs.size,upd H1 s1.heap.objs.size (.lst xs),I1.laid (t':=s1.toks) (fun b u e=>j3 _ e) (Xa _) ?_,rfl,q _ hf⟩
 exact⟨z,us,0,r,W8 _ rfl⟩
end
abbrev Sp:=List V->Hp->VK->XK->Prop
abbrev CXT:=List Env->Hp->Shared->XK->Value->Shared->Prop
structure BI(P:Program)(w:World)(K:W.Frag)(mg:Str->Option Value)(base:Heap)(A:Around)(outer:List Env)(s:Shared)(H:Hp):Prop where
 frames:A.frames=some outer
 mod:Mod K mg base
 bs:∀ b o,base.get? b=some o->s.heap.get? b=some o/\H b=none
 bsz:base.objs.size<=s.heap.objs.size
 p8:s.heap.FunFrames base outer
 frf:∀ b∈frs outer,H b=none
 hok:HOk P w H s.heap
 bare:AllBare s.gens
def CE(outer:List Env)(P:Program)(w:World)(H:Hp)(s:Shared)(Q:VK)(u:Value)(s':Shared):Prop :=
 ∃ v H',s'.os=s.os/\AllBare s'.gens/\Un (frs outer) [] H H' s.heap s'.heap/\HOk P w H' s'.heap/\RelV v u/\Q v H'
def CR(CX:CXT)(outer:List Env)(P:Program)(w:World)(H:Hp)(s:Shared)(Q:VK)(E:XK)(r:Result)(s':Shared):Prop :=
 match r with
 | .ok (.ret u)=>CE outer P w H s Q u s'
 | .ok _=>False
 | .error e=>CX outer H s E e s'
structure aP(P:Program)(w:World)(K:W.Frag)(mg:Str->Option Value)(base:Heap)(CX:CXT)(k:Nat)(f:Addr)(fd:FuncData)(ps:List Str)(sp:Sp):Prop where
 len:∀ vs H Q E,sp vs H Q E->vs.length=ps.length
 run:∀(A:Around)(outer:List Env)(s:Shared)(H:Hp)(args:Args)(us:List Value)(vs:List V)(Q:VK)(E:XK),bT k A->BI P w K mg base A outer s H->BindsTo s fd args (ps.zip us)->Vals vs us->sp vs H Q E ->
  codeAny (model P w) A (.call (.ref f) args) (CR CX outer P w H s Q E) s
variable{mg:Str->Option Value}{base:Heap}{CX:CXT}{fd:FuncData}{sp:Sp}
theorem aP.imp{w:World}{K:W.Frag}{k:Nat}{f:Addr}{ps:List Str}{sp':Sp}(F:aP P w K mg base CX k f fd ps sp)
  (h:∀ vs H Q E,sp' vs H Q E->sp vs H Q E):aP P w K mg base CX k f fd ps sp' :=
 ⟨fun vs H Q E q=>F.len vs H Q E (h _ _ _ _ q),fun A outer s H args us vs Q E hr he hb hv hs=>F.run A outer s H args us vs Q E hr he hb hv (h _ _ _ _ hs)⟩
theorem BI.make{P:Program}{w:World}{K:W.Frag}{mg:Str->Option Value}{base:Heap}{A:Around}{outer:List Env}{s:Shared}{H:Hp}(e:BI P w K mg base A outer s H)(C:Addr)(us:List Value)(kw:List (Str×Value)) :
  BI P w K mg base (A.under (.builtin "type.__call__" ⟨.ref C::us,kw⟩)) outer s H:=⟨by first|exact e.frames |(simpa [ZG,Code.envs,Code.isFrame,pushEnvs]using e.frames),e.mod,e.bs,e.bsz,e.p8,e.frf,e.hok,e.bare⟩
section
variable{σ:St}{s:Shared}
theorem Inv.T9(I:Inv X j0 σ H s):BI X.prog X.w X.K X.mg X.base X.A X.stack s H :=
 ⟨I.ok.frames,I.ok.mod,I.bs,Xw I.ok.bsz I.sz,I.stack,I.BS,I.hok,I.bare⟩
theorem Inv.after{Q:VK}(I:Inv X j0 σ H s)(h:CE X.stack X.prog X.w H s Q u s'):EP X j0 σ Q u s':=by
 obtain⟨v,H',os,bare,un,hok,r,q⟩:=h;obtain⟨hh,g,d,t,os'⟩:=s';obtain rfl:os'=s.os:=os;exact⟨v,H',I.call (h':=hh) (g':=g) (d':=d) (t':=t) (ch:=[]) un hok bare (fun b z=>absurd z (by simp)),r,q⟩
end
def qR(sp:Sp)(dvs:List V)(E:XK)(t:TA):TE:=fun σ H Q=>t σ H fun vs H1=>sp (vs++dvs) H1 Q E
def mn(C:Addr)(m:Str)(sp:Sp)(dvs:List V)(E:XK)(ta:TE)(t:TA):TE:=fun σ H Q=>ta σ H fun x H1=>∃ a dx fs,x = .ref a/\H1 a=some (.ins C dx fs)/\fs.lookup m=none /\
 t σ H1 fun vs H2=>sp (x ::(vs++dvs)) H2 Q E
def FT(C:Addr)(sp:Sp)(dvs:List V)(E:XK)(t:TA):TE:=fun σ H Q=>t σ H fun vs H1=>∀ x dx,H1 x=none->H1 dx=none->dx≠x ->
 sp (.ref x ::(vs++dvs)) (upd (upd H1 dx (.own x)) x (.ins C dx [])) (fun v H2=>v = .non/\Q (.ref x) H2) E
def Binds(K:W.Frag)(fd:FuncData)(ps:List Str)(ds:List Value):Prop :=
 ∀(s:Shared)(us:List Value),K.In s.heap ->(us++ds).length=ps.length->BindsTo s fd ⟨us,[]⟩ (ps.zip (us++ds))
theorem Binds.all{K:W.Frag}{ps:List Str}(h:∀ us:List Value,us.length=ps.length->bindArgs fd ⟨us,[]⟩=pure (ps.zip us)):Binds K fd ps []:=fun s us _ hl=>by
 rw[Xh]at hl ⊢;exact .of_eq (h us hl)
def Passes(CX:CXT)(X:Cx)(E:XK):Prop:=∀(j0:List (Addr×Obj))(σ:St)(H:Hp)(s:Shared)(e:Value)(s':Shared),Inv X j0 σ H s->CX X.stack H s E e s'->X.xe e s'
section
variable{k:Nat}{f:Addr}{ps:List Str}{dvs:List V}{ds:List Value}{E:XK}{m:Str}{apos:Pos}{ta:TE}{t:TA}
theorem Am{σ:St}{s:Shared}{Q:VK}{vs:List V}(F:aP X.prog X.w X.K X.mg X.base CX k f fd ps sp)(hr:bT k X.A)(hb:Binds X.K fd ps ds)(hd:Vals dvs ds)(hx:Passes CX X E)
  (I:Inv X j0 σ H s) (r:Vals vs us) (h:sp (vs++dvs) H Q E):wpAny (model X.prog X.w) X.A (call (.ref f) us) (EP X j0 σ Q) X.xe s:=by
 have r2:Vals (vs++dvs) (us++ds):=r.append hd;have hl:(us++ds).length=ps.length:=by rw[<- r2.length];exact F.len _ _ _ _ h
 refine wpAny_call (codeAny_mono (F.run X.A X.stack s H ⟨us,[]⟩ (us++ds) (vs++dvs) Q E hr I.T9 (hb s us I.kIn hl) r2 h) fun r s' hq=>?_)
 cases r with
 | error e=>exact hx j0 σ H s e s' I hq
 | ok fl =>
  cases fl with
  | ret u=>exact I.after hq
  | next=>exact False.elim hq
  | brk=>exact False.elim hq
  | cont=>exact False.elim hq
theorem we(F:aP X.prog X.w X.K X.mg X.base CX k f fd ps sp)(hr:bT k X.A)(hg:Gl X x)(hm:X.mg x=some (.ref f))(hk:W.keepIn X.K (.ref f)=true)(hb:Binds X.K fd ps ds)(hd:Vals dvs ds)(hx:Passes CX X E)
  (ha:PA X (e::es) t) (hdb:(x ==("__debug__":Str))=false:=by decide) (he:QX (e::es) X.env =(false,eval e X.env)::QX es X.env:=by rfl) (hpl:(backTo pos (QX es X.env)).any (·.1)=false:=by rfl) :
  PE X (.Call (.Name x p) (e::es) [] pos) (qR sp dvs E t):=by
 intro j0 s σ H Q I h;refine XQ (qG I hg hm ?_ hdb);refine W.callWith_K (h₀:=X.base) I.ok.mod.kin hk (thn (ha pos j0 s σ H _ I h) fun us s1 ⟨vs,H1,I1,r,q⟩=>⟨I1.kIn,?_⟩) he hpl
 exact Am F hr hb hd hx I1 r q
theorem Ce{pl:Sem Bool}(he:PE X o ta)(c:Cls X.K C)(hm:Meth X.K C m f)(F:aP X.prog X.w X.K X.mg X.base CX k f fd ps sp)(hr:bT k X.A)(hb:Binds X.K fd ps ds)(hd:Vals dvs ds)(hx:Passes CX X E)(ha:PA X (e::es) t)
  (hst:QX (e::es) X.env =(false,eval e X.env)::QX es X.env:=by rfl) (hpl:(backTo pos (QX es X.env)).any (·.1)=false:=by rfl)
  (ht:eval (.Call (.Attribute o m apos) (e::es) [] pos) X.env =(do
   let ov <- eval o X.env
   standAt apos.atName
   let(f,first) <- holding [ov] (getMethod ov m pl)
   callWith pos f first (backTo pos (QX (e::es) X.env)) (backToKw pos (keywordEach [] X.env))):=by rfl) :
  PE X (.Call (.Attribute o m apos) (e::es) [] pos) (mn C m sp dvs E ta t):=by
 intro j0 s σ H Q I h;refine W.methodCall_KW (pl:=pl) (thn (he j0 s σ H _ I h) fun u s1 hPP=>?_) ht
 obtain⟨x,H1,I1,rx,a,dx,fs,ex,ea,l,q⟩:=hPP;subst ex;obtain rfl:u=Value.ref a:=rx;refine sS I1 ea c hm l ?_;refine W.callWith_K (first:=[.ref a]) (h₀:=X.base) I.ok.mod.kin hm.kp (thn (ha pos j0 s1 σ H1 _ I1 q) fun us s2 ⟨vs,H2,I2,r,q2⟩=>⟨I2.kIn,?_⟩) hst hpl
 exact Am (us:=.ref a::us) (vs:=.ref a::vs) F hr hb hd hx I2 (.cons rfl r) q2
theorem nV{pl:Sem Bool}(he:PE X o ta)(c:Cls X.K C)(hm:Meth X.K C m f)(F:aP X.prog X.w X.K X.mg X.base CX k f fd ps sp)(hr:bT k X.A)(hb:Binds X.K fd ps ds)(hd:Vals dvs ds)(hx:Passes CX X E)
  (ht:eval (.Call (.Attribute o m apos) [] [] pos) X.env =(do
   let ov <- eval o X.env
   standAt apos.atName
   let(f,first) <- holding [ov] (getMethod ov m pl)
   callWith pos f first (backTo pos (QX [] X.env)) (backToKw pos (keywordEach [] X.env))):=by rfl) :
  PE X (.Call (.Attribute o m apos) [] [] pos) (mn C m sp dvs E ta iS):=by
 intro j0 s σ H Q I h;refine W.methodCall_KW (pl:=pl) (thn (he j0 s σ H _ I h) fun u s1 hPP=>?_) ht
 obtain⟨x,H1,I1,rx,a,dx,fs,ex,ea,l,q⟩:=hPP;subst ex;obtain rfl:u=Value.ref a:=rx;refine sS I1 ea c hm l ?_;exact W.callWith_K0 (first:=[.ref a]) I1.kIn hm.kp (Am (us:=[.ref a]) (vs:=[.ref a]) F hr hb hd hx I1 (.cons rfl .nil) q)
structure Mk(K:W.Frag)(C f:Addr):Prop where
 makes:W.makesIn K C=true
 init:W.findIn K (.ref C) "__init__" = some (some (.ref f))
 fn:W.isFn K (.ref f)=true
 kp:W.keepIn K (.ref C)=true
theorem yp{σ:St}{s:Shared}{Q:VK}{vs:List V}(M:Mk X.K C f)(F:aP X.prog X.w X.K X.mg X.base CX k f fd ps sp)(hr:bT (k+1) X.A)(hb:Binds X.K fd ps ds)(hd:Vals dvs ds)
  (hx:Passes CX X E) (I:Inv X j0 σ H s) (r:Vals vs us)
  (h:∀ x dx,H x=none->H dx=none->dx≠x->sp (.ref x ::(vs++dvs)) (upd (upd H dx (.own x)) x (.ins C dx [])) (fun v H2=>v = .non/\Q (.ref x) H2) E) :
  wpAny (model X.prog X.w) X.A (call (.ref C) us) (EP X j0 σ Q) X.xe s:=by
 have hq:=h (s.heap.objs.size+1) s.heap.objs.size (I.hok.fresh (Nat.le_succ _)) (I.hok.fresh (Xa _)) (Xo (XE _));have I2:=Inv.made (C:=C) I;have r2:Vals (V.ref (s.heap.objs.size+1) ::(vs++dvs)) (Value.ref (s.heap.objs.size+1) ::(us++ds)):=.cons rfl (r.append hd);have hl:(Value.ref (s.heap.objs.size+1)::us++ds).length=ps.length:=by
  have e:=r2.length;rw[F.len _ _ _ _ hq]at e;exact e.symm
 refine wpAny_call (HW (f:=f) I.kIn M.makes M.init (beq_iff_eq.mp M.fn) (codeAny_mono (F.run _ X.stack _ _ ⟨Value.ref (s.heap.objs.size+1)::us,[]⟩ (Value.ref (s.heap.objs.size+1) ::(us++ds)) _ _ E (hr.make C us [])
  (I2.T9.make C us []) (hb _ (Value.ref (s.heap.objs.size+1)::us) I2.kIn hl) r2 hq) fun r s' hq'=>?_))
 cases r with
 | error e=>exact hx j0 σ _ _ e s' I2 hq'
 | ok fl =>
  cases fl with
  | ret u =>
   obtain⟨v,H',I3,rv,ev,q3⟩:=I2.after hq';subst ev;exact⟨rv,⟨V.ref (s.heap.objs.size+1),H',I3,rfl,q3⟩⟩
  | next=>exact False.elim hq'
  | brk=>exact False.elim hq'
  | cont=>exact False.elim hq'
theorem LB(M:Mk X.K C f)(F:aP X.prog X.w X.K X.mg X.base CX k f fd ps sp)(hr:bT (k+1) X.A)(hg:Gl X x)(hm:X.mg x=some (.ref C))(hb:Binds X.K fd ps ds)(hd:Vals dvs ds)(hx:Passes CX X E)
  (ha:PA X (e::es) t) (hdb:(x ==("__debug__":Str))=false:=by decide) (he:QX (e::es) X.env =(false,eval e X.env)::QX es X.env:=by rfl) (hpl:(backTo pos (QX es X.env)).any (·.1)=false:=by rfl) :
  PE X (.Call (.Name x p) (e::es) [] pos) (FT C sp dvs E t):=by
 intro j0 s σ H Q I h;refine XQ (qG I hg hm ?_ hdb);refine W.callWith_K (h₀:=X.base) I.ok.mod.kin M.kp (thn (ha pos j0 s σ H _ I h) fun us s1 ⟨vs,H1,I1,r,q⟩=>⟨I1.kIn,?_⟩) he hpl
 exact yp M F hr hb hd hx I1 r q
end
def PK(X:Cx)(kws:List Keyword)(t:TA):Prop :=
 ∀(pos:Pos)(j0:List (Addr×Obj))(s:Shared)(σ:St)(H:Hp)(Q:List V->Hp->Prop),Inv X j0 σ H s->t σ H Q->wpAny (model X.prog X.w) X.A (evalAll ((backToKw pos (keywordEach kws X.env)).map (·.2))) (AP X j0 σ Q) X.xe s
section
variable{k:Nat}{f:Addr}{ps ks:List Str}{E:XK}{m:Str}{apos kpos:Pos}{kws:List Keyword}{ta:TE}{t tk:TA}{nm:Option Str}
theorem O9:PK X [] iS:=fun _ _ _ _ H Q I h=>wpAny_evalAll_nil ⟨[],H,I,.nil,h⟩
theorem Lx(ha:PE X e te)(hr:PK X kws t):PK X (⟨nm,e,kpos⟩::kws) (fY te t):=by
 intro pos j0 s σ H Q I h;show wpAny _ _ (evalAll ((do let v <- eval e X.env;standAt pos;pure v) ::(backToKw pos (keywordEach kws X.env)).map (·.2))) _ _ s
 refine wpAny_evalAll_cons (j2 (thn (ha j0 s σ H _ I h) fun u s1 ⟨x,H1,I1,r1,q1⟩=>j2 (wpAny_standAt (TH ?_))))
 refine thn (hr pos j0 s1 σ H1 _ I1 q1) fun us s2 hPP=>?_
 obtain⟨xs,H2,I2,r2,q2⟩:=hPP;exact⟨x::xs,H2,I2,.cons r1 r2,q2⟩
variable{g:List Value->List Value->List Value}{gV:List V->List V->List V}
end
structure aC(N P:List Str)(sc:Scope):Prop where
 kind:sc.kind = .function
 co:sc.isCoroutine=false
 gen:sc.isGenerator=false
 nd:N.Nodup
 pre:N.take P.length=P
 par:∀ x∈P,sc.names.lookup x=some .local\/sc.names.lookup x=some .cell
 Pu:∀ y∈sc.names,y.2 ≠ .free
theorem vh{kindOf:Str->Option NameKind}{x:Str}:∀{binds:List (Str×Value)}{m:Str->Option Value},(∀ v,(x,v) ∉ binds)->bindL kindOf binds m x=m x
 | [],_,_=>rfl
 | (n,v)::r,m,h=>by
  unfold bindL;rw[vh fun w hw=>h w (Es _ hw)]
  split
  ·have:x≠n:=by rintro rfl;exact h v j5
   simp[this]
  ·rfl
theorem vk{kindOf:Str->Option NameKind}{x:Str}:∀{binds:List (Str×Value)}{m:Str->Option Value},(∀ v,(x,v) ∉ binds)->bindC kindOf binds m x=m x
 | [],_,_=>rfl
 | (n,v)::r,m,h=>by
  unfold bindC;rw[vk fun w hw=>h w (Es _ hw)]
  split
  ·rfl
  ·have:x≠n:=by rintro rfl;exact h v j5
   simp[this]
theorem vj{kindOf:Str->Option NameKind}{x:Str}{v:Value}:∀{P:List Str}{vs:List Value}{i:Nat}{m:Str->Option Value},P.Nodup->P[i]? = some x->vs[i]? = some v->kindOf x=some .local ->
  bindL kindOf (P.zip vs) m x=some v
 | [],_,_,_,_,h,_,_=>by simp at h
 | _::_,[],_,_,_,_,h,_=>by simp at h
 | p::P,w::vs,0,m,nd,h1,h2,hk=>by
  simp at h1 h2;subst h1;subst h2;show bindL kindOf ((p,w)::P.zip vs) m p=_;unfold bindL;rw[vh fun v hv=>(Xm.mp nd).1 (Yc hv).1,if_pos hk]
  simp
 | p::P,w::vs,i+1,m,nd,h1,h2,hk=>by
  show bindL kindOf ((p,w)::P.zip vs) m x=_;unfold bindL;exact vj (i:=i) (Xm.mp nd).2 (by simpa using h1) (by simpa using h2) hk
theorem vm{kindOf:Str->Option NameKind}{x:Str}{v:Value}:∀{P:List Str}{vs:List Value}{i:Nat}{m:Str->Option Value},P.Nodup->P[i]? = some x->vs[i]? = some v->kindOf x≠some .local ->
  bindC kindOf (P.zip vs) m x=some v
 | [],_,_,_,_,h,_,_=>by simp at h
 | _::_,[],_,_,_,_,h,_=>by simp at h
 | p::P,w::vs,0,m,nd,h1,h2,hk=>by
  simp at h1 h2;subst h1;subst h2;show bindC kindOf ((p,w)::P.zip vs) m p=_;unfold bindC;rw[vk fun v hv=>(Xm.mp nd).1 (Yc hv).1,if_neg hk]
  simp
 | p::P,w::vs,i+1,m,nd,h1,h2,hk=>by
  show bindC kindOf ((p,w)::P.zip vs) m x=_;unfold bindC;exact vm (i:=i) (Xm.mp nd).2 (by simpa using h1) (by simpa using h2) hk
def start(N:List Str)(vs:List V):St:=vs.map some++Xp (N.length - vs.length) none
def sV(CX:CXT)(P:Program)(w:World)(K:W.Frag)(mg:Str->Option Value)(base:Heap)(N:List Str)(qual:Str)(scope:Scope)(f:Addr)(cd:Value)(A:Around)(outer:List Env)(s:Shared)(H:Hp)(E:XK):Cx where
 prog:=P
 w:=w
 K:=K
 mg:=mg
 base:=base
 A:=A.deeper (envOfC qual scope s.heap.objs.size f cd)
 N:=N
 s₀:=s
 H₀:=H
 env:=envOfC qual scope s.heap.objs.size f cd
 outer:=outer
 stack:=envOfC qual scope s.heap.objs.size f cd::outer
 ex:=[]
 calm:=true
 fn:=fun _=>true
 pn:=[]
 xe:=fun e s'=>wpAny (model P w) (A.deeper (envOfC qual scope s.heap.objs.size f cd)) (leaving (envOfC qual scope s.heap.objs.size f cd) e) (fun _ s''=>CX outer H s E e s'') (fun e' s''=>CX outer H s E e' s'') s'
variable{sc:Scope}
theorem zq(h:sc.names.lookup x=some .cell):∃ c,(cellsFrom n sc.names []).lookup x=some c:=by
 have q:=W.cellsFrom_some sc.names n [] (.inl h);exact Option.isSome_iff_exists.mp q
variable{qual:Str}{scope:Scope}
theorem Ei{w:World}{K:W.Frag}{ps:List Str}{f:Addr}{cd:Value}{outer:List Env}{s s1:Shared}{E:XK}{vs:List V}
  (S:aC N ps scope) (hd:A.handled=none) (e0:BI P w K mg base A outer s H) (hl:vs.length=ps.length) (r:Vals vs us)
  (x:InCallC s s.heap.objs.size (bindL (envOfC qual scope s.heap.objs.size f cd).kindOf (ps.zip us) fun _=>none) (cellsFrom (s.heap.objs.size+1) scope.names []) (bindC (envOfC qual scope s.heap.objs.size f cd).kindOf (ps.zip us) fun _=>none) s1) :
  Inv (sV CX P w K mg base N qual scope f cd A outer s H E) [] (start N vs) H s1:=by
 have hpl:ps.length<=N.length:=by have:=congrArg ZT S.pre;rw[X7]at this;omega
 obtain⟨h1,tk,rfl,hk⟩:=x.done;have noA:∀ b:Addr,b ∉ (sV CX P w K mg base N qual scope f cd A outer s H E).ex:=fun b z=>absurd (show b∈([]:List Addr)from z) (by simp)
 refine⟨⟨e0.mod,S.kind,rfl,rfl,Xa _,fun y z c h1 h2=>?_,fun y hy=>?_,fun y c _ h=>?_,fun _=>hd,Around.frames_deeper e0.frames,.inr ⟨rfl,rfl⟩,fun b z=>absurd z (noA b),e0.bs,e0.bsz,fun b _ _=>noA b,fun b z=>absurd z (noA b),e0.p8,e0.frf⟩,
  rfl,e0.bare,Un.kept hk,⟨_,x.toInCall.ns,fun i y v h1 h2 h3=>?_⟩,fun y c h=>⟨_,x.cell y c h⟩,e0.hok.fresh (Xa _),fun y c h=>?_,fun p hp=>absurd (show p∈([]:List (Addr×Obj))from hp) (by simp),e0.hok.kept hk,?_⟩
 ·exact name_of_addr x.apart (PySem.mem_of_lookup h1) (PySem.mem_of_lookup h2)
 ·have hy:scope.names.lookup y=some .cell\/scope.names.lookup y=some .free:=hy;rcases hy with hy|hy
  ·exact zq hy
  ·exact absurd rfl (S.Pu _ (PySem.mem_of_lookup hy))
 ·exact XO (x.above y c (PySem.mem_of_lookup h))
 ·have hi:i<vs.length:=by
   unfold start at h2;by_cases hi:i<vs.length
   ·exact hi
   ·rw[XG (by simpa using hi)]at h2
    rw[Yv]at h2
    split at h2 <;> cases h2
  have ha:vs[i]? = some v:=by
   unfold start at h2;rw[XN (by simpa using hi),Xc]at h2
   cases e:vs[i]? with
   | none=>rw[e]at h2;cases h2
   | some a=>rw[e]at h2;cases h2;rfl
  obtain⟨u,hu,rv⟩:=r.get ha;have hp:ps[i]? = some y:=by
   rw[<- S.pre,List.getElem?_take_of_lt (by omega)];exact h1
  have ndP:ps.Nodup:=by rw[<- S.pre];exact S.nd.sublist (List.take_sublist _ _)
  refine⟨u,rv,?_⟩;rcases S.par y (XA hp)with k|k
  ·exact .inl ⟨k,vj ndP hp hu k⟩
  ·obtain⟨c,e⟩:=zq (n:=s.heap.objs.size+1) k;refine .inr ⟨.inl k,c,e,?_⟩;have q:=x.cell y c e;rw[vm ndP hp hu (by show scope.names.lookup y≠_;rw[k];decide)]at q
   exact q
 ·exact e0.hok.fresh (XO (x.above y c (PySem.mem_of_lookup h)))
 ·unfold start;show _=N.length;rw[Xl,PZ,List.length_replicate];omega
variable{name:Str}{pm:Value}{ct:Value}{oc:Value}{an:Option Addr}{od:Option Addr}
theorem T8{w:World}{K:W.Frag}{k:Nat}{f:Addr}{params:Arguments}{dV kV doc cdv:Value}
  {osl:Array (Option Value)} {N ps:List Str} {sp:Sp} (lk:K.lookup f=some ⟨oc,od,.func (W.fnOf name qual params body scope dV kV doc pm an cdv ct),osl⟩) (hcd:W.codeIn K cdv qual=true) (S:aC N ps scope)
  (len:∀ vs H Q E,sp vs H Q E->vs.length=ps.length)
  (kT:∀(A:Around)(outer:List Env)(s:Shared)(H:Hp)(vs:List V)(Q:VK)(E:XK),bT k (A.deeper (envOfC qual scope s.heap.objs.size f cdv))->sp vs H Q E ->
   ∃ t,PSs (sV CX P w K mg base N qual scope f cdv A outer s H E) body t/\t { nx:=fun _ H'=>Q .non H',rt:=Q } (start N vs) H) :
  aP P w K mg base CX (k+1) f (W.fnOf name qual params body scope dV kV doc pm an cdv ct) ps sp:=by
 refine⟨len,fun A outer s H args us vs Q E hr e0 hb r hsp=>?_⟩
 have hl:=len _ _ _ _ hsp;have KX:K.In s.heap:=e0.mod.kin.keeps fun b o e=>(e0.bs b o e).1
 have lim:s.heap.NoLimit:=e0.mod.nolimit.keeps fun b o e=>(e0.bs b o e).1
 have i8:∀ y∈ps.zip us,scope.names.lookup y.1=some .local\/(scope.names.lookup y.1=some .cell/\((cellsFrom (s.heap.objs.size+1) scope.names []).lookup y.1).isSome=true):=fun⟨n,v⟩ hy=>by
  rcases S.par n (Yc hy).1 with q|q
  ·exact .inl q
  ·exact .inr ⟨q,W.cellsFrom_some _ _ _ (.inl q)⟩
 refine codeAny_call_function hr.depth (KX _ _ lk) rfl S.co S.gen rfl (W.codeRec_of KX hcd) (hb _ _ _ _ ?_);refine wpAny_newFunctionEnv_cells S.kind i8 fun env he s1 x=>?_
 subst he;refine⟨lim.keeps x.toInCall.keep,codeAny_func ?_⟩;obtain⟨t,ht,hq⟩:=kT A outer s H vs Q E (hr.deeper _) hsp;have I:Inv (sV CX P w K mg base N qual scope f cdv A outer s H E) [] (start N vs) H s1:=Ei S hr.hd e0 hl r x;refine X5 (ht [] s1 (start N vs) H _ I hq) (fun fl s' hs=>?_) fun e s' hs=>hs
 have fin:∀{σ':St}{H':Hp}{v:V}{u:Value},Inv (sV CX P w K mg base N qual scope f cdv A outer s H E) [] σ' H' s'->RelV v u->Q v H'->CE outer P w H s Q u s' :=
  fun{σ' H' v u} J rv q=>⟨v,H',J.os,J.bare,J.base,J.hok,rv,q⟩
 cases fl with
 | ret u =>
  obtain⟨v,σ',H',J,rv,q⟩:=hs;exact fin J rv q
 | next =>
  obtain⟨σ',H',J,q⟩:=hs;exact fin (v:=V.non) (u:=Value.none) J rfl q
 | brk =>
  obtain⟨_,_,_,q⟩:=hs;exact False.elim q
 | cont =>
  obtain⟨_,_,_,q⟩:=hs;exact False.elim q
section
variable{t:TA}{id T:String}{r:List V->Hp->VK->Prop}
def tCB(r:List V->Hp->VK->Prop)(t:TA):TE:=fun σ H Q=>t σ H fun vs H1=>r vs H1 Q
theorem rS(hc:c7 X (.builtin id) r)(hg:Gl X x)(hm:X.mg x=none)(hv:bootBuiltins x=some (.builtin id))(ha:PA X (e::es) t)(hn:x ≠ "__name__":=by decide)(hdb:(x ==("__debug__":Str))=false:=by decide)
  (he:QX (e::es) X.env =(false,eval e X.env)::QX es X.env:=by rfl) (hpl:(backTo pos (QX es X.env)).any (·.1)=false:=by rfl):PE X (.Call (.Name x p) (e::es) [] pos) (tCB r t):=by
 intro j0 s σ H Q I h;refine XQ (fO I hg hm hv ?_ hn hdb);exact PyProof.Rows.callWith_builtin1 (thn (ha pos j0 s σ H _ I h) fun us s1 ⟨vs,H1,I1,r1,q1⟩=>hc j0 s1 σ H1 vs us Q I1 r1 q1) he hpl
theorem DM(hc:c7 X (.type T) r)(hg:Gl X x)(hm:X.mg x=none)(hv:bootBuiltins x=some (.type T))(ha:PA X (e::es) t)(hn:x ≠ "__name__":=by decide)(hdb:(x ==("__debug__":Str))=false:=by decide)
  (he:QX (e::es) X.env =(false,eval e X.env)::QX es X.env:=by rfl) (hpl:(backTo pos (QX es X.env)).any (·.1)=false:=by rfl):PE X (.Call (.Name x p) (e::es) [] pos) (tCB r t):=by
 intro j0 s σ H Q I h;refine XQ (fO I hg hm hv ?_ hn hdb);exact PyProof.Rows.callWith_type1 (thn (ha pos j0 s σ H _ I h) fun us s1 ⟨vs,H1,I1,r1,q1⟩=>hc j0 s1 σ H1 vs us Q I1 r1 q1) he hpl
end
end L2
namespace HT
open PySem PyProof.Rows
section
variable{prog:Program}{w:World}{A:Around}{E:Value->Shared->Prop}{s:Shared}
theorem MZ{t b:Addr}{vs ws:List Value}{Q:Value->Shared->Prop}(ht:IsTup s.heap t vs.toArray)(hb:IsTup s.heap b ws.toArray)(hv:vs ≠ [])
  (h1:ws = []->Q (.ref t) s) (h2:ws ≠ []->Q (.ref s.heap.objs.size) { s with heap:=s.heap.push { cls:=.type "tuple",data:=.seq (vs++ws).toArray } })
  (hsz:vs.length+ws.length<=WT):wpAny (model prog w) A (binaryOp .Add (.ref t) (.ref b)) Q E s:=by
 obtain⟨⟨cls,dd,data,sl⟩,ho,hc,n,hd⟩:=id ht;obtain⟨⟨WK,dd2,data2,sl2⟩,ho2,hc2,n2,hd2⟩:=id hb;simp only at hc hd hc2 hd2;subst hc hd hc2 hd2;have e:vs.toArray++ws.toArray =(vs++ws).toArray:=by simp
 by_cases hw:ws = []
 ·exact concat_meets ⟨_,ho,rfl⟩ ⟨_,ho2,rfl⟩ noFill_tuple_add seq_tuple_add PySem.F.slot_tuple_add PySem.F.entry_tuple_add (PySem.F.args_tuple_add_2 _ _)
   (tuple_addW1 t b vs.toArray ws.toArray n n2 dd dd2 sl sl2 (by simpa using hv) (by simp[hw])) ⟨ho,ho2,h1 hw⟩
 ·refine concat_meets ⟨_,ho,rfl⟩ ⟨_,ho2,rfl⟩ noFill_tuple_add seq_tuple_add PySem.F.slot_tuple_add PySem.F.entry_tuple_add (PySem.F.args_tuple_add_2 _ _)
   (tuple_addW2 t b vs.toArray ws.toArray n n2 dd dd2 sl sl2 (by simpa using hv) (by simpa using hw) (by rw[Wc,Wc];exact hsz)) ⟨ho,ho2,?_⟩
  rw[e];exact h2 hw
def sIx(n d:Nat):Option Int->Nat
 | none=>d
 | some v=>if v<0 then(v+(n:Int)).toNat else min v.toNat n
theorem OC(n d:Nat)(hd:d<=n)(o:Option Int):sIx n d o<=n:=by
 cases o with
 | none=>exact hd
 | some v =>
  show(if v<0 then(v+(n:Int)).toNat else min v.toNat n)<=n
  by_cases hv:v<0
  ·rw[if_pos hv];omega
  ·rw[if_neg hv];exact YQ _ _
theorem Uu(a:Int)(n:Nat)(h0:0<=a):min a (n:Int) =((min a.toNat n:Nat):Int):=by
 by_cases h:a<=n
 ·rw[Int.min_eq_left h,Nat.min_eq_left (Int.toNat_le.mpr h),YF h0]
 ·have h':=Int.le_of_lt (Int.not_le.mp h);rw[Int.min_eq_right h',Nat.min_eq_right ((Int.le_toNat h0).mpr h')]
theorem F4(n:Nat)(i:Int)(h:i<0):max 0 (min (i+(n:Int)) n) =((i+n).toNat:Int):=by
 rw[Int.min_eq_left (Int.add_le_of_le_sub_right (by rw[Int.sub_self];exact Int.le_of_lt h)),Int.max_comm,Int.ofNat_toNat]
theorem FZ(n:Nat)(i:Int)(h:¬ i<0):max 0 (min i (n:Int)) =((min i.toNat n:Nat):Int):=by
 rw[Uu i n (Int.not_lt.mp h),Int.max_eq_right (Int.natCast_nonneg _)]
theorem CO(v:Int)(n d:Nat):(if v<0 then max (v+(n:Int)) 0 else min v (n:Int)) =((sIx n d (some v):Nat):Int):=by
 show(if v<0 then max (v+(n:Int)) 0 else min v (n:Int)) =(((if v<0 then(v+(n:Int)).toNat else min v.toNat n):Nat):Int)
 by_cases hv:v<0
 ·rw[if_pos hv,if_pos hv];exact(Int.ofNat_toNat _).symm
 ·rw[if_neg hv,if_neg hv];exact Uu v n (Int.not_lt.mp hv)
theorem Bv(lo hi:Option Int)(n:Nat):Builtin.Slice.sliceAdjust lo hi 1 (n:Int) =(((sIx n 0 lo:Nat):Int),((sIx n n hi:Nat):Int)):=by
 have h1:¬((1:Int)<0):=by omega
 unfold Builtin.Slice.sliceAdjust;simp only[h1,if_false];refine Prod.ext ?_ ?_
 ·cases lo with
  | none=>rfl
  | some v=>exact CO v n 0
 ·cases hi with
  | none=>rfl
  | some v=>exact CO v n n
theorem AE(i j:Nat):Builtin.Slice.slicePlaces (i:Int) (j:Int) 1=j - i:=by
 unfold Builtin.Slice.slicePlaces;have h1:(1:Int) > 0:=by omega
 simp only[h1,if_true,Int.ediv_one]
 split <;> omega
theorem qT{v:Value}{o:Option Int}{Q:Option Int->Shared->Prop}(p:IsPart v o)(h:Q o s):wpAny (model prog w) A (Builtin.Slice.slicePartIndex v) Q E s:=by
 cases p with
 | none=>exact slicePart_none h
 | int i t=>exact slicePart_int h
theorem iT{sl:Addr}{vl vu:Value}{lo hi:Option Int}{n:Nat}{Q:Int×Int×Nat->Shared->Prop}(hs:s.heap.IsSliceOf sl vl vu .none)(pl:IsPart vl lo)(pu:IsPart vu hi)
  (h:Q (((sIx n 0 lo:Nat):Int),1,sIx n n hi - sIx n 0 lo) s):wpAny (model prog w) A (Builtin.Slice.sliceApplied (.ref sl) (pure (n:Int))) Q E s:=by
 obtain⟨os,hos,hcs,hds⟩:=id hs;unfold Builtin.Slice.sliceApplied Builtin.Slice.sliceFields;refine j2 (j2 (wpAny_field hos hds (x:=vl) rfl (j2 (wpAny_field hos hds (x:=vu) rfl (j2 (wpAny_field hos hds (x:=.none) rfl (TH ?_)))))));refine j2 (slicePart_none ?_);show wpAny _ _ (if((1:Int)==0)=true then _ else _) _ _ s
 rw[if_neg (by decide)]
 refine j2 (qT pl (j2 (qT pu (j2 (TH ?_)))));show wpAny _ _ (match Builtin.Slice.sliceAdjust lo hi 1 (n:Int)with |(lo,hi)=>pure (lo,(1:Int),Builtin.Slice.slicePlaces lo hi 1)) _ _ s
 rw[Bv lo hi n];show wpAny _ _ (pure (((sIx n 0 lo:Nat):Int),(1:Int),Builtin.Slice.slicePlaces ((sIx n 0 lo:Nat):Int) ((sIx n n hi:Nat):Int) 1)) _ _ s;rw[AE];exact TH h
theorem Ht(xs:Array Value)(i k:Nat):((Xt k).filterMap fun(m:Nat)=>xs[((i:Int)+(m:Int)*1).toNat]?).toArray =((xs.toList.drop i).take k).toArray:=by
 have e:(fun(m:Nat)=>xs[((i:Int)+(m:Int)*1).toNat]?)=fun m=>xs[i+m]?:=by
  funext m
  have:((i:Int)+(m:Int)*1).toNat=i+m:=by omega
  rw[this]
 rw[e]
 have:=pick_run xs i k
 rw[List.filterMap_map]at this;have e2:((fun x=>xs[x]?) ∘ fun x=>i+x)=fun m=>xs[i+m]?:=rfl
 rw[e2]at this;rw[this]
theorem n6{t sl:Addr}{items:Array Value}{vl vu:Value}{lo hi:Option Int}{Q:Value->Shared->Prop}(ht:IsTup s.heap t items)(hs:s.heap.IsSliceOf sl vl vu .none)(pl:IsPart vl lo)(pu:IsPart vu hi)
  (hw:¬(sIx items.size 0 lo=0/\sIx items.size items.size hi=items.size))
  (h:Q (.ref s.heap.objs.size) { s with heap:=s.heap.push { cls:=.type "tuple",data:=.seq ((items.toList.drop (sIx items.size 0 lo)).take (sIx items.size items.size hi - sIx items.size 0 lo)).toArray } })
  (hsz:items.size<=WT):wpAny (model prog w) A (getItem (.ref t) (.ref sl)) Q E s:=by
 have Cv:sizeOk (.seq ((items.toList.drop (sIx items.size 0 lo)).take (sIx items.size items.size hi - sIx items.size 0 lo)).toArray):=by
  show((items.toList.drop (sIx items.size 0 lo)).take (sIx items.size items.size hi - sIx items.size 0 lo)).toArray.size<=WT;rw[Wc,X7,Y7,YE];exact Xw (Xw (YQ _ _) (ZU _ _)) hsz
 have hj:sIx items.size items.size hi<=items.size:=OC _ _ (Xa _) hi;obtain⟨os,hos,hcs,hds⟩:=id hs;have hTs:s.TypeIs (.ref sl) "slice":=⟨os,hos,hcs⟩;unfold getItem
 try with_reducible refine XJ ?_
 first|refine j2 (TH ?_)|skip
 refine j2 (wpAny_sequenceKey ht.typeIs (by decide) ?_)
 refine j2 (wpAny_callSpecial?_slot (name:=Str.ofString "__getitem__") ht.typeIs PyProof.Rows.slot_tuple_getitem
  (Xz PyProof.Rows.slot_tuple_getitem ht.typeIs entry_tuple_getitem ?_ (args_tuple_getitem _ _)))
 show wpAny _ _ (Builtin.Tuple.tupleItemsOf (.ref t) >>= _) _ _ s;refine j2 (tupleItemsOf_ ht ?_);refine j2 (Yg hTs ?_);rw[if_pos (by decide)]
 refine j2 (iT hs pl pu ?_);have hno:¬((((sIx items.size 0 lo:Nat):Int)==0&&(1:Int)==1&&(sIx items.size items.size hi - sIx items.size 0 lo)==items.size)=true):=by
  intro q;rw[Xi,Xi]at q;have q1:((sIx items.size 0 lo:Nat):Int)=0:=eq_of_beq q.1.1;have q2:sIx items.size items.size hi - sIx items.size 0 lo=items.size:=eq_of_beq q.2;exact hw ⟨by omega,by omega⟩
 show wpAny _ _ (if(((sIx items.size 0 lo:Nat):Int)==0&&(1:Int)==1&&(sIx items.size items.size hi - sIx items.size 0 lo)==items.size)=true then _ else _) _ _ s
 rw[if_neg hno,Ht]
 first
  | exact j2 (m:=Builtin.Tuple.tupleExact _) (XI (TH ⟨_,rfl,TH h⟩) Cv)
  | exact j2 (m:=Builtin.Tuple.tupleExact _) (XI (j2 (TH (TH ⟨_,rfl,TH h⟩))) Cv)
  | exact j2 (j2 (m:=Builtin.Tuple.tupleExact _) (XI (TH (TH ⟨_,rfl,TH h⟩)) Cv))
  | exact j2 (j2 (m:=Builtin.Tuple.tupleExact _) (XI (TH ⟨_,rfl,TH h⟩) Cv))
end
end HT
namespace L2
open PySem PySem.Spec PyProof.Rows
abbrev TO:=St->Hp ->(Option Int->Hp->Prop)->Prop
def PO(X:Cx)(e:Option Expr)(t:TO):Prop :=
 ∀(j0:List (Addr×Obj))(s:Shared)(σ:St)(H:Hp)(Q:Option Int->Hp->Prop),Inv X j0 σ H s->t σ H Q ->
  wpAny (model X.prog X.w) X.A (evalPart e X.env) (fun u s'=>∃ o H',Inv X j0 σ H' s'/\IsPart u o/\Q o H') X.xe s
def BP:TO:=fun _ H Q=>Q none H
def Nr(t:TE):TO:=fun σ H Q=>t σ H fun x H1=>∃ i,x = .int i/\Q (some i) H1
variable{xs:List V}{us:List Value}
section
variable{X:Cx}{e:Expr}{te:TE}{lo hi:Option Expr}{tl th:TO}{pos p2:Pos}
theorem Lo:PO X none BP:=by
 intro j0 s σ H Q I h;rw[evalPart_none];exact TH ⟨none,H,I,.none,h⟩
theorem wa(h:PE X e te):PO X (some e) (Nr te):=by
 intro j0 s σ H Q I hw;rw[evalPart_some];refine thn (h j0 s σ H _ I hw) fun u s1 hPP=>?_
 obtain⟨x,H1,I1,r1,q1⟩:=hPP;obtain⟨i,rfl,q⟩:=q1;obtain⟨t,rfl⟩:=r1;exact⟨some i,H1,I1,.int i t,q⟩
def SlR(X:Cx)(r:V->Option Int->Option Int->Hp->VK->Prop):Prop :=
 ∀(j0:List (Addr×Obj))(s:Shared)(σ:St)(H:Hp)(x:V)(v vl vu:Value)(lo hi:Option Int)(sl:Addr)(Q:VK),Inv X j0 σ H s->RelV x v->s.heap.IsSliceOf sl vl vu .none->IsPart vl lo->IsPart vu hi->r x lo hi H Q ->
  ∃ T id,typeLookup (.type T) "__getitem__" = pure (some (.builtin id))/\s.TypeIs v T/\wpAny (model X.prog X.w) X.A (getItem v (.ref sl)) (EP X j0 σ Q) X.xe s
theorem SlR.or{r r':V->Option Int->Option Int->Hp->VK->Prop}(h:SlR X r)(h':SlR X r'):SlR X (fun x lo hi H Q=>r x lo hi H Q\/r' x lo hi H Q):=by
 intro j0 s σ H x v vl vu lo hi sl Q I rx hs pl pu q;rcases q with q|q
 ·exact h j0 s σ H x v vl vu lo hi sl Q I rx hs pl pu q
 ·exact h' j0 s σ H x v vl vu lo hi sl Q I rx hs pl pu q
def tSl(r:V->Option Int->Option Int->Hp->VK->Prop)(te:TE)(tl th:TO):TE:=fun σ H Q=>te σ H fun x H1=>tl σ H1 fun l H2=>th σ H2 fun u H3=>r x l u H3 Q
theorem yL{r:V->Option Int->Option Int->Hp->VK->Prop}(hr:SlR X r)(he:PE X e te)(hl:PO X lo tl)(hu:PO X hi th):PE X (.Subscript e (.Slice lo hi none p2) pos) (tSl r te tl th):=by
 intro j0 s σ H Q I h;refine Subscript_ (thn (he j0 s σ H _ I h) fun v s1 hPP=>?_)
 obtain⟨x,H1,I1,r1,q1⟩:=hPP;refine wpAny_Slice (thn (hl j0 s1 σ H1 _ I1 q1) fun vl s2 ⟨l,H2,I2,pl,q2⟩=>thn (hu j0 s2 σ H2 _ I2 q2) fun vu s3 hPP=>?_)
 obtain⟨u,H3,I3,pu,q3⟩:=hPP;rw[evalPart_none];refine TH ?_;have I4:Inv X j0 σ H3 { s3 with heap:=s3.heap.push { cls:=.type "slice",data:=.fields #[vl,vu,.none] } }:=I3.kept (t':=s3.toks) fun b ob q=>j3 _ q
 obtain⟨T,id,hT,ht,hg⟩:=hr j0 { s3 with heap:=s3.heap.push { cls:=.type "slice",data:=.fields #[vl,vu,.none] } } σ H3 x v vl vu l u s3.heap.objs.size Q I4 r1 (Heap.IsSliceOf.new ..) pl pu q3
 show wpAny (model X.prog X.w) X.A (subscriptTail e (.Slice lo hi none p2) v (.ref s3.heap.objs.size)) (EP X j0 σ Q) X.xe { s3 with heap:=s3.heap.push { cls:=.type "slice",data:=.fields #[vl,vu,.none] } }
 exact tail_any (ops:=[.ref s3.heap.objs.size,v]) ht hT hg (by with_unfolding_all rfl)
def mf(xs:List V)(lo hi:Option Int):List V:=(xs.drop (HT.sIx xs.length 0 lo)).take (HT.sIx xs.length xs.length hi - HT.sIx xs.length 0 lo)
theorem pM(xs:List V)(lo hi:Option Int):(mf xs lo hi).length<=xs.length:=by
 unfold mf;rw[X7,Y7];exact Xw (YQ _ _) (ZU _ _)
def VG(K:W.Frag):V->Option Int->Option Int->Hp->VK->Prop:=fun x lo hi H Q=>∃ a xs,x = .ref a/\SqT K H a xs /\
 ¬(HT.sIx xs.length 0 lo=0/\HT.sIx xs.length xs.length hi=xs.length)/\∀ p,H p=none->Q (.ref p) (upd H p (.tup (mf xs lo hi)))
theorem Ov:SlR X (VG X.K):=by
 intro j0 s σ H x v vl vu lo hi sl Q I rx hs pl pu h;obtain⟨a,xs,rfl,hx,hw,q⟩:=h;cases rx;obtain⟨its,r,ht,hz⟩:=I.tuple hx;have hlen:its.toArray.size=xs.length:=by rw[Wc];exact r.length.symm
 refine⟨"tuple",_,PyProof.Rows.slot_tuple_getitem.lookup,ht.typeIs,?_⟩;refine HT.n6 ht hs pl pu (by rw[hlen];exact hw) ?_ (by rw[hlen];exact hz)
 rw[hlen];refine⟨.ref s.heap.objs.size,_,I.laid (t':=s.toks) (o:=.tup (mf xs lo hi)) (fun b ob q=>j3 _ q) (Xa _) ?_,rfl,q _ (I.hok.fresh (Xa _))⟩
 exact⟨Xw (pM xs lo hi) hz,_,(r.drop (HT.sIx xs.length 0 lo)).take (HT.sIx xs.length xs.length hi - HT.sIx xs.length 0 lo),lA.new _ _⟩
def R3(K:W.Frag):R2:=fun x y H Q=>∃ a b xs ys,x = .ref a/\y = .ref b/\SqT K H a xs/\SqT K H b ys/\xs ≠ []/\xs.length+ys.length<=WT /\
 (ys = []->Q (.ref a) H)/\(ys ≠ []->∀ p,H p=none->Q (.ref p) (upd H p (.tup (xs++ys))))
theorem Vals.gj(r:Vals xs us):us = [] ↔ xs = []:=by
 cases r with
 | nil=>simp
 | cons _ _=>simp
theorem LN:OpR X (binaryOp .Add) (R3 X.K):=by
 intro j0 s σ H x y v u Q I rx ry h;obtain⟨a,b,xs,ys,rfl,rfl,ha,hb,hx,hz,q1,q2⟩:=h;cases rx;cases ry;obtain⟨its,r1,p1,_⟩:=I.tuple ha;obtain⟨bb,r2,p2,_⟩:=I.tuple hb;refine HT.MZ p1 p2 (fun z=>hx (r1.gj.mp z)) (fun z=>⟨.ref a,H,I,rfl,q1 (r2.gj.mp z)⟩) (fun z=>?_) (by rw[<- r1.length,<- r2.length];exact hz)
 refine⟨.ref s.heap.objs.size,_,I.laid (t':=s.toks) (o:=.tup (xs++ys)) (fun b ob q=>j3 _ q) (Xa _) ?_,rfl,q2 (fun w=>z (r2.gj.mpr w)) _ (I.hok.fresh (Xa _))⟩
 exact⟨by rw[Xl];exact hz,_,r1.append r2,lA.new _ _⟩
end
def ixN(n:Nat)(i:Int):Option Nat:=if 0<=i then(if i<n then some i.toNat else none)else if -(n:Int)<=i then some (i+n).toNat else none
def atI{α:Type}(xs:List α)(i:Int):Option α:=(ixN xs.length i).bind fun j=>xs[j]?
variable{n:Nat}{j:Nat}
theorem Cq{i:Int}(h:ixN n i=some j):seqIndex? i n=some j/\j<n /\ -(n:Int)<=i/\i<n:=by
 unfold ixN at h;by_cases h0:0<=i
 ·rw[if_pos h0]at h;by_cases h1:i<n
  ·rw[if_pos h1]at h;have e:i.toNat=j:=Option.some.inj h;exact⟨by rw[seqIndex_of h0 h1,e],by omega,by omega,h1⟩
  ·rw[if_neg h1]at h;cases h
 ·rw[if_neg h0]at h;by_cases h1:-(n:Int)<=i
  ·rw[if_pos h1]at h;have e:(i+n).toNat=j:=Option.some.inj h;exact⟨by rw[seqIndex_neg (by omega) h1,e],by omega,h1,by omega⟩
  ·rw[if_neg h1]at h;cases h
theorem xI{α:Type}{xs:List α}{i:Int}{v:α}(h:atI xs i=some v):∃ j,seqIndex? i xs.length=some j/\xs[j]? = some v/\j<xs.length /\ -(xs.length:Int)<=i/\i<xs.length:=by
 unfold atI at h;cases e:ixN xs.length i with
 | none=>rw[e]at h;cases h
 | some j =>
  rw[e]at h;obtain⟨h1,h2,h3,h4⟩:=Cq e;exact⟨j,h1,h,h2,h3,h4⟩
theorem lZ{α:Type}{xs:List α}{v:α}(h:xs[j]? = some v):atI xs (j:Int)=some v:=by
 have hj:j<xs.length:=(VZ.mp h).1;have e:ixN xs.length (j:Int)=some j:=by
  unfold ixN;rw[if_pos (by omega),if_pos (by omega)];simp
 unfold atI;rw[e];exact h
theorem tH{α:Type}(xs:List α)(v:α):atI (xs ++ [v]) (-1)=some v:=by
 have hl:(xs ++ [v]).length=xs.length+1:=by simp
 have e:ixN (xs ++ [v]).length (-1)=some xs.length:=by
  unfold ixN;rw[hl,if_neg (by decide),if_pos (by omega)]
  congr 1
  omega
 unfold atI;rw[e];show(xs ++ [v])[xs.length]? = some v;simp
def oy(b:Expr):Prop:=∀ o i,subscripted b false o i=operate [o,i] (getItem o i)
def IxR(X:Cx)(r:R2):Prop :=
 ∀(value slice:Expr)(j0:List (Addr×Obj))(s:Shared)(σ:St)(H:Hp)(x y:V)(v u:Value)(Q:VK),Inv X j0 σ H s->RelV x v->RelV y u->r x y H Q ->
  subscripted slice false v u=operate [v,u] (getItem v u)->wpAny (model X.prog X.w) X.A (subscriptTail value slice v u) (EP X j0 σ Q) X.xe s
def MtR(X:Cx)(id:String)(r:V->List V->Hp->VK->Prop):Prop :=
 ∀(j0:List (Addr×Obj))(s:Shared)(σ:St)(H:Hp)(x:V)(xs:List V)(v:Value)(us:List Value)(Q:VK),Inv X j0 σ H s->RelV x v->Vals xs us->r x xs H Q ->
  wpAny (model X.prog X.w) X.A (call (.builtin id) (v::us)) (EP X j0 σ Q) X.xe s
variable{j0:List (Addr×Obj)}{H:Hp}{its:List Value}{A:Around}{y:V}{u:Value}{r:List V->Hp->VK->Prop}
section
variable{X:Cx}{a b:Expr}{ta tb:TE}{pos:Pos}
theorem IxR.or{r r':R2}(h:IxR X r)(h':IxR X r'):IxR X (fun x y H Q=>r x y H Q\/r' x y H Q):=by
 intro value slice j0 s σ H x y v u Q I rx ry q hs;rcases q with q|q
 ·exact h value slice j0 s σ H x y v u Q I rx ry q hs
 ·exact h' value slice j0 s σ H x y v u Q I rx ry q hs
theorem Cf{r:R2}(hr:IxR X r)(ha:PE X a ta)(hb:PE X b tb)(hs:oy b):PE X (.Subscript a b pos) (tOp r ta tb):=by
 intro j0 s σ H Q I h;exact Subscript_ (Qk ha hb I h fun v u s2 x y H2 I2 rx ry q=>hr a b j0 s2 σ H2 x y v u Q I2 rx ry q (hs _ _))
def RZ(K:W.Frag):R2:=fun x y H Q=>∃ p xs i v,x = .ref p/\y = .int i/\SqL K H p xs/\atI xs i=some v/\Q v H
def RX(K:W.Frag):R2:=fun x y H Q=>∃ p xs i v,x = .ref p/\y = .int i/\SqT K H p xs/\atI xs i=some v/\Q v H
def RY:R2:=fun x y H Q=>∃ z i c,x = .str z/\y = .int i/\z.length<=WT/\atI z.cps.toList i=some c/\Q (.str ⟨#[c]⟩) H
theorem Mm:IxR X (RZ X.K):=by
 intro value slice j0 s σ H x y v u Q I rx ry h hs;obtain⟨p,xs,i,z,rfl,rfl,hq,he,q⟩:=h;cases rx;obtain⟨t,rfl⟩:=ry;obtain⟨its,r,pl,hz⟩:=I.list hq;obtain⟨j,h1,h2,h3,h4,h5⟩:=xI he;obtain⟨w,ew,rw'⟩:=r.get h2;have hl:=r.length;have hn:=jH;have fin:EP X j0 σ Q w s:=⟨z,H,I,rw',q⟩;by_cases h0:0<=i
 ·have hj:i.toNat=j:=by
   rw[seqIndex_of h0 h5]at h1;exact Option.some.inj h1
  exact item_listR pl.isList h0 (by omega) (by rw[hj];simpa using ew) fin hs
 ·have hj:(i+(its.toArray.size:Int)).toNat=j:=by
   rw[seqIndex_neg (by omega) h4]at h1
   rw[Wc,<- hl];exact Option.some.inj h1
  exact subscriptTail_builtinR (x:=w) pl.isList.typeIs slot_list_getitem.lookup
   (wpAny_getItem_list_neg (Q:=fun r s'=>r=w/\EP X j0 σ Q r s') pl.isList (by omega) (by rw[Wc] <;> omega) (by omega) (by rw[hj];simpa using ew) ⟨rfl,fin⟩) hs
theorem PU:IxR X (RX X.K):=by
 intro value slice j0 s σ H x y v u Q I rx ry h hs;obtain⟨p,xs,i,z,rfl,rfl,hq,he,q⟩:=h;cases rx;obtain⟨t,rfl⟩:=ry;obtain⟨its,r,pl,hz⟩:=I.tuple hq;obtain⟨j,h1,h2,h3,h4,h5⟩:=xI he;obtain⟨w,ew,rw'⟩:=r.get h2;have hl:=r.length;have hn:=jH;have fin:EP X j0 σ Q w s:=⟨z,H,I,rw',q⟩;exact subscriptTail_builtinR (x:=w) pl.typeIs slot_tuple_getitem.lookup
  (getItem_tuple (j:=j) (Q:=fun r s'=>r=w/\EP X j0 σ Q r s') pl (by omega) (by omega) (by rw[Wc,<- hl];exact h1) (by simpa using ew) ⟨rfl,fin⟩) hs
theorem PV:IxR X RY:=by
 intro value slice j0 s σ H x y v u Q I rx ry h hs;obtain⟨z,i,c,rfl,rfl,hz,he,q⟩:=h;obtain⟨t,rfl⟩:=rx;obtain⟨t',rfl⟩:=ry;obtain⟨j,h1,h2,h3,h4,h5⟩:=xI he;have hl:z.cps.toList.length=z.length:=by simp[Str.length]
 rw[hl]at h1 h4 h5;have hn:=jH;exact tail_any (typeIs_str s z t) slot_str_getitem.lookup (getItem_str (c:=c) (by
  have e1:decide (i < -(2 ^ 63:Int))=false:=decide_eq_false (by omega)
  have e2:decide (i ≥ 2 ^ 63)=false:=decide_eq_false (by omega)
  rw[e1,e2,Bool.or_false]) (by rw[h1];simpa using h2) ⟨.str ⟨#[c]⟩,H,I.tok _,⟨_,rfl⟩,q⟩) hs
def rIx(K:W.Frag):R2:=fun x y H Q=>RZ K x y H Q\/RX K x y H Q\/RY x y H Q
theorem Ba:IxR X (rIx X.K):=Mm.or (PU.or PV)
theorem AU(its:List Value)(n j:Nat)(u:Value):Yr (·.setIfInBounds j u) { cls:=.type "list",data:=.seq its.toArray n } ={ cls:=.type "list",data:=.seq (its.set j u).toArray n }:=by
 simp[Yr]
theorem Inv.lst{σ:St}{s:Shared}{p:Addr}(I:Inv X j0 σ H s)(h:H p=some (.lst xs)) :
  ∃(its:List Value)(n:Nat),Vals xs its/\s.heap.get? p=some { cls:=.type "list",data:=.seq its.toArray n }/\xs.length<=WT:=by
 obtain⟨z,its,n,r,e⟩:=I.hok p _ h;exact⟨its,n,r,e,z⟩
theorem Inv.PB{σ:St}{s:Shared}{p:Addr}{ys:List V}{its':List Value}{n':Nat}{f:Obj->Obj}(I:Inv X j0 σ H s)(h:H p=some (.lst xs))
  (ho:s.heap.get? p=some { cls:=.type "list",data:=.seq its.toArray n }) (hf:f { cls:=.type "list",data:=.seq its.toArray n } ={ cls:=.type "list",data:=.seq its'.toArray n' }) (r:Vals ys its') (hz:ys.length<=WT) (t:Nat) :
  Inv X j0 σ (upd H p (.lst ys)) { s with heap:=s.heap.update p f,toks:=t }:=by
 have e:(s.heap.update p f).get? p=some { cls:=.type "list",data:=.seq its'.toArray n' }:=by
  rw[XR f ho (by rw[hf] <;> rfl),hf]
 refine I.write (x:=p) (e:=p) (by rw[h];trivial) (.inl rfl) (fun b u hb q=>(Xx _ _ (Ne.symm hb)).trans q) ⟨_,e⟩ ?_
 exact⟨hz,its',n',r,e⟩
def GB:V->V->V->Hp ->(Hp->Prop)->Prop:=fun o i v H Q=>∃ p xs k j,o = .ref p/\i = .int k/\H p=some (.lst xs)/\ixN xs.length k=some j/\Q (upd H p (.lst (xs.set j v)))
theorem set_list:UN X GB:=by
 intro j0 s σ H o i v ov iv u Q I ro ri rv h;obtain⟨p,xs,k,j,rfl,rfl,hp,hj,q⟩:=h;cases ro;obtain⟨t,rfl⟩:=ri;obtain⟨its,n,r,ho,hz⟩:=I.lst hp;obtain⟨h1,h2,h3,h4⟩:=Cq hj;have hl:=r.length;have hn:=jH;have I':Inv X j0 σ (upd H p (.lst (xs.set j v))) { s with heap:=s.heap.update p (Yr (·.setIfInBounds j u)) } :=
  I.PB hp ho (AU its n j u) (r.set rv j) (by rw[XW];exact hz) s.toks
 by_cases h0:0<=k
 ·have hk:k.toNat=j:=by
   rw[seqIndex_of h0 h4]at h1;exact Option.some.inj h1
  exact W.ki_setAt ho h0 (by omega) (by rw[Wc,<- hl];exact h4) (by rw[hk];exact⟨_,I',q⟩)
 ·have hk:(k+(its.toArray.size:Int)).toNat=j:=by
   rw[seqIndex_neg (by omega) h3]at h1
   rw[Wc,<- hl];exact Option.some.inj h1
  exact W.ki_setBack ho (by omega) (by rw[Wc,<- hl];exact h3) (by omega) (by rw[hk];exact⟨_,I',q⟩)
theorem vC(lo hi:Option Int)(n:Nat):(sliceBounds lo hi none n).1 =((HT.sIx n 0 lo:Nat):Int)/\(sliceBounds lo hi none n).2.1 =((HT.sIx n n hi:Nat):Int)/\(sliceBounds lo hi none n).2.2=1:=by
 refine⟨?_,?_,rfl⟩
 ·cases lo with
  | none=>simp[sliceBounds,HT.sIx]
  | some i =>
   simp only[sliceBounds,HT.sIx,ZP,show(1:Int) > 0 by decide,if_true]
   by_cases h:i<0
   ·simp only[h,if_true] <;> first|exact HT.F4 _ _ h|omega
   ·simp only[h,if_false] <;> first|exact HT.FZ _ _ h|omega
 ·cases hi with
  | none=>simp[sliceBounds,HT.sIx]
  | some i =>
   simp only[sliceBounds,HT.sIx,ZP,show(1:Int) > 0 by decide,if_true]
   by_cases h:i<0
   ·simp only[h,if_true] <;> first|exact HT.F4 _ _ h|omega
   ·simp only[h,if_false] <;> first|exact HT.FZ _ _ h|omega
theorem tZ(its:List Value)(lo hi:Option Int):slicePick its.toArray lo hi none =((its.drop (HT.sIx its.length 0 lo)).take (HT.sIx its.length its.length hi - HT.sIx its.length 0 lo)).toArray:=by
 obtain⟨h1,h2,h3⟩:=vC lo hi its.toArray.size;unfold slicePick;rw[h1,h2,h3];simp only[sliceRange_one,pick_run,Wc] <;> rfl
def RU(K:W.Frag):V->Option Int->Option Int->Hp->VK->Prop:=fun x lo hi H Q=>∃ a xs,x = .ref a/\SqL K H a xs/\∀ p,H p=none->Q (.ref p) (upd H p (.lst (mf xs lo hi)))
theorem BU:SlR X (RU X.K):=by
 intro j0 s σ H x v vl vu lo hi sl Q I rx hs pl pu h;obtain⟨a,xs,rfl,hx,q⟩:=h;cases rx;obtain⟨its,r,ht,hz⟩:=I.list hx;have hlen:=r.length;refine⟨"list",_,slot_list_getitem.lookup,ht.isList.typeIs,?_⟩;refine wpAny_getItem_list_slice ht.isList hs pl pu .none (by simp) ?_ (by rw[Wc] <;> omega)
 rw[tZ,<- hlen];refine⟨.ref s.heap.objs.size,_,I.laid (t':=s.toks) (o:=.lst (mf xs lo hi)) (fun b ob q=>j3 _ q) (Xa _) ?_,rfl,q _ (I.hok.fresh (Xa _))⟩
 exact⟨Xw (pM xs lo hi) hz,_,0,(r.drop (HT.sIx xs.length 0 lo)).take (HT.sIx xs.length xs.length hi - HT.sIx xs.length 0 lo),W8 _ rfl⟩
def dX:V->Bool
 | .non=>true
 | .bl _=>true
 | .int _=>true
 | .str _=>true
 | _=>false
def eqV:V->V->Bool
 | .non,.non=>true
 | .bl a,.bl b=>a==b
 | .bl a,.int b=>(if a then 1 else 0)==b
 | .int a,.bl b=>a ==(if b then 1 else 0)
 | .int a,.int b=>a==b
 | .str a,.str b=>a==b
 | _,_=>false
theorem o6{s:Shared}{x:V}{v:Value}(ry:RelV y u)(rx:RelV x v)(fy:dX y=true)(fx:dX x=true):SeqAt.EqAt A s u v (eqV y x):=by
 cases y with
 | non =>
  cases ry;cases x with
  | non=>cases rx;exact SeqAt.EqAt.same _
  | bl b=>cases rx;exact SeqAt.EqAt.none_bool b
  | int b=>obtain⟨t,rfl⟩:=rx;exact SeqAt.EqAt.none_int b t
  | str b=>obtain⟨t,rfl⟩:=rx;exact SeqAt.EqAt.none_str b t
  | _=>exact absurd (show false=true from fx) Xd
 | bl a =>
  cases ry;cases x with
  | non=>cases rx;exact SeqAt.EqAt.bool_none a
  | bl b=>cases rx;exact SeqAt.EqAt.bool_bool a b
  | int b=>obtain⟨t,rfl⟩:=rx;exact SeqAt.EqAt.bool_int a b t
  | str b=>obtain⟨t,rfl⟩:=rx;exact SeqAt.EqAt.bool_str a b t
  | _=>exact absurd (show false=true from fx) Xd
 | int a =>
  obtain⟨t',rfl⟩:=ry;cases x with
  | non=>cases rx;exact SeqAt.EqAt.int_none a t'
  | bl b=>cases rx;exact SeqAt.EqAt.int_bool a t' b
  | int b=>obtain⟨t,rfl⟩:=rx;exact SeqAt.EqAt.int_int a t' b t
  | str b=>obtain⟨t,rfl⟩:=rx;exact SeqAt.EqAt.int_str a t' b t
  | _=>exact absurd (show false=true from fx) Xd
 | str a =>
  obtain⟨t',rfl⟩:=ry;cases x with
  | non=>cases rx;exact SeqAt.EqAt.str_none a t'
  | bl b=>cases rx;exact SeqAt.EqAt.str_bool a t' b
  | int b=>obtain⟨t,rfl⟩:=rx;exact SeqAt.EqAt.str_int a t' b t
  | str b=>obtain⟨t,rfl⟩:=rx;exact SeqAt.EqAt.str_str a t' b t
  | _=>exact absurd (show false=true from fx) Xd
 | _=>exact absurd (show false=true from fy) Xd
def eqU(x:V)(u:Value):Bool:=match u with
 | .none=>eqV .non x
 | .bool b=>eqV (.bl b) x
 | .int i _=>eqV (.int i) x
 | .str z _=>eqV (.str z) x
 | _=>false
theorem IJ{x:V}(r:RelV y u)(f:dX y=true):eqU x u=eqV y x:=by
 cases y with
 | non=>cases r;rfl
 | bl b=>cases r;rfl
 | int i=>obtain⟨t,rfl⟩:=r;rfl
 | str z=>obtain⟨t,rfl⟩:=r;rfl
 | _=>exact absurd (show false=true from f) Xd
theorem ox{x:V}:∀{xs:List V}{us:List Value},Vals xs us->xs.all dX=true->us.any (eqU x)=xs.any fun y=>eqV y x
 | _,_,.nil,_=>rfl
 | y::xs,u::us,.cons r t,f=>by
  rw[Zy,Xi]at f;rw[Ys,Ys,IJ r f.1,ox t f.2]
theorem kF{A:Around}{s:Shared}{x:V}{v:Value}(rx:RelV x v)(fx:dX x=true):∀{xs:List V}{us:List Value},Vals xs us->xs.all dX=true->∀ u∈us,SeqAt.EqAt A s u v (eqU x u)
 | _,_,.nil,_=>fun u hu=>by cases hu
 | y::xs,u::us,.cons r t,f=>fun u' hu=>by
  rw[Zy,Xi]at f;rcases QH.mp hu with rfl|hu
  ·rw[IJ r f.1];exact o6 r rx f.1 fx
  ·exact kF rx fx t f.2 u' hu
def inV(x:V)(xs:List V):Bool:=xs.any fun y=>eqV y x
def rIn(K:W.Frag)(neg:Bool):R2:=fun x y H Q=>∃ p xs,y = .ref p/\(SqL K H p xs\/SqT K H p xs)/\dX x=true/\xs.all dX=true/\Q (.bl (if neg then !inV x xs else inV x xs)) H
theorem DP:OpR X (compareOp .In) (rIn X.K false):=by
 intro j0 s σ H x y v u Q I rx ry h;obtain⟨p,xs,rfl,hq,fx,fs,q⟩:=h;cases ry;rcases hq with hq|hq
 ·obtain⟨its,r,pl,hz⟩:=I.list hq;refine SeqAt.in_listAt (eqU x) pl.isList (fun w hw=>kF rx fx r fs w (by simpa using hw)) ⟨.bl _,H,I,rfl,?_⟩
  rw[show its.toArray.any (eqU x)=its.any (eqU x)by simp,ox r fs]
  exact q
 ·obtain⟨its,r,pl,hz⟩:=I.tuple hq;refine SeqAt.in_tupleAt (eqU x) pl (fun w hw=>kF rx fx r fs w (by simpa using hw)) ⟨.bl _,H,I,rfl,?_⟩
  rw[show its.toArray.any (eqU x)=its.any (eqU x)by simp,ox r fs]
  exact q
theorem wH:OpR X (compareOp .NotIn) (rIn X.K true):=by
 intro j0 s σ H x y v u Q I rx ry h;obtain⟨p,xs,rfl,hq,fx,fs,q⟩:=h;cases ry;rcases hq with hq|hq
 ·obtain⟨its,r,pl,hz⟩:=I.list hq;refine SeqAt.notIn_listAt (eqU x) pl.isList (fun w hw=>kF rx fx r fs w (by simpa using hw)) ⟨.bl _,H,I,rfl,?_⟩
  rw[show its.toArray.any (eqU x)=its.any (eqU x)by simp,ox r fs]
  exact q
 ·obtain⟨its,r,pl,hz⟩:=I.tuple hq;refine SeqAt.notIn_tupleAt (eqU x) pl (fun w hw=>kF rx fx r fs w (by simpa using hw)) ⟨.bl _,H,I,rfl,?_⟩
  rw[show its.toArray.any (eqU x)=its.any (eqU x)by simp,ox r fs]
  exact q
theorem ot:c7 X (.builtin "len") (fun xs H Q=>∃ p ys,xs = [.ref p]/\(SqL X.K H p ys\/SqT X.K H p ys)/\Q (.int ys.length) H):=by
 intro j0 s σ H xs us Q I r h;obtain⟨p,ys,rfl,hq,q⟩:=h;obtain⟨u,rfl,rx⟩:=vals1 r;cases rx;have hn:=jH;rcases hq with hq|hq
 ·obtain⟨its,r',pl,hz⟩:=I.list hq;have hlen:=r'.length;exact Calls.call_len_list pl.isList (by simp only[Wc] <;> omega) ⟨.int ys.length,H,I.tok _,⟨s.toks+1,by rw[Wc,hlen]⟩,q⟩
 ·obtain⟨its,r',pl,hz⟩:=I.tuple hq;have hlen:=r'.length;exact len_tuple pl (by simp only[Wc] <;> omega) ⟨.int ys.length,H,I.tok _,⟨s.toks+1,by rw[Wc,hlen]⟩,q⟩
theorem xy:c7 X (.builtin "len") (fun xs H Q=>∃ z,xs = [.str z]/\z.length<=WT/\Q (.int z.length) H):=by
 intro j0 s σ H xs us Q I r h;obtain⟨z,rfl,hz,q⟩:=h;obtain⟨u,rfl,t,rfl⟩:=vals1 r;have hn:=jH;exact len_str (by omega) ⟨.int z.length,H,I.tok _,⟨_,rfl⟩,q⟩
theorem c7.or{f:Value}{r':List V->Hp->VK->Prop}(h:c7 X f r)(h':c7 X f r'):c7 X f (fun xs H Q=>r xs H Q\/r' xs H Q):=by
 intro j0 s σ H xs us Q I rs q;rcases q with q|q
 ·exact h j0 s σ H xs us Q I rs q
 ·exact h' j0 s σ H xs us Q I rs q
theorem ux:c7 X (.type "tuple") (fun xs H Q=>∃ p ys,xs = [.ref p]/\((SqL X.K H p ys/\∀ l,H l=none->Q (.ref l) (upd H l (.tup ys)))\/(SqT X.K H p ys/\Q (.ref p) H))):=by
 intro j0 s σ H xs us Q I r h;obtain⟨p,ys,rfl,h⟩:=h;obtain⟨u,rfl,rx⟩:=vals1 r;cases rx;rcases h with⟨hq,q⟩ |⟨hq,q⟩
 ·obtain⟨its,r',pl,hz⟩:=I.list hq;have hlen:=r'.length;refine call_tuple_list pl.isList (fun h' kp=>?_) (by simp only[Wc] <;> omega)
  have I1:Inv X j0 σ H { s with heap:=h' }:=I.kept (t':=s.toks) kp
  have I2:Inv X j0 σ (upd H h'.objs.size (.tup ys)) { s with heap:=h'.push { cls:=.type "tuple",data:=.seq its.toArray } } :=
   I1.laid (t':=s.toks) (fun b o e=>j3 _ e) (Xa _) (show bH X.prog X.w _ _ _ (.tup ys)from⟨hz,its,r',lA.new _ _⟩)
  exact⟨.ref h'.objs.size,_,I2,rfl,q _ (I1.hok.fresh (Xa _))⟩
 ·obtain⟨its,r',pl,hz⟩:=I.tuple hq;exact call_tuple_same pl ⟨.ref p,H,I,rfl,q⟩
def tyV(K:W.Frag)(T:String)(x:V)(H:Hp):Prop:=match x with
 | .str _=>T = "str"
 | .int _=>T = "int"
 | .ref p=>(T = "list" /\ ∃ xs,SqL K H p xs)\/(T = "tuple" /\ ∃ o,K.lookup p=some o/\o.cls = .type "tuple" /\ o.dict=none) \/
   (T = "dict" /\ ((∃ kvs,H p=some (.dK kvs))\/∃ kvs,H p=some (.dT kvs)))\/(T = "set" /\ ∃ S n,H p=some (.set S n))
 | _=>False
theorem FJ{σ:St}{s:Shared}{T:String}{x:V}{v:Value}(I:Inv X j0 σ H s)(r:RelV x v)(ty:tyV X.K T x H) :
  s.TypeIs v T/\∀ a,v = .ref a->∃ ob,s.heap.get? a=some ob/\ob.dict=none:=by
 cases x with
 | str z =>
  obtain⟨t,rfl⟩:=r
  cases(show T = "str" from ty)
  exact⟨typeIs_str s z t,fun _ e=>nomatch e⟩
 | int i =>
  obtain⟨t,rfl⟩:=r
  cases(show T = "int" from ty)
  exact⟨typeIs_int s i t,fun _ e=>nomatch e⟩
 | ref p =>
  cases r;rcases ty with⟨rfl,xs,hq⟩ |⟨rfl,o,hk,hc,hd⟩ |⟨rfl,hk⟩ |⟨rfl,S,n,hk⟩
  ·obtain⟨its,_,pl,_⟩:=I.list hq;refine⟨pl.isList.typeIs,fun a e=>?_⟩
   cases e;obtain⟨o,n,e,c,hd,_⟩:=pl;exact⟨o,e,hd⟩
  ·refine⟨⟨o,I.kIn p o hk,hc⟩,fun a e=>?_⟩
   cases e;exact⟨o,I.kIn _ o hk,hd⟩
  ·have z:∃ o,s.heap.get? p=some o/\o.ExactDict:=by
    rcases hk with⟨kvs,hk⟩ |⟨kvs,hk⟩
    ·obtain⟨_,_,_,_,o,_,_,e,ex,_⟩:=I.hok p _ hk;exact⟨o,e,ex⟩
    ·obtain⟨_,_,_,_,o,_,_,e,ex,_⟩:=I.hok p _ hk;exact⟨o,e,ex⟩
   obtain⟨o,e,ex⟩:=z;refine⟨⟨o,e,ex.1⟩,fun a e2=>?_⟩
   cases e2;exact⟨o,e,ex.2.1⟩
  ·obtain⟨o,_,_,_,e,ex,_⟩:=I.hok p _ hk;refine⟨⟨o,e,ex.1⟩,fun a e2=>?_⟩
   cases e2;exact⟨o,e,ex.2.1⟩
 | _=>exact False.elim ty
def Oo(K:W.Frag)(T:String)(r:V->List V->Hp->VK->Prop)(to:TE):TE:=fun σ H Q=>to σ H fun x H1=>tyV K T x H1/\r x [] H1 Q
def tBM(K:W.Frag)(T:String)(r:V->List V->Hp->VK->Prop)(to:TE)(t:TA):TE:=fun σ H Q=>to σ H fun x H1=>tyV K T x H1/\t σ H1 fun xs H2=>r x xs H2 Q
variable{o e:Expr}{es:List Expr}{to:TE}{t:TA}{name:Str}{apos aT:Pos}{T id:String}{r:V->List V->Hp->VK->Prop}
theorem HA(pa:PlainAttrs T)(slot:Slot T name id)(hty:typeOf (.builtin id)=pure (.type "method_descriptor"))(hm:MtR X id r)(ho:PE X o to)
  (c6:attributeBase o name X.env (eval o X.env)=eval o X.env:=by rfl) (c5:(apos.endLine==aT.line)=true:=by rfl):PE X (.Call (.Attribute o name apos) [] [] aT) (Oo X.K T r to):=by
 intro j0 s σ H Q I h;refine wpAny_Call_method0_late c6 c5 (thn (ho j0 s σ H _ I h) fun v s1 hPP=>?_)
 obtain⟨x,H1,I1,r1,ty,q1⟩:=hPP;obtain⟨h1,h2⟩:=FJ I1 r1 ty;exact⟨T,id,pa,slot,hty,h1,h2,Calls.callWith_builtin rfl (PySem.evalArgs_none (hm j0 s1 σ H1 x [] v [] Q I1 r1 .nil q1))⟩
theorem uV(pa:PlainAttrs T)(slot:Slot T name id)(hty:typeOf (.builtin id)=pure (.type "method_descriptor"))(hm:MtR X id r)(ho:PE X o to)(ha:PA X (e::es) t)
  (c6:attributeBase o name X.env (eval o X.env)=eval o X.env:=by rfl)
  (kR:((backTo aT (QX (e::es) X.env)).all (fun x=>!x.1)&&(backToKw aT (keywordEach [] X.env)).all (fun x=>x.1.isSome)
   && decide ((e::es).length+([]:List Keyword).length+(if([]:List Keyword).isEmpty then 0 else 1)<30))=true:=by rfl)
  (c5:(apos.endLine==aT.line)=true:=by rfl) (hs:QX (e::es) X.env =(false,eval e X.env)::QX es X.env:=by rfl) (cF:(backTo aT (QX es X.env)).any (·.1)=false:=by rfl) :
  PE X (.Call (.Attribute o name apos) (e::es) [] aT) (tBM X.K T r to t):=by
 intro j0 s σ H Q I h;refine wpAny_Call_method_late c6 kR c5 rfl (thn (ho j0 s σ H _ I h) fun v s1 hPP=>?_)
 obtain⟨x,H1,I1,r1,ty,q1⟩:=hPP;obtain⟨h1,h2⟩:=FJ I1 r1 ty;refine⟨T,id,pa,slot,hty,h1,h2,?_⟩;have hA:=ha aT j0 s1 σ H1 _ I1 q1;rw[hs]at hA ⊢;refine Calls.callWith_builtin (by show(false ||(backTo aT (QX es X.env)).any (·.1))=false;rw[cF] <;> rfl) (Calls.evalArgs_plain ?_)
 refine thn hA fun us s2 hPP=>?_
 obtain⟨vs,H2,I2,r2,q2⟩:=hPP;exact hm j0 s2 σ H2 x vs v us Q I2 r1 r2 q2
end
def MtM(X:Cx)(id:String)(r:V->List V->Hp->VK->Prop):Prop :=
 ∀(j0:List (Addr×Obj))(s:Shared)(σ:St)(H:Hp)(x:V)(xs:List V)(v:Value)(us:List Value)(Q:VK),Inv X j0 σ H s->RelV x v->Vals xs us->r x xs H Q ->
  wpAny (model X.prog X.w) X.A (call (.builtin id) (v::us)) (EP X j0 σ Q) X.xe s
theorem Vals.one:∀{x:V}{us:List Value},Vals [x] us->∃ u,us = [u]/\RelV x u:=by
 intro x us h;cases h with
 | cons r t=>cases t;exact⟨_,rfl,r⟩
theorem Vals.zero:∀{us:List Value},Vals [] us->us = []
 | _,.nil=>rfl
theorem Vals.dropLast{xs:List V}{us:List Value}(h:Vals xs us):Vals xs.dropLast us.dropLast:=by
 induction h with
 | nil=>exact .nil
 | cons r t ih =>
  cases t with
  | nil=>exact .nil
  | cons q t'=>exact .cons r ih
theorem Vals.reverse{xs:List V}{us:List Value}(h:Vals xs us):Vals xs.reverse us.reverse:=by
 induction h with
 | nil=>exact .nil
 | cons r t ih=>rw[Yy,Yy];exact Vals.append ih (.cons r .nil)
theorem Bg{α:Type}(l:List α):l.eraseIdx (l.length - 1)=l.dropLast:=by
 induction l with
 | nil=>rfl
 | cons a r ih =>
  cases r with
  | nil=>rfl
  | cons b r =>
   have e:(a::b::r).length - 1 =((b::r).length - 1)+1:=by
    rfl
   rw[e,List.eraseIdx_cons_succ,ih]
   all_goals rfl
variable{t':Nat}
section
variable{X:Cx}{σ:St}{s:Shared}{l b:Addr}{ys zs:List V}
theorem Inv.Me{its':List Value}{f:Array Value->Array Value}{t':Nat}(I:Inv X j0 σ H s)(hH:H l=some (.lst xs))
  (e:s.heap.get? l=some { cls:=.type "list",data:=.seq its.toArray n }) (hf:f its.toArray=its'.toArray) (hv:Vals ys its') (hz:ys.length<=WT) :
  Inv X j0 σ (upd H l (.lst ys)) { s with heap:=s.heap.update l (Yr f),toks:=t' }:=by
 have q:=PySem.IsL.update e f;rw[hf]at q;refine I.write (x:=l) (e:=l) (by rw[hH];exact trivial) (.inl rfl) (fun b' u hb hu=>(Xx s.heap (Yr f) (Ne.symm hb)).trans hu) ⟨_,q⟩ ?_
 exact⟨hz,its',_,hv,q⟩
theorem Inv.Tq(I:Inv X j0 σ H s)(hv:Vals ys its)(hz:ys.length<=WT) :
  Inv X j0 σ (upd H s.heap.objs.size (.lst ys)) { s with heap:=s.heap.push { cls:=.type "list",data:=.seq its.toArray },toks:=t' } :=
 I.laid (fun _ _ q=>j3 _ q) (Xa _) ⟨hz,its,0,hv,W8 _ rfl⟩
theorem Inv.fresh(I:Inv X j0 σ H s):H s.heap.objs.size=none:=I.hok.fresh (Xa _)
theorem Inv.AX(I:Inv X j0 σ H s)(hH:H l=some (.lst xs)):xs.length<=WT/\∃(its:List Value)(n:Nat),Vals xs its/\xs.length=its.length/\s.heap.get? l=some { cls:=.type "list",data:=.seq its.toArray n }:=by
 obtain⟨z,its,n,r,e⟩:=I.hok l _ hH;exact⟨z,its,n,r,r.length,e⟩
theorem yS(h:n<=WT):Builtin.List.listTooLong n=false:=by
 unfold Builtin.List.listTooLong;exact decide_eq_false (by omega)
end
section
variable{X:Cx}
def nK:V->List V->Hp->VK->Prop:=fun x vs H Q=>∃ l xs y,x = .ref l/\vs = [y]/\H l=some (.lst xs)/\xs.length<WT/\Q .non (upd H l (.lst (xs ++ [y])))
theorem uX:MtM X "list.append" nK:=by
 intro j0 s σ H x vs v us Q I rx rv h;obtain⟨l,xs,y,rfl,rfl,hH,hz,q⟩:=h;cases rx;obtain⟨u,rfl,ru⟩:=rv.one;obtain⟨z,its,n,r,hl,e⟩:=I.AX hH;refine call_meets F.slot_list_append ⟨_,e,rfl⟩ F.entry_list_append (F.args_list_append_2 _ _) (PySem.list_append l its.toArray n u (by rw[Wc];omega)) ⟨e,?_⟩
 refine⟨.non,_,I.Me (its':=its ++ [u]) hH e (by simp) (r.append (.cons ru .nil)) ?_,rfl,q⟩
 rw[Xl,List.length_singleton];omega
def qy:V->List V->Hp->VK->Prop:=fun x vs H Q=>∃ l b xs zs,x = .ref l/\vs = [.ref b]/\H l=some (.lst xs)/\H b=some (.lst zs)/\xs.length+zs.length<=WT/\Q .non (upd H l (.lst (xs++zs)))
theorem D7:MtM X "list.extend" qy:=by
 intro j0 s σ H x vs v us Q I rx rv h;obtain⟨l,b,xs,zs,rfl,rfl,hH,hB,hz,q⟩:=h;cases rx;obtain⟨u,rfl,ru⟩:=rv.one;cases ru;obtain⟨z,its,n,r,hl,e⟩:=I.AX hH;obtain⟨z2,bb,n2,r2,hl2,e2⟩:=I.AX hB;have hsz:its.toArray.size+bb.toArray.size<=WT:=by rw[Wc,Wc];omega
 have Iu:¬(!its.toArray.isEmpty&&Builtin.List.listTooLong (its.toArray.size+bb.toArray.size))=true:=by
  rw[yS hsz,YX];exact Xd
 refine call_meets F.slot_list_extend ⟨_,e,rfl⟩ F.entry_list_extend (F.args_list_extend_2 _ _)
  (AutoSeq1.list_extend_list_list_0 l its.toArray n b bb.toArray n2 Iu (by rw[Wc];omega) (by omega)) ⟨e,e2,?_⟩
 refine⟨.non,_,I.Me (its':=its++bb) hH e (by simp) (r.append r2) ?_,rfl,q⟩
 rw[Xl];omega
def OL:V->List V->Hp->VK->Prop:=fun x vs H Q=>∃ l xs y,x = .ref l/\vs = []/\H l=some (.lst xs)/\xs[xs.length - 1]? = some y/\Q y (upd H l (.lst xs.dropLast))
theorem HU:MtM X "list.pop" OL:=by
 intro j0 s σ H x vs v us Q I rx rv h;obtain⟨l,xs,y,rfl,rfl,hH,hy,q⟩:=h;cases rx;have hus:=rv.zero;subst hus;obtain⟨z,its,n,r,hl,e⟩:=I.AX hH;obtain⟨u,hu,ru⟩:=r.get hy;have hy':its.toArray[its.toArray.size - 1]? = some u:=by
  show its.toArray[its.length - 1]? = some u;rw[<- Zm,<- hl];exact hu
 refine call_meets F.slot_list_pop ⟨_,e,rfl⟩ F.entry_list_pop (F.args_list_pop_1 _) (MeetsSeq.list_pop_last l its.toArray n u hy' (by rw[Wc];omega)) ⟨e,?_⟩
 refine⟨y,_,I.Me (its':=its.dropLast) hH e ?_ r.dropLast ?_,ru,q⟩
 ·show its.toArray.eraseIdxIfInBounds (its.toArray.size - 1)=its.dropLast.toArray;rw[Wc,List.eraseIdxIfInBounds_toArray,Bg]
 ·rw[List.length_dropLast];omega
def R4:R2:=fun x y H Q=>∃ l b xs zs,x = .ref l/\y = .ref b/\H l=some (.lst xs)/\H b=some (.lst zs)/\xs.length+zs.length<=WT/\∀ p,H p=none->Q (.ref p) (upd H p (.lst (xs++zs)))
theorem Pm:OpR X (binaryOp .Add) R4:=by
 intro j0 s σ H x y v u Q I rx ry h;obtain⟨l,b,xs,zs,rfl,rfl,hH,hB,hz,q⟩:=h;cases rx;cases ry;obtain⟨z,its,n,r,hl,e⟩:=I.AX hH;obtain⟨z2,bb,n2,r2,hl2,e2⟩:=I.AX hB;refine PySem.P.add_list e e2 ?_ (by rw[Wc,Wc];omega)
 have ea:its.toArray++bb.toArray =(its++bb).toArray:=by simp
 rw[ea];exact⟨.ref _,_,I.Tq (t':=s.toks) (r.append r2) (by rw[Xl];omega),rfl,q _ I.fresh⟩
end
end L2
namespace Att
open PySem PySem.W PySem.Calls PyProof.Rows
theorem p7{P:Params}{h:Heap}:∀(ns:List Int)(vs:List Value),WellAll P h vs (ns.map WData.int)->IntsAre vs ns:=by
 intro ns
 induction ns with
 | nil =>
  intro vs w;rw[Zc]at w;cases w;exact .nil
 | cons n ns ih =>
  intro vs w;rw[Xs]at w;cases w with
  | cons a b =>
   cases a;exact .cons _ _ (ih _ b)
theorem Dv{l:OpenLaw}{n:Nat}(hn:l.most=some n){P:Params}{h:Heap}{args:List WData}{vals:List Value}
  (hpre:l.row.toRowW.claim.pre args=true) (hwl:WellAll P h vals args) :
  ∃ a vs ns,vals = [Value.ref a]/\args = [WData.list (ns.map WData.int)]/\h.get? a=some { cls:=.type "list",data:=.seq vs.toArray }/\IntsAre vs ns/\ns.length<=n:=by
 have hsh:WShape.hasAll [] args [.list .int]=true:=(pre_splitW hpre).1;have hc:l.pre.holds [] { args:=args }=true:=(pre_splitW hpre).2;obtain⟨d,r,rfl,h1,h2⟩:=hasAllW_cons hsh;obtain rfl:=hasAllW_nil h2;obtain⟨xs,rfl,h3⟩:=hasW_list h1;obtain⟨ns,rfl⟩:=items_int h3;have hlen:ns.length<=n:=by
  unfold OpenLaw.pre at hc;have h4:(WTm.not (.lt (.lit (.int (n:Int))) (.len (.arg 0)))).holds [] { args:=[.list (ns.map .int)] }=true:=by
   have h4:=(holds_andW hc).1;rw[hn]at h4;exact h4
  have h5:=condW_of h4 (w_not (w_lt w_lit (w_len_list (w_arg rfl))));rw[PZ]at h5;refine Y8 fun q=>?_
  have q':(n:Int)<((ns.length:Nat):Int):=by omega
  first
   | (rw[decide_eq_true q']at h5;exact absurd h5 (by decide))
   | (simp at h5;omega)
 cases hwl with
 | cons w1 w2 =>
  cases w2;cases w1 with
  | list ho IA=>exact⟨_,_,ns,rfl,rfl,ho,p7 ns _ IA,hlen⟩
theorem DI(l:OpenLaw)(args:List WData):l.row.toRowW.claim.post args (.bool true) args=true :=
 postW_of (r:=l.row.toRowW) (X:=(true==true))
  (show WShape.has [] (.bool true) .bool=true by first|rfl|decide|simp[WShape.has,WShape.arms,WShape.armsAll])
  (show(WTm.eq .res (.lit (.bool true))).value [] { args:=args,res:=some (.bool true),after:=args }=some (.bool (true==true))from w_eq_bool (w_res rfl) w_lit) rfl
theorem zx{l:OpenLaw}{n:Nat}{q:Program}{loose:List Str}{XP:(Str->Option Value)->Heap->Prop}{YP:World->Heap->Prop}{d:DefRec}
  (hn:l.most=some n) (hdf:d.params.defaults = [])
  (call:∀(w:World)(s₀ s₁:Shared)(mg mb:Str->Option Value)(fa:Addr)(o:Obj)(pm cd doc:Value)(a:Addr)(vs:List Value)(ns:List Int),
   Ground q loose [] XP w s₀ mg mb s₁.heap->YP w s₁.heap ->
   s₁.heap.get? fa=some o->o.data = .func (docDef d.name d.params d.body d.scope pm cd doc)->s₁.heap.CodeRec cd d.name->mg d.name=some (.ref fa) ->
   s₁.heap.get? a=some { cls:=.type "list",data:=.seq vs.toArray }->IntsAre vs ns->ns.length<=n->s₁.gens = #[] ->
   codeAny (model l.prog w) callerA (.call (.ref fa) ⟨[.ref a],[]⟩) (fun r s'=>r = .ok (.ret (.bool true))/\OldK s₁.heap s'.heap/\s'.os=s₁.os/\AllBare s'.gens) s₁) :
  WalkO q loose XP YP l.row.toRowW d [] (fun f vs=>PySem.call f vs):=by
 intro w s₀ s₁ mg mb G Y fa o pm cd doc dV kV ho hd hcd hD hmg hg args vals as hpre W9 hrd hwl hlo;obtain rfl:dV = .none:=Dflts.none hD hdf;obtain rfl:kV = .none:=Dflts.noKw hD;obtain⟨a,vs,ns,rfl,rfl,P6,hints,hlen⟩:=Dv hn hpre hwl;refine enter_call (codeAny_mono (call w s₀ s₁ mg mb fa o pm cd doc a vs ns G Y ho (fd_plain hd) hcd hmg P6 hints hlen hg) fun r s' hq=>?_)
 obtain⟨rfl,h2,h3,h4⟩:=hq;exact⟨.inl ⟨.bool true,.bool true,[],rfl,fun _=>rfl,.bool true,DI l _,fun _=>⟨List.Pairwise.nil,fun _ hm=>(nomatch hm)⟩⟩,h2,h3,h4⟩
section
variable{prog:Program}{w:World}{A:Around}{E:Value->Shared->Prop}{s:Shared}{K:Frag}
def ledger(h:Heap)(L d:Addr):List (Addr×Obj):=(Xt h.objs.size).filterMap fun a=>if a=L\/a=d then none else(h.get? a).map fun o=>(a,o)
end
end Att
namespace L2
open PySem PySem.Spec PyProof.Rows
theorem uI:∀{vs:List Value}{ns:List Int},IntsAre vs ns->Vals (ns.map V.int) vs
 | _,_,.nil=>.nil
 | _,_,.cons n t h=>.cons ⟨t,rfl⟩ (uI h)
def Nf(H:Hp):Prop:=∀ b,H b=none\/∃ o xs,H b=some (.frz o (.lst xs))
variable{mg:Str->Option Value}{a:Addr}{x:Str}{ns:List Int}
theorem HY{P:Program}{w:World}{K:W.Frag}{mb:Str->Option Value}{CX:CXT}{k:Nat}{fa:Addr}{fd:FuncData}{sp:Sp}{s₁:Shared}{vs:List Value}
  (KX:K.In s₁.heap) (hns:s₁.heap.Ns mainGlobals mg) (hb:s₁.heap.Ns builtinsNs mb) (hbb:∀ x:Str,x ≠ "__name__" -> mb x=bootBuiltins x) (Wm:s₁.heap.NoLimit) (hg:s₁.gens = #[])
  (ha:s₁.heap.get? a=some { cls:=.type "list",data:=.seq vs.toArray }) (hi:IntsAre vs ns) (hl:ns.length<=WT) (hr:bT k callerA)
  (F:∀ base:Heap,K.In base->base.Ns mainGlobals mg->aP P w K mg base CX k fa fd [x] sp) (T3:∀(s:Shared)(u:Value),BindsTo s fd ⟨[u],[]⟩ [(x,u)])
  (hsp:∀ H:Hp,Nf H->SqL K H a (ns.map V.int)->sp [.ref a] H (fun v _=>v = .bl true) fun _ _ _=>False)
  (hCX:∀ H e s',CX [] H s₁ (fun _ _ _=>False) e s'->False) :
  codeAny (model P w) callerA (.call (.ref fa) ⟨[.ref a],[]⟩) (fun r s'=>r = .ok (.ret (.bool true))/\OldK s₁.heap s'.heap/\s'.os=s₁.os/\AllBare s'.gens) s₁:=by
 have rv:=uI hi;have V6:=hi.length;have core:∀ H:Hp,Nf H->SqL K H a (ns.map V.int)->HOk P w H s₁.heap ->(∀ b,H b≠none->b=a) ->(H a≠none->K.lookup a=none) ->
   codeAny (model P w) callerA (.call (.ref fa) ⟨[.ref a],[]⟩) (fun r s'=>r = .ok (.ret (.bool true))/\OldK s₁.heap s'.heap/\s'.os=s₁.os/\AllBare s'.gens) s₁:=by
  intro H hO hS hok hA hK;have CQ:∀{b:Addr}{o:Obj},s₁.heap.get? b=some o->H b=none ->(xl s₁.heap H).get? b=some o:=fun e n=>Iz e n
  have noA:∀{b:Addr}{o:Obj}{es:Array DictEntry}{ep:Nat},s₁.heap.get? b=some o->o.data = .dict es ep->H b=none:=fun{b o es ep} e d=>by
   cases q:H b with
   | none=>rfl
   | some u =>
    have e':b=a:=hA b (by rw[q];simp)
    subst e';rw[ha]at e;cases e;have d':Data.seq vs.toArray _=Data.dict es ep:=d;cases d'
  have nsK:∀{b:Addr}{m:Str->Option Value},s₁.heap.Ns b m ->(xl s₁.heap H).Ns b m:=fun{b m} ⟨o,es,ep,e,d,r⟩=>⟨o,es,ep,CQ e (noA e d),d,r⟩
  have hKb:K.In (xl s₁.heap H):=fun b o e=>CQ (KX b o e) (by
   cases q:H b with
   | none=>rfl
   | some u =>
    have e':b=a:=hA b (by rw[q];simp)
    subst e';rw[hK (by rw[q];simp)]at e;cases e)
  have hM:Mod K mg (xl s₁.heap H):=⟨hKb,nsK hns,⟨mb,nsK hb,hbb⟩,let⟨mc,h1,h2⟩:=Wm;⟨mc,nsK h1,h2⟩⟩
  have e0:BI P w K mg (xl s₁.heap H) callerA [] s₁ H:=⟨rfl,hM,fun b o e=>LU e,Nat.le_of_eq (Ej _ _),trivial,fun b hb=>absurd (show b∈([]:List Addr)from hb) (by simp),hok,.of_eq hg⟩
  refine codeAny_mono ((F _ hKb (nsK hns)).run callerA [] s₁ H ⟨[.ref a],[]⟩ [.ref a] [.ref a] _ _ hr e0 (T3 s₁ (.ref a)) (.cons rfl .nil) (hsp H hO hS)) fun r s' h=>?_
  cases r with
  | error e=>exact(hCX H e s' h).elim
  | ok fl =>
   cases fl with
   | next=>exact False.elim h
   | brk=>exact False.elim h
   | cont=>exact False.elim h
   | ret u =>
    obtain⟨v,H',os,bare,un,Wk,r',q⟩:=h;have q':v = .bl true:=q;subst q';obtain rfl:u=Value.bool true:=r';refine⟨rfl,OldK.of_keep fun b o e=>?_,os,bare⟩
    cases q:H b with
    | none=>exact un.keep b o e q (by intro z;exact absurd (show b∈([]:List Addr)from z) (by simp)) (by simp)
    | some u =>
     rcases hO b with z |⟨ob,xs,z⟩
     ·rw[q]at z;cases z
     ·have z2:=un.n8 b ob _ z;obtain⟨e1,_⟩:=hok b _ z;obtain⟨e2,_⟩:=Wk b _ z2;rw[e]at e1;cases e1;exact e2
 cases hk:K.lookup a with
 | some o =>
  have e:=KX a o hk;rw[ha]at e;cases e;refine core (fun _=>none) (fun _=>.inl rfl) (.inr ⟨_,vs.toArray,_,hk,rfl,rfl,rfl,by rw[Wc,V6];exact hl,by simpa using rv⟩) (fun b u z=>by have z':(none:Option HO)=some u:=z;cases z') (fun b z=>absurd rfl z) fun z=>absurd rfl z
 | none =>
  refine core (fun b=>if b=a then some (.frz { cls:=.type "list",data:=.seq vs.toArray } (.lst (ns.map V.int)))else none) (fun b=>?_) (.inl (.inr ⟨{ cls:=.type "list",data:=.seq vs.toArray },if_pos rfl⟩)) (fun b u z=>?_) (fun b z=>?_) fun _=>hk
  ·by_cases hb:b=a
   ·exact .inr ⟨_,_,if_pos hb⟩
   ·exact .inl (if_neg hb)
  ·by_cases hb:b=a
   ·have z':=(if_pos hb).symm.trans z;cases z';subst hb;exact⟨ha,by rw[PZ];exact hl,vs,_,rv,ha⟩
   ·have z':=(if_neg hb).symm.trans z;cases z'
  ·by_cases hb:b=a
   ·exact hb
   ·exact absurd (if_neg hb) z
variable{n:Nat}
theorem Kc{l:W.OpenLaw}{k:Nat}{q:Program}{loose:List Str}{XP:(Str->Option Value)->Heap->Prop}{YP:World->Heap->Prop}{d:DefRec}{K:Params->W.Frag}{CX:World->CXT}{sp:World->Sp}
  (hn:l.most=some n) (hn2:n<=WT) (hdf:d.params.defaults = []) (hr:bT k callerA)
  (hY:∀(w:World)(h:Heap),YP w h ->(K w.params).In h)
  (F:∀(w:World)(mg:Str->Option Value)(fa:Addr)(h:Heap),(K w.params).In h->h.Ns mainGlobals mg->mg d.name=some (.ref fa) ->
   ∃ fd:FuncData,(∀(s:Shared)(u:Value),BindsTo s fd ⟨[u],[]⟩ [(x,u)]) /\
    ∀ base:Heap,(K w.params).In base->base.Ns mainGlobals mg->aP l.prog w (K w.params) mg base (CX w) k fa fd [x] (sp w))
  (hsp:∀(w:World)(H:Hp)(a:Addr)(ns:List Int),ns.length<=n->Nf H->SqL (K w.params) H a (ns.map V.int)->sp w [.ref a] H (fun v _=>v = .bl true) fun _ _ _=>False)
  (hCX:∀(w:World)(H:Hp)(s:Shared)(e:Value)(s':Shared),CX w [] H s (fun _ _ _=>False) e s'->False) :
  W.WalkO q loose XP YP l.row.toRowW d [] (fun f vs=>PySem.call f vs):=by
 refine Att.zx hn hdf fun w s₀ s₁ mg mb fa o pm cd doc a vs ns G Y ho hd hcd hmg P6 hints hlen hg=>?_
 have KX:=hY w _ Y;obtain⟨fd,hb,hF⟩:=F w mg fa _ KX G.T.g hmg;exact HY KX G.T.g G.T.b G.T.builtins G.T.nolimit hg P6 hints (Xw hlen hn2) hr hF hb (fun H hO hS=>hsp w H a ns hlen hO hS) fun H e s'=>hCX w H s₁ e s'
def inClass(s:Stmt)(j:Nat):Stmt:=match s with
 | .ClassDef _ _ _ body _ _ _ _ _ _ _=>body.getD j (.Pass ⟨0,0,0,0⟩)
 | _=>.Pass ⟨0,0,0,0⟩
def dZ(s:Stmt):Arguments:=match s with
 | .FunctionDef _ a _ _ _ _ _ _ _ _=>a
 | _=>{ posonlyargs:=[],args:=[],vararg:=none,kwonlyargs:=[],kw_defaults:=[],kwarg:=none,defaults:=[] }
def bG(s:Stmt):List Stmt:=match s with
 | .FunctionDef _ _ b _ _ _ _ _ _ _=>b
 | _=>[]
def ao(s:Stmt):Scope:=match s with
 | .FunctionDef _ _ _ _ _ _ sc _ _ _=>sc
 | _=>{ kind:=.function,names:=[],isGenerator:=false,isCoroutine:=false }
abbrev CX0:CXT:=fun _ _ _ _ _ _=>False
abbrev E0:XK:=fun _ _ _=>False
variable{X:Cx}
theorem kB:Passes CX0 X E0:=fun _ _ _ _ _ _ _ h=>h.elim
structure Fun(K:W.Frag)(x qual:Str)(st:Stmt)(f:Addr)(fd:FuncData):Prop where
 ex:∃(oc:Value)(od:Option Addr)(kV doc pm:Value)(an:Option Addr)(cdv ct:Value)(osl:Array (Option Value)),
  fd=W.fnOf x qual (dZ st) (bG st) (ao st) .none kV doc pm an cdv ct/\K.lookup f=some ⟨oc,od,.func fd,osl⟩/\W.codeIn K cdv qual=true
 kp:W.keepIn K (.ref f)=true
variable{qual:Str}{fd:FuncData}{N:List Str}{sp:Sp}{oc:Value}{od:Option Addr}{an:Option Addr}{pm:Value}{ct:Value}
section
variable{P:Program}{w:World}{K:W.Frag}{base:Heap}
theorem Fun.ok{st:Stmt}{f:Addr}{ps:List Str}{k:Nat}(F:Fun K x qual st f fd)(S:aC N ps (ao st))(len:∀ vs H Q E,sp vs H Q E->vs.length=ps.length)
  (kT:∀(cdv:Value)(A:Around)(outer:List Env)(s:Shared)(H:Hp)(vs:List V)(Q:VK)(E:XK),bT k (A.deeper (envOfC qual (ao st) s.heap.objs.size f cdv))->sp vs H Q E ->
   ∃ t,PSs (sV CX0 P w K mg base N qual (ao st) f cdv A outer s H E).nox (bG st) t/\t { nx:=fun _ H'=>Q .non H',rt:=Q } (start N vs) H):aP P w K mg base CX0 (k+1) f fd ps sp:=by
 obtain⟨oc,od,kV,doc,pm,an,cdv,ct,osl,rfl,lk,hcd⟩:=F.ex;refine T8 lk hcd S len fun A outer s H vs Q E hr hsp=>?_
 obtain⟨t,h,q⟩:=kT cdv A outer s H vs Q E hr hsp;exact⟨t,h.nox,q⟩
theorem Fun.binds{st:Stmt}{f:Addr}{ps:List Str}(F:Fun K x qual st f fd)
  (h:∀(kV doc pm:Value)(an:Option Addr)(cdv ct:Value)(us:List Value),us.length=ps.length->bindArgs (W.fnOf x qual (dZ st) (bG st) (ao st) .none kV doc pm an cdv ct) ⟨us,[]⟩=pure (ps.zip us)):Binds K fd ps []:=by
 obtain⟨oc,od,kV,doc,pm,an,cdv,ct,osl,rfl,lk,hcd⟩:=F.ex;exact .all (h kV doc pm an cdv ct)
theorem aM{st:Stmt}{f:Addr}{osl:Array (Option Value)}{kV doc cdv:Value}(l:K.lookup f=some ⟨oc,od,.func (W.fnOf x qual (dZ st) (bG st) (ao st) .none kV doc pm an cdv ct),osl⟩)
  (c:W.codeIn K cdv qual=true) (k:W.keepIn K (.ref f)=true):Fun K x qual st f (W.fnOf x qual (dZ st) (bG st) (ao st) .none kV doc pm an cdv ct):=⟨⟨oc,od,kV,doc,pm,an,cdv,ct,osl,rfl,l,c⟩,k⟩
end
variable{A:Around}
theorem bj{k:Nat}(hr:bT k A):A.units+1<cLine:=YY (Nat.add_le_add_left (by decide:1<=64) _) hr.units
theorem dv(h:n<=1000):n<WT:=YY h (by decide)
section
theorem pv(i:Nat){pos:Pos}(hN:X.N[i]? = some x:=by rfl)(hv:Vis X.env.scope x:=by first|exact Or.inl rfl|exact Or.inr (Or.inl rfl)|exact Or.inr (Or.inr rfl))(hd:(x ==("__debug__":Str))=false:=by decide)
  (hcd:(x ==("__classdict__":Str))=false:=by decide):PE X (.Name x pos) (cm i):=wb hN hv hd hcd
end
theorem Wb{A B:Prop}(h:B):if false=true then A else B:=by
 rw[if_neg Xd];exact h
theorem bY{c A B:Prop}[Decidable c](h1:c->A)(h2:¬ c->B):if c then A else B:=by
 by_cases h:c
 ·rw[if_pos h];exact h1 h
 ·rw[if_neg h];exact h2 h
def m6(H H':Hp):Prop:=∀ b o,H b=some o->H' b=some o
theorem m6.refl(H:Hp):m6 H H:=fun _ _ h=>h
variable{H:Hp}{H':Hp}{l:Addr}
theorem m6.free(e:m6 H H')(h:H' l=Option.none):H l=Option.none:=by
 cases q:H l with
 | none=>rfl
 | some o =>
  rw[e l o q]at h;cases h
variable{y:V}{u:Value}
section
variable{κ:Type}[DecidableEq κ]
def gw(kvs:List (κ×V))(k:κ):Option V:=(kvs.find? fun kv=>decide (kv.1=k)).map (·.2)
def putK(kvs:List (κ×V))(k:κ)(v:V):List (κ×V) :=
 if(kvs.any fun kv=>decide (kv.1=k))=true then kvs.map (fun kv=>if kv.1=k then(kv.1,v)else kv)else kvs ++ [(k,v)]
theorem qM{p:κ×V}{r:List (κ×V)}{k:κ}(e:p.1=k):gw (p::r) k=some p.2:=by simp[gw,XF,e]
theorem qN{p:κ×V}{r:List (κ×V)}{k:κ}(e:¬ p.1=k):gw (p::r) k=gw r k:=by simp[gw,XF,e]
theorem yd(k:κ):∀ kvs:List (κ×V),(kvs.any fun kv=>decide (kv.1=k)) =(gw kvs k).isSome
 | []=>rfl
 | p::r=>by
  rw[Ys];by_cases e:p.1=k
  ·simp only[qM e,decide_eq_true e,ZH,Option.isSome_some]
  ·rw[qN e,decide_eq_false e,YT];exact yd k r
theorem kI(kvs:List (κ×V))(k:κ)(v:V):(putK kvs k v).length<=kvs.length+1:=by
 unfold putK
 split
 ·rw[PZ];omega
 ·rw[Xl,Xn,YG];omega
theorem j7.Eh{o:Option V}{u:Option Value}(r:j7 o u):o.isSome=u.isSome:=by
 cases o with
 | none=>cases u with
  | none=>rfl
  | some _=>exact(show False from r).elim
 | some _=>cases u with
  | none=>exact(show False from r).elim
  | some _=>rfl
theorem KV.val{kvs:List (κ×V)}{vs:List (κ×Value)}(r:KV kvs vs)(k:κ):j7 (gw kvs k) (valueAt vs k):=by
 unfold KV at r
 induction r with
 | nil=>exact True.intro
 | @cons p q ps qs h t ih =>
  obtain⟨h1,h2⟩:=h;by_cases e:p.1=k
  ·have e':q.1=k:=h1.symm.trans e;have b:valueAt (q::qs) k=some q.2:=by simp[valueAt,XF,e']
   rw[qM e,b];exact h2
  ·have e':¬ q.1=k:=fun z=>e (h1.trans z)
   have b:valueAt (q::qs) k=valueAt qs k:=by simp[valueAt,XF,e']
   rw[qN e,b];exact ih
theorem KV.any{kvs:List (κ×V)}{vs:List (κ×Value)}(r:KV kvs vs)(k:κ):(kvs.any fun kv=>decide (kv.1=k))=vs.any fun kv=>decide (kv.1=k):=by
 unfold KV at r
 induction r with
 | nil=>rfl
 | cons h t ih=>rw[Ys,Ys,ih,h.1]
theorem KV.OI{kvs:List (κ×V)}{vs:List (κ×Value)}(r:KV kvs vs)(k:κ)(ry:RelV y u) :
  KV (kvs.map fun kv=>if kv.1=k then(kv.1,y)else kv) (vs.map fun kv=>if kv.1=k then(kv.1,u)else kv):=by
 unfold KV at r ⊢
 induction r with
 | nil=>exact .nil
 | @cons p q ps qs h t ih =>
  rw[Xs,Xs];refine .cons ?_ ih;obtain⟨h1,h2⟩:=h;by_cases e:p.1=k
  ·rw[if_pos e,if_pos (h1.symm.trans e)];exact⟨h1,ry⟩
  ·rw[if_neg e,if_neg (fun z=>e (h1.trans z))];exact⟨h1,h2⟩
theorem KV.put{kvs:List (κ×V)}{vs:List (κ×Value)}(r:KV kvs vs)(k:κ)(ry:RelV y u):KV (putK kvs k y) (stored vs k u):=by
 unfold putK stored;rw[r.any k];by_cases e:(vs.any fun kv=>decide (kv.1=k))=true
 ·rw[if_pos e,if_pos e];exact r.OI k ry
 ·rw[if_neg e,if_neg e];exact Paired.snoc r ⟨rfl,ry⟩
theorem KV.length{kvs:List (κ×V)}{vs:List (κ×Value)}(r:KV kvs vs):kvs.length=vs.length:=Paired.length r
end
variable{P:Program}
theorem uZ{w:World}{k:Key}(r:RelV (kV k) u):(br P w).is k u=true:=by
 cases k with
 | inl i=>obtain⟨t,e⟩:=(show ∃ t,u=Value.int i t from r);subst e;exact yZ P w i t
 | inr x=>obtain⟨t,e⟩:=(show ∃ t,u=Value.str x t from r);subst e;exact yY P w x t
theorem u0{P:Program}{w:World}:∀{ks:List Key}{us:List Value},Vals (ks.map kV) us->ItemsAre (br P w) ks us
 | [],_,r=>by rw[Zc]at r;cases r;exact .nil
 | k::ks,_,r=>by
  rw[Xs]at r;cases r with
  | cons h t=>exact .cons (uZ h) (u0 t)
abbrev KT(H:Hp):List (List Key×V)->List (List Key×Addr×Value)->Prop:=Paired fun p q=>p.1=q.1/\H q.2.1=some (.tup (p.1.map kV))/\RelV p.2 q.2.2
variable{kvs:List (List Key×V)}
theorem KT.val{xs:List (List Key×Addr×Value)}(r:KT H kvs xs)(k:List Key):j7 (gw kvs k) ((atKey xs k).map (·.2)):=by
 induction r with
 | nil=>exact True.intro
 | @cons p q ps qs h t ih =>
  obtain⟨h1,_,h2⟩:=h;by_cases e:p.1=k
  ·have e':q.1=k:=h1.symm.trans e;have b:atKey (q::qs) k=some q.2:=by simp[atKey,XF,e']
   rw[qM e,b];exact h2
  ·have e':¬ q.1=k:=fun z=>e (h1.trans z)
   have b:atKey (q::qs) k=atKey qs k:=by simp[atKey,XF,e']
   rw[qN e,b];exact ih
theorem KT.OI{xs:List (List Key×Addr×Value)}(r:KT H kvs xs)(k:List Key)(ry:RelV y u) :
  KT H (kvs.map fun kv=>if kv.1=k then(kv.1,y)else kv) (xs.map (putAt k u)):=by
 induction r with
 | nil=>exact .nil
 | @cons p q ps qs h t ih =>
  rw[Xs,Xs];refine .cons ?_ ih;obtain⟨h1,h2,h3⟩:=h;unfold putAt;by_cases e:p.1=k
  ·rw[if_pos e,if_pos (h1.symm.trans e)];exact⟨h1,h2,ry⟩
  ·rw[if_neg e,if_neg (fun z=>e (h1.trans z))];exact⟨h1,h2,h3⟩
theorem KT.put{xs:List (List Key×Addr×Value)}(r:KT H kvs xs)(k:List Key){b:Addr}(hb:H b=some (.tup (k.map kV)))(ry:RelV y u) :
  KT H (putK kvs k y) (storedH xs k b u):=by
 have e:(kvs.any fun kv=>decide (kv.1=k)) =(atKey xs k).isSome:=by
  rw[yd,(r.val k).Eh,Option.isSome_map]
 unfold putK storedH;rw[e];by_cases q:(atKey xs k).isSome=true
 ·rw[if_pos q,if_pos q];exact r.OI k ry
 ·rw[if_neg q,if_neg q];exact Paired.snoc r ⟨rfl,hb,ry⟩
theorem KT.keeps{xs:List (List Key×Addr×Value)}(r:KT H kvs xs)(ht:∀ b ys,H b=some (.tup ys)->H' b=some (.tup ys)):KT H' kvs xs :=
 Paired.Px r fun _ _ z=>⟨z.1,ht _ _ z.2.1,z.2.2⟩
section
variable{w:World}{h:Heap}
theorem NB{u:HO}(ok:HOk P w H h)(e:Rd H a u):bH P w H h a u:=e.ok ok
theorem va{kvs:List (Key×V)}(ok:HOk P w H h)(e:Rd H a (.dK kvs)):kvs.length<=WT/\(a==sysModules)=false/\∃ vs,KV kvs vs/\h.DictOf (br P w) a vs :=
 show bH P w H h a (.dK kvs)from NB ok e
theorem N1{kvs:List (Key×V)}(ok:HOk P w H h)(e:H a=some (.dK kvs)):kvs.length<=WT/\(a==sysModules)=false/\∃ vs,KV kvs vs/\h.DictOf (br P w) a vs:=va ok (.inl e)
theorem A4{ks:List Key}(ok:HOk P w H h)(e:H a=some (.tup (ks.map kV))):(tupleKind (br P w)).is h ks a:=by
 obtain⟨_,its,r,⟨o,h1,h2,n,h3⟩,_⟩:=(show bH P w H h a (.tup (ks.map kV))from ok a _ e);exact⟨o,its.toArray,n,h1,h2,h3,by simpa using u0 r⟩
theorem IM(ok:HOk P w H h)(e:Rd H a (.dT kvs)):kvs.length<=WT/\(a==sysModules)=false /\
  ∃ xs,KT H kvs xs/\h.DictOfH (tupleKind (br P w)) a xs:=by
 obtain⟨z,y,xs,r,o,es,ep,h1,h2,h3,h4,h5⟩:=(show bH P w H h a (.dT kvs)from NB ok e);refine⟨z,y,xs,r,o,es,ep,h1,h2,h3,h4,fun x hx=>?_,h5⟩
 have all:∀{l:List (List Key×V)}{m:List (List Key×Addr×Value)},KT H l m->∀ x∈m,(tupleKind (br P w)).is h x.1 x.2.1:=by
  intro l m q
  induction q with
  | nil=>intro x hx;exact nomatch hx
  | @cons p q ps qs hq t ih =>
   intro x hx;rcases QH.mp hx with e|hx
   ·subst e;exact A4 ok (by rw[<- hq.1];exact hq.2.1)
   ·exact ih x hx
 exact all r x hx
theorem Ua(ok:HOk P w H h)(e:H a=some (.dT kvs)):kvs.length<=WT/\(a==sysModules)=false /\
  ∃ xs,KT H kvs xs/\h.DictOfH (tupleKind (br P w)) a xs:=IM ok (.inl e)
end
def tU(H:Hp)(a:Addr)(y:V)(r:Option V):Prop :=
 (∃ kvs k,Rd H a (.dK kvs)/\y=kV k/\r=gw kvs k)\/∃ kvs k b,Rd H a (.dT kvs)/\y = .ref b/\H b=some (.tup (k.map kV))/\r=gw kvs k
def tT(H:Hp)(a:Addr)(y v:V)(H':Hp):Prop :=
 (∃ kvs k,H a=some (.dK kvs)/\y=kV k/\kvs.length<WT/\H'=upd H a (.dK (putK kvs k v))) \/
 ∃ kvs k b,H a=some (.dT kvs)/\y = .ref b/\H b=some (.tup (k.map kV))/\kvs.length<WT/\H'=upd H a (.dT (putK kvs k v))
theorem tU.k{H:Hp}{a:Addr}{kvs:List (Key×V)}{k:Key}(e:H a=some (.dK kvs)):tU H a (kV k) (gw kvs k):=.inl ⟨kvs,k,.inl e,rfl,rfl⟩
theorem tT.k{H:Hp}{a:Addr}{kvs:List (Key×V)}{k:Key}{v:V}(e:H a=some (.dK kvs))(hl:kvs.length<WT):tT H a (kV k) v (upd H a (.dK (putK kvs k v))):=.inl ⟨kvs,k,e,rfl,hl,rfl⟩
variable{Q:Value->Shared->Prop}{h':Heap}{t':Nat}
section
variable{j0:List (Addr×Obj)}{σ:St}{s:Shared}{v:V}{r:Value}{o:Option V}{E:Value->Shared->Prop}
theorem Inv.big(I:Inv X j0 σ H s):sysModules<s.heap.objs.size:=by
 have h:mainGlobals<s.heap.objs.size:=(I.mod.glob.keeps I.bk).lt;exact Zd (by decide) h
theorem Ew(hu:A.units+1<cLine)(I:Inv X j0 σ H s)(g:tU H a y (some v))(ry:RelV y u)(h:∀ w' s',Inv X j0 σ H s'->RelV v w'->Q w' s') :
  wpAny (model X.prog X.w) A (getItem (.ref a) u) Q E s:=by
 rcases g with⟨kvs,k,e,ey,l⟩ |⟨kvs,k,b,e,ey,eb,l⟩
 ·subst ey;obtain⟨z,hd,vs,rel,dd⟩:=va I.hok e;obtain⟨w',hw,rw'⟩:=j7.some_of (v:=v) (o:=valueAt vs k) (by rw[l];exact rel.val k)
  exact wpAny_getItem_of (uZ ry) dd.mapOf hw (h w' _ (I.tok _) rw')
 ·subst ey
  cases(show u=Value.ref b from ry)
  obtain⟨z,hd,xs,rel,dd⟩:=IM I.hok e;obtain⟨w',hw,rw'⟩:=j7.some_of (v:=v) (o:=(atKey xs k).map (·.2)) (by rw[l];exact rel.val k)
  obtain⟨p,hp,hp2⟩:=Xg.mp hw;refine wpAny_getItem_heap (tupleKind_room_in1 hu) (A4 I.hok eb) dd hp ?_;rw[hp2];exact h w' _ (I.tok _) rw'
theorem xq{ob:HO}(I:Inv X j0 σ H s)(mu:Mut (H a))(hs:X1 a s.heap h')(he:∃ q,h'.get? a=some q)(new:bH X.prog X.w (upd H a ob) h' a ob) :
  Inv X j0 σ (upd H a ob) { s with heap:=h',toks:=t' } :=
 I.write (x:=a) (e:=a) mu (.inl rfl) (fun b q hb z=>(hs.2 b hb).trans z) he new
theorem xp{w:World}{kvs:List (Key×V)}{vs:List (Key×Value)}(z:kvs.length<=WT)(hd:(a==sysModules)=false)(rel:KV kvs vs)(dd:h'.DictOf (br P w) a vs) :
  bH P w H' h' a (.dK kvs):=⟨z,hd,vs,rel,dd⟩
theorem Eu{Q:Unit->Shared->Prop}(hu:A.units+1<cLine)(I:Inv X j0 σ H s)(g:tT H a y v H')(ry:RelV y u)(rv:RelV v r)(h:∀ s',Inv X j0 σ H' s'->Q () s') :
  wpAny (model X.prog X.w) A (setItem (.ref a) u r) Q E s:=by
 rcases g with⟨kvs,k,e,ey,l,eH⟩ |⟨kvs,k,b,e,ey,eb,l,eH⟩
 ·subst ey eH;obtain⟨z,hd,vs,rel,dd⟩:=N1 I.hok e;have hz:vs.length<=WT:=by rw[<- rel.length];exact z
  have hl:(putK kvs k v).length<=WT:=by have:=kI kvs k v;omega
  refine wpAny_setItem_pairs (hsz:=hz) (uZ ry) dd fun h' dd' hs=>h _ ?_
  have he:∃ q,h'.get? a=some q:=let⟨q,_,_,hq,_⟩:=dd';⟨q,hq⟩
  exact xq I (by rw[e];exact True.intro) hs he (xp hl hd (rel.put k rv) dd')
 ·subst ey eH
  cases(show u=Value.ref b from ry)
  obtain⟨z,hd,xs,rel,dd⟩:=Ua I.hok e;have hz:xs.length<=WT:=by rw[<- Paired.length rel];exact z
  have hl:(putK kvs k v).length<=WT:=by have:=kI kvs k v;omega
  refine wpAny_setItem_heap (hsz:=hz) (tupleKind_room_in1 hu) (A4 I.hok eb) dd fun h' dd' hs=>h _ ?_
  obtain⟨q,es,ep,hq,h2,h3,h4,_,h5⟩:=dd';refine xq I (by rw[e];exact True.intro) hs ⟨q,hq⟩ ⟨hl,hd,_,(rel.put k eb rv).keeps fun c ys ec=>?_,q,es,ep,hq,h2,h3,h4,h5⟩
  rw[ai (jS ec e (fun z=>nomatch z))]
  exact ec
end
section
variable{j0:List (Addr×Obj)}{σ:St}{s:Shared}{kvs:List (Key×V)}{k:Key}{E:Value->Shared->Prop}
theorem Ul(I:Inv X j0 σ H s)(e:Rd H a (.dK kvs))(h:∀ t s',Inv X j0 σ H s'->Q (.int kvs.length t) s'):wpAny (model X.prog X.w) A (call (.builtin "len") [.ref a]) Q E s:=by
 obtain⟨z,hd,vs,rel,dd⟩:=va I.hok e;refine call_len_dict hd dd (by rw[<- rel.length];rw[Yo]at z;omega) ?_
 rw[<- rel.length];exact h _ _ (I.tok _)
end
def UO(i:Expr):Prop:=∀ ov iv,subscripted i false ov iv=operate [ov,iv] (getItem ov iv)
variable{prog:Program}{E:Value->Shared->Prop}{env:Env}{value:Expr}{pos:Pos}
theorem Ki{w:World}{s:Shared}{slice:Expr}{T id:String}
  (hl:typeLookup (.type T) "__getitem__" = pure (some (.builtin id))) (hs:UO slice)
  (h:wpAny (model prog w) A (eval value env) (fun o s₁=>wpAny (model prog w) A (eval slice env) (fun i s₂=>s₂.TypeIs o T/\wpAny (model prog w) A (getItem o i) Q E s₂) E s₁) E s) :
  wpAny (model prog w) A (eval (.Subscript value slice pos) env) Q E s:=by
 refine Subscript_ (X5 h (fun o s₁ h₁=>X5 h₁ (fun i s₂ h₂=>?_) fun _ _ x=>x) fun _ _ x=>x)
 obtain⟨hT,h₂⟩:=h₂;unfold subscriptTail;refine j2 ?_;rw[getitemInPython_of_ne hT.not_modules];refine j2 (X6 hT hl ?_);have fin:wpAny (model prog w) A (subscripted slice false o i) (fun r s₃=>wpAny (model prog w) A (letTemporaryGo value o r >>= fun _=>pure r) Q E s₃) E s₂:=by
  rw[hs o i];exact wpAny_operating (X5 h₂ (fun r s₃ h₃=>j2 (wpAny_letTemporaryGo (TH h₃))) fun _ _ x=>x)
 first
  | exact TH (j2 fin)
  | exact j2 (TH (j2 fin))
  | exact j2 fin
variable{j0:List (Addr×Obj)}
theorem zh{σ:St}{s:Shared}{o:Option V}(I:Inv X j0 σ H s)(g:tU H a y o):s.TypeIs (.ref a) "dict":=by
 rcases g with⟨kvs,k,e,_,_⟩ |⟨kvs,k,b,e,_,_,_⟩
 ·obtain⟨_,_,vs,_,dd⟩:=va I.hok e;exact dd.typeIs
 ·obtain⟨_,_,xs,_,dd⟩:=IM I.hok e;exact dd.typeIs
def RF(td ty:TE):TE:=fun σ H Q=>td σ H fun x H1=>ty σ H1 fun y H2=>∃ a v,x = .ref a/\tU H2 a y (some v)/\Q v H2
def uN(td ty tv:TE):TS:=fun D σ H=>tv σ H fun v H1=>td σ H1 fun x H2=>ty σ H2 fun y H3=>∃ a H4,x = .ref a/\tT H3 a y v H4/\D.nx σ H4
section
variable{o i e:Expr}{pos' FN:Pos}{td ty tv:TE}
theorem jz(hu:X.A.units+1<cLine)(ho:PE X o td)(hi:PE X i ty)(hs:UO i):PE X (.Subscript o i pos) (RF td ty):=by
 intro j0 s σ H Q I h;refine Ki PySem.F.slot_dict_getitem.lookup hs (thn (ho j0 s σ H _ I h) fun u s1 ⟨x,H1,I1,rx,q1⟩=>thn (hi j0 s1 σ H1 _ I1 q1) fun iv s2 hPP=>?_)
 obtain⟨y,H2,I2,ry,a,v,ex,g,q2⟩:=hPP;subst ex;obtain rfl:u=Value.ref a:=rx;exact⟨zh I2 g,Ew hu I2 g ry fun w' s3 I3 rw'=>⟨v,H2,I3,rw',q2⟩⟩
theorem lO(hu:X.A.units+1<cLine)(ho:PE X o td)(hi:PE X i ty)(hv:PE X value tv)(hs:swapsWith value (some (.Subscript o i pos')) pos.line X.env=pure false) :
  PS X (.Assign [.Subscript o i pos'] value pos) (uN td ty tv):=by
 intro j0 s σ H D I h;refine wpAny_Assign_Subscript (thn (hv j0 s σ H _ I h) fun r s1 ⟨v,H1,I1,rv,q1⟩=>thn (ho j0 s1 σ H1 _ I1 q1) fun u s2 ⟨x,H2,I2,rx,q2⟩=>thn (hi j0 s2 σ H2 _ I2 q2) fun iv s3 hPP=>?_) hs
 obtain⟨y,H3,I3,ry,a,H4,ex,g,q3⟩:=hPP;subst ex;obtain rfl:u=Value.ref a:=rx;exact Eu hu I3 g ry rv fun s4 I4=>⟨σ,H4,I4,q3⟩
end
theorem IQ{w:World}(h:Heap)(hb:sysModules<h.objs.size):bH P w H (h.push { cls:=.type "dict",data:=.dict #[] }) h.objs.size (.dK []) :=
 ⟨XU _,beq_eq_false_iff_ne.mpr (Ne.symm (Xo hb)),[],.nil,Heap.DictOf.new h⟩
def vz:List (TE×TE)->St->Hp ->(List (V×V)->Hp->Prop)->Prop
 | [],_,H,Q=>Q [] H
 | (tk,tv)::r,σ,H,Q=>tk σ H fun x H1=>tv σ H1 fun y H2=>vz r σ H2 fun ps H3=>Q ((x,y)::ps) H3
abbrev VV:List (V×V)->List (Value×Value)->Prop:=Paired fun p q=>RelV p.1 q.1/\RelV p.2 q.2
def PPs(X:Cx)(pos:Pos)(keys:List (Option Expr))(values:List Expr)(trs:List (TE×TE)):Prop :=
 ∀(j0:List (Addr×Obj))(s:Shared)(σ:St)(H:Hp)(Q:List (V×V)->Hp->Prop),Inv X j0 σ H s->vz trs σ H Q ->
  wpAny (model X.prog X.w) X.A (evalPairs (pairTrees keys values X.env pos)) (fun vs s'=>∃ ps H',Inv X j0 σ H' s'/\VV ps vs/\Q ps H') X.xe s
theorem Cc:PPs X pos [] [] []:=fun j0 s σ H Q I h=>pairTrees_nil_walk ⟨[],H,I,.nil,h⟩
variable{tk:TE}{tv:TE}{trs:List (TE×TE)}
theorem nP{k v:Expr}{ks:List (Option Expr)}{vs:List Expr}(hk:PE X k tk)(hv:PE X v tv)(hr:PPs X pos ks vs trs) :
  PPs X pos (some k::ks) (v::vs) ((tk,tv)::trs):=fun j0 s σ H Q I h =>
 pairTrees_cons_walk (thn (hk j0 s σ H _ I h) fun u s1 ⟨x,H1,I1,rx,q1⟩=>thn (hv j0 s1 σ H1 _ I1 q1) fun w2 s2 ⟨y,H2,I2,ry,q2⟩ =>
  thn (hr j0 s2 σ H2 _ I2 q2) fun ws s3 ⟨ps,H3,I3,rel,q3⟩=>⟨(x,y)::ps,H3,I3,.cons ⟨rx,ry⟩ rel,q3⟩)
def cV(kvs more:List (Key×V)):List (Key×V):=more.foldl (fun acc kv=>putK acc kv.1 kv.2) kvs
theorem KV.merge:∀{more:List (Key×V)}{rs:List (Key×Value)}{kvs:List (Key×V)}{vs:List (Key×Value)},KV more rs->KV kvs vs->KV (cV kvs more) (merged vs rs):=by
 intro more rs kvs vs r;unfold KV at r
 induction r generalizing kvs vs with
 | nil=>intro q;exact q
 | @cons p q ps qs h t ih =>
  intro r0;have e:KV (putK kvs p.1 p.2) (stored vs q.1 q.2):=by
   have:=r0.put p.1 h.2
   rw[<- h.1];exact this
  exact ih e
theorem iO:∀(more kvs:List (Key×V)),(cV kvs more).length<=kvs.length+more.length
 | [],kvs=>by show kvs.length<=kvs.length+0;omega
 | p::r,kvs=>by
  have h1:=iO r (putK kvs p.1 p.2);have h2:=kI kvs p.1 p.2;show(cV (putK kvs p.1 p.2) r).length<=_;rw[Xn];omega
theorem sY{P:Program}{w:World}:∀{kvs:List (Key×V)}{ws:List (Value×Value)},VV (kvs.map fun kv=>(kV kv.1,kv.2)) ws->∃ rs,Carries (br P w) ws rs/\KV kvs rs
 | [],_,r=>by rw[Zc]at r;cases r;exact⟨[],True.intro,.nil⟩
 | p::kvs,_,r=>by
  rw[Xs]at r;cases r with
  | @cons a b as bs h t =>
   obtain⟨rs,c,q⟩:=sY (P:=P) (w:=w) t;obtain⟨b1,b2⟩:=b;exact⟨(p.1,b2)::rs,⟨uZ h.1,rfl,c⟩,.cons ⟨rfl,h.2⟩ q⟩
def Nw(trs:List (TE×TE)):TE:=fun σ H Q=>∀ p,H p=none->vz trs σ (upd H p (.dK [])) fun ps H2=>H2 p=some (.dK [])/\∃ kvs:List (Key×V),ps=kvs.map (fun kv=>(kV kv.1,kv.2))/\kvs.length<=15/\Q (.ref p) (upd H2 p (.dK (cV [] kvs)))
theorem Cg{keys:List (Option Expr)}{values:List Expr}(h:PPs X pos keys values trs)(IA:keys.all (·.isSome)=true)(hl:keys.length=values.length)(h0:keys ≠ [])
  (h15:keys.length<=15):PE X (.Dict keys values pos) (Nw trs):=by
 intro j0 s σ H Q I q;have hn:=I.hok.fresh (Xa s.heap.objs.size);have I1:=I.laid (a:=s.heap.objs.size) (o:=.dK []) (h':=s.heap.push { cls:=.type "dict",data:=.dict #[] }) (t':=s.toks) (fun _ _ q=>j3 _ q) (Xa _) (IQ s.heap I.big)
 refine wpAny_Dict_walk (knd:=br X.prog X.w) IA hl h0 h15 (thn (h j0 _ σ _ _ I1 (q _ hn)) fun ws s2 hPP=>?_)
 obtain⟨ps,H2,I2,rel,e,kvs,ep,lk,q2⟩:=hPP;subst ep;obtain⟨rs,c,rk⟩:=sY (P:=X.prog) (w:=X.w) rel;obtain⟨z,hd,vs0,r0,dd⟩:=N1 I2.hok e;cases r0;refine⟨rs,c,dd,fun h' dd' hs=>⟨.ref s.heap.objs.size,_,?_,rfl,q2⟩⟩
 have hz:(cV [] kvs).length<=WT:=by
  have h1:=iO kvs [];rw[YG]at h1;rw[Yo];omega
 have he:∃ q,h'.get? s.heap.objs.size=some q:=let⟨q,_,_,hq,_⟩:=dd';⟨q,hq⟩
 exact xq I2 (by rw[e];exact True.intro) hs he (xp hz hd (rk.merge .nil) dd')
section
theorem EK:c7 X (.builtin "len") (fun xs H Q=>∃ a kvs,xs = [V.ref a]/\H a=some (.dK kvs)/\Q (.int kvs.length) H):=by
 intro j0 s σ H xs us Q I r h;obtain⟨a,kvs,rfl,ha,q⟩:=h;obtain⟨u,rfl,ru⟩:=vals1 r;cases ru;exact Ul I (.inl ha) fun t s' I'=>⟨.int kvs.length,H,I',⟨t,rfl⟩,q⟩
end
end L2
set_option maxHeartbeats 4000000
namespace L2
open PySem PySem.Spec PyProof.Rows
theorem su{h:Heap}{a:Nat}{o:Obj}(e:h.get? a=some o):@LT.lt Nat _ a h.objs.size:=Xe e
theorem CP{h:Heap}{a:Nat}{v:Option Value}(e:h.IsCell a v):@LT.lt Nat _ a h.objs.size:=e.lt
theorem nW{a b:Nat}(h:a<b):@Ne Addr a b:=Xo h
theorem To{a b:Nat}(h:b<a):@Ne Addr a b:=XY h
theorem kZ{env:Env}{body:Str×NameKind->List (Str×Addr)->Sem (ForInStep (List (Str×Addr)))}
  (hb:∀ n k c,body (n,k) c=if(k==NameKind.free)=true then(cellOf env n >>= fun a=>pure (.yield ((n,a)::c)))else pure (.yield c)) :
  ∀(l:List (Str×NameKind))(cs:List (Str×Addr)),(∀ p∈l,p.2=NameKind.free->∃ c,env.cells.lookup p.1=some c) ->
   ∃ cl,forIn l cs body=pure cl/\(∀ x c,cl.lookup x=some c->env.cells.lookup x=some c\/cs.lookup x=some c)/\(∀ x,(x,NameKind.free)∈l->∃ c,cl.lookup x=some c)/\∀ x c,cs.lookup x=some c->∃ c',cl.lookup x=some c'
 | [],cs,_=>⟨cs,rfl,fun _ _ h=>.inr h,fun _ h=>(nomatch h),fun _ c h=>⟨c,h⟩⟩
 | (n,k)::r,cs,h=>by
  have hr:∀ p∈r,p.2=NameKind.free->∃ c,env.cells.lookup p.1=some c:=fun p hp=>h p (Es _ hp)
  rw[YH,hb];by_cases hk:(k==NameKind.free)=true
  ·rw[if_pos hk];have hk':k = .free:=by simpa using hk
   obtain⟨c,hc⟩:=h (n,k) j5 hk';have e1:cellOf env n=pure c:=by unfold cellOf;rw[hc]
   rw[e1];obtain⟨cl,e,h1,h2,h3⟩:=kZ hb r ((n,c)::cs) hr;refine⟨cl,e,fun x c' hx=>?_,fun x hx=>?_,fun x c' hx=>?_⟩
   ·rcases h1 x c' hx with z|z
    ·exact .inl z
    ·by_cases e2:(x==n)=true
     ·have e3:x=n:=by simpa using e2
      subst e3;rw[Xk,e2]at z;cases z;exact .inl hc
     ·rw[Xk,ZI.mpr e2]at z;exact .inr z
   ·rcases QH.mp hx with z|z
    ·have e2:x=n:=congrArg Prod.fst z;exact h3 x c (by rw[Xk,e2,beq_self_eq_true])
    ·exact h2 x z
   ·by_cases e2:(x==n)=true
    ·exact h3 x c (by rw[Xk,e2])
    ·exact h3 x c' (by rw[Xk,ZI.mpr e2];exact hx)
  ·rw[if_neg hk];obtain⟨cl,e,h1,h2,h3⟩:=kZ hb r cs hr;refine⟨cl,e,h1,fun x hx=>?_,h3⟩
   rcases QH.mp hx with z|z
   ·cases z;exact absurd rfl hk
   ·exact h2 x z
variable{scope:Scope}{env:Env}
theorem Bk(h:∀ p∈scope.names,p.2=NameKind.free->∃ c,env.cells.lookup p.1=some c) :
  ∃ cl:List (Str×Addr),closureFor scope env=pure cl/\(∀ x c,cl.lookup x=some c->env.cells.lookup x=some c)/\∀ x,(x,NameKind.free)∈scope.names->∃ c,cl.lookup x=some c:=by
 obtain⟨cl,e,h1,h2,_⟩:=kZ (env:=env) (body:=fun x c=>if(x.2==NameKind.free)=true then(cellOf env x.1 >>= fun a=>pure (.yield ((x.1,a)::c)))else pure (.yield c)) (fun _ _ _=>rfl) scope.names [] h
 refine⟨cl,?_,fun x c hx=>(h1 x c hx).elim id fun z=>by simp at z,h2⟩
 have e2:closureFor scope env =(forIn scope.names ([]:List (Str×Addr)) (fun x c=>if(x.2==NameKind.free)=true then(cellOf env x.1 >>= fun a=>pure (.yield ((x.1,a)::c)))else pure (.yield c)) >>= fun r=>pure r):=by
  simp only[closureFor]
 rw[e2,e];rfl
theorem ix{env:Env}:∀{names:List (Str×NameKind)}{x:Str}{k:NameKind},
  (names.map fun(n,k)=>if(k==NameKind.free&&env.scope.kind == .function&&env.kindOf n==some .cell)then(n,NameKind.cell)else(n,k)).lookup x=some k ->
   names.lookup x=some k\/(names.lookup x=some .free/\k = .cell)
 | [],_,_,h=>by simp at h
 | (n,k0)::r,x,k,h=>by
  have ih:=@ix env r x k
  replace h:Yk x ((if(k0==NameKind.free&&env.scope.kind == .function&&env.kindOf n==some .cell)=true then(n,NameKind.cell)else(n,k0)) ::(r.map fun(n,k)=>if(k==NameKind.free&&env.scope.kind == .function&&env.kindOf n==some .cell)then(n,NameKind.cell)else(n,k)))=some k:=h
  cases hx:x==n with
  | true =>
   by_cases hc:(k0==NameKind.free&&env.scope.kind == .function&&env.kindOf n==some .cell)=true
   ·rw[if_pos hc]at h;simp only[Xk,hx]at h;cases h
    have:k0 = .free:=by
     simp only[Xi]at hc;simpa using hc.1.1
    subst this;exact .inr ⟨by simp only[Xk,hx],rfl⟩
   ·rw[if_neg hc]at h;simp only[Xk,hx]at h;exact .inl (by simp only[Xk,hx];exact h)
  | false =>
   have h':(r.map fun(n,k)=>if(k==NameKind.free&&env.scope.kind == .function&&env.kindOf n==some .cell)then(n,NameKind.cell)else(n,k)).lookup x=some k:=by
    by_cases hc:(k0==NameKind.free&&env.scope.kind == .function&&env.kindOf n==some .cell)=true
    ·rw[if_pos hc]at h;simpa only[Xk,hx]using h
    ·rw[if_neg hc]at h;simpa only[Xk,hx]using h
   rcases ih h' with z|z
   ·exact .inl (by simp only[Xk,hx];exact z)
   ·exact .inr (by simp only[Xk,hx];exact z)
theorem nJ{env:Env}:∀{names:List (Str×NameKind)}{x:Str},names.lookup x=some .free ->
  (names.map fun(n,k)=>if(k==NameKind.free&&env.scope.kind == .function&&env.kindOf n==some .cell)then(n,NameKind.cell)else(n,k)).lookup x=some .free \/
  (names.map fun(n,k)=>if(k==NameKind.free&&env.scope.kind == .function&&env.kindOf n==some .cell)then(n,NameKind.cell)else(n,k)).lookup x=some .cell
 | [],_,h=>by simp at h
 | (n,k0)::r,x,h=>by
  have ih:=@nJ env r x;show Yk x ((if(k0==NameKind.free&&env.scope.kind == .function&&env.kindOf n==some .cell)=true then(n,NameKind.cell)else(n,k0))::_)=_\/Yk x ((if(k0==NameKind.free&&env.scope.kind == .function&&env.kindOf n==some .cell)=true then(n,NameKind.cell)else(n,k0))::_)=_
  cases hx:x==n with
  | true =>
   simp only[Xk,hx]at h;cases h;by_cases hc:(NameKind.free==NameKind.free&&env.scope.kind == .function&&env.kindOf n==some .cell)=true
   ·rw[if_pos hc];simp only[Xk,hx];exact .inr trivial
   ·rw[if_neg hc];simp only[Xk,hx];exact .inl trivial
  | false =>
   simp only[Xk,hx]at h;by_cases hc:(k0==NameKind.free&&env.scope.kind == .function&&env.kindOf n==some .cell)=true
   ·rw[if_pos hc];simp only[Xk,hx];exact ih h
   ·rw[if_neg hc];simp only[Xk,hx];exact ih h
inductive oE(X:Cx)(sc:Scope):List Str->List (Option Nat)->Prop
 | nil:oE X sc [] []
 | own{x:Str}{N:List Str}{c:List (Option Nat)}:sc.names.lookup x=some .local->oE X sc N c->oE X sc (x::N) (none::c)
 | got{x:Str}{i:Nat}{N:List Str}{c:List (Option Nat)}:X.N[i]? = some x->sc.names.lookup x=some .free ->(X.env.kindOf x=some .cell\/X.env.kindOf x=some .free)->oE X sc N c->oE X sc (x::N) (some i::c)
def oo(c:List (Option Nat))(σ:St):St:=c.map fun o=>o.bind fun(i:Nat)=>(σ[i]?).join
variable{X:Cx}{sc:Scope}{N:List Str}
theorem oE.len{c:List (Option Nat)}{σ:St}(h:oE X sc N c):(oo c σ).length=N.length:=by
 unfold oo;rw[PZ]
 induction h with
 | nil=>rfl
 | own _ _ ih=>simp[ih]
 | got _ _ _ _ ih=>simp[ih]
theorem oE.at{X:Cx}{sc:Scope}{N:List Str}{c:List (Option Nat)}{σ:St}(h:oE X sc N c):∀{j:Nat}{x:Str}{v:V},N[j]? = some x ->(oo c σ)[j]? = some (some v) ->
  ∃ i:Nat,X.N[i]? = some x/\σ[i]? = some (some v)/\sc.names.lookup x=some .free/\(X.env.kindOf x=some .cell\/X.env.kindOf x=some .free):=by
 induction h with
 | nil=>intro j x v h1;simp at h1
 | own _ _ ih =>
  intro j x v h1 h2;cases j with
  | zero=>simp[oo]at h2
  | succ j=>exact ih (by simpa using h1) (by simpa [oo]using h2)
 | @got y i N c g1 g2 g3 _ ih =>
  intro j x v h1 h2;cases j with
  | zero =>
   have e:y=x:=by simpa using h1
   subst e;refine⟨i,g1,?_,g2,g3⟩;have h2':(σ[i]?).join=some v:=by simpa [oo]using h2
   cases q:σ[i]? with
   | none=>rw[q]at h2';cases h2'
   | some o =>
    rw[q]at h2'
    have:o=some v:=h2'
    rw[this]
  | succ j=>exact ih (by simpa using h1) (by simpa [oo]using h2)
def blk(X:Cx)(N':List Str)(sc:Scope)(cl:List (Str×Addr))(C:Addr)(s₂:Shared)(H₂:Hp)(fp:List Addr):Cx :=
 { X with N:=N',s₀:=s₂,H₀:=H₂,env:=compEnvC sc cl C X.env,outer:=X.stack,ex:=fp,fn:=fun _=>false,pn:=[],xe:=fun _ _=>False }
def PTs(X:Cx)(ifs:List Expr)(t:TT):Prop :=
 ∀(j0:List (Addr×Obj))(s:Shared)(σ:St)(H:Hp)(Q:Bool->Hp->Prop),Inv X j0 σ H s->t σ H Q ->
  wpAny (model X.prog X.w) X.A (forIn ifs true fun c r=>if r=true then do let ok <- isTrue c X.env (eval c X.env);pure (ForInStep.yield ok)else pure (ForInStep.yield r)) (TP X j0 σ Q) X.xe s
def BO:TT:=fun _ H Q=>Q true H
theorem B9:PTs X [] BO:=fun _ _ _ H _ I h=>wpAny_tests_nil ⟨H,I,h⟩
theorem B8{c:Expr}{t:TT}(h:PT X c t):PTs X [c] t:=fun j0 s σ H Q I q=>wpAny_tests_one (h j0 s σ H Q I q)
def Oh(g:TG)(tst:TT)(te:TE)(σ0:St)(Q:VK)(J:It)(H1:Hp):Prop :=
 ∃ W:Nat->Nat->List V->St->Hp->Prop,(∃ m,W 0 m [] σ0 H1)/\∀ i m ys σ' H',W i m ys σ' H' ->
  (J.stop i H'/\ys.length<=WT/\∀ D,H' D=none->Q (.ref D) (upd H' D (.lst ys))) \/
  (J.go i H'/\ys.length<WT/\∃ N:List V->St->Hp->Prop,(∀ ys2 σ2 H2,N ys2 σ2 H2->∃ m',m'<m/\W (i+1) m' ys2 σ2 H2)/\∀ x H2,J.yld i H' x H2->g x σ' H2 fun σ2 H3=>tst σ2 H3 fun b H4 =>
   if b=true then te σ2 H4 fun y H5=>N (ys ++ [y]) σ2 H5 else N ys σ2 H4)
def uK(cap:List (Option Nat))(wi:TI)(g:TG)(tst:TT)(te:TE):TE:=fun σ H Q=>wi σ H (Oh g tst te (oo cap σ) Q)
variable{prog:Program}{A:Around}{R:Result->Shared->Prop}{elt:Expr}{iter:Expr}{ifs:List Expr}{pos:Pos}
theorem EB{w:World}{s:Shared}{target:Expr}{it acc:Value}(I:Nat->Shared->Prop)
  (turn:∀ n s,I n s->wpAny (model prog w) A (pyNext it) (fun r s₁=>match r with
   | none=>R (.ok .next) s₁
   | some v=>wpAny (model prog w) A (letOwnedTupleGo target it v) (fun _ s₁'=>wpAny (model prog w) A (assign target env v) (fun _ s₂ =>
     wpAny (model prog w) A (forIn ifs true fun c r=>if r=true then do let ok <- isTrue c env (eval c env);pure (ForInStep.yield ok)else pure (ForInStep.yield r)) (fun ok s₃ =>
      if ok=true then wpAny (model prog w) A (eval elt env) (fun x s₄ =>
       wpAny (model prog w) A (call (.builtin "list.append") [acc,x]) (fun _ s₅=>∃ m,m<n/\I m s₅) (fun _ _=>False) s₄) (fun _ _=>False) s₃
      else ∃ m,m<n/\I m s₃) (fun _ _=>False) s₂) (fun _ _=>False) s₁') (fun _ _=>False) s₁) (fun _ _=>False) s)
  (n:Nat) (h:I n s) :
  codeAny (model prog w) A (.compLoop (.ListComp elt [⟨target,iter,ifs,0⟩] scope pos) 0 it acc env) R s:=by
 refine codeAny_loop rfl I (fun n s hI=>?_) n h
 show wpAny _ A ((compTurn (.ListComp elt [⟨target,iter,ifs,0⟩] scope pos) 0 it acc env).onRaise (fun x=>do noteFrame x env;theTreesLotGoes x)) _ _ s
 refine wpAny_noted ?_;rw[compTurn_list];refine j2 (wpAny_standAt (j2 (X5 (turn n s hI) (fun r s₁ h₁=>?_) fun _ _ h'=>h'.elim)))
 cases r with
 | none=>exact TH h₁
 | some v =>
  refine j2 (X5 h₁ (fun _ s₁' h₁'=>?_) fun _ _ h'=>h'.elim)
  refine j2 (X5 h₁' (fun _ s₂ h₂=>j2 (X5 h₂ (fun ok s₃ h₃=>?_) fun _ _ h'=>h'.elim)) fun _ _ h'=>h'.elim)
  cases ok with
  | false=>exact TH ⟨rfl,h₃⟩
  | true =>
   exact j2 (j2 (X5 h₃ (fun x s₄ h₄=>j2 (X5 h₄ (fun _ s₅ h₅=>TH (TH ⟨rfl,h₅⟩)) fun _ _ h'=>h'.elim)) fun _ _ h'=>h'.elim))
variable{j0:List (Addr×Obj)}{H:Hp}{tg:Expr}{p:Pos}{N':List Str}{cap:List (Option Nat)}{tst:TT}{te:TE}
theorem zp{σ:St}{s:Shared}{Q:VK}{wi:TI}{g:TG}{use:Option (Value->Sem Unit)}{Q':Value->Shared->Prop}
  (hc:X.calm=true) (hi:PI X tg iter wi) (i8:sc.kind = .function) (gT:∀ y∈sc.names,y.2 ≠ .cell) (jI:∀ y∈sc.names,y.2 = .local->sc.names.lookup y.1=some .local)
  (jT:∀ y∈sc.names,y.2 = .free->X.env.kindOf y.1=some .cell\/X.env.kindOf y.1=some .free) (uq:oE X sc N' cap)
  (hb:∀ cl C s₂ H₂ fp,PG (blk X N' sc cl C s₂ H₂ fp) tg g/\PTs (blk X N' sc cl C s₂ H₂ fp) ifs tst/\PE (blk X N' sc cl C s₂ H₂ fp) elt te)
  (I:Inv X j0 σ H s) (h:uK cap wi g tst te σ H Q)
  (fin:∀ D C m H' s',Inv X j0 σ H' s'->tR X j0 H' C->s'.heap.Ns C m->Q (.ref D) H'->compPost (model X.prog X.w) X.A X.xe use Q' (.ref D) C (.ok .next) s')
  (hs:∀ x,foldedSetIterable iter X.env x=pure x) :
  wpAny (model X.prog X.w) X.A (comprehension (.ListComp elt [⟨tg,iter,ifs,0⟩] sc pos) sc X.env p (newList []) false (eval iter X.env) use) Q' X.xe s:=by
 obtain⟨cl,T1,zb,T2⟩:=Bk (scope:=sc) (env:=X.env) fun q hq e=>I.ok.has q.1 (jT q hq e)
 refine wpAny_comprehension_free rfl hs T1 i8 jI (thn (hi j0 s σ H _ I h) fun v s1 h1=>thn h1 fun itv s2 h2=>?_)
 obtain⟨it,fp,tn,J,H2,e,I2,T,st2,f2,W,⟨m0,w0⟩,turn⟩:=h2;subst e;refine XI (wpAny_newFunctionEnv gT (by intro y hy;simp at hy) (fun h₁ Mw Iq=>?_) i8)
 dsimp only at Mw Iq ⊢
 generalize hHP:s2.heap.push { cls:=.type "list",dict:=none,data:=.seq ([]:List Value).toArray }=HP at Mw Iq ⊢
 have hC:HP.objs.size=s2.heap.objs.size+1:=by rw[<- hHP,Xq]
 obtain⟨D,hDn⟩:∃ D:Nat,s2.heap.objs.size=D:=⟨_,rfl⟩
 obtain⟨C,hCn⟩:∃ C:Nat,HP.objs.size=C:=⟨_,rfl⟩
 rw[hDn]at hC;rw[hCn]at hC Mw Iq ⊢;rw[hDn];have hDC:@Ne Addr D C:=nW (by omega)
 have old:∀ b o,s2.heap.get? b=some o->h₁.get? b=some o:=fun b o e =>
  Iq.extBut b o (nW (by have:=su e;omega)) (j3 _ (hHP▸j3 _ e))
 have mU:h₁.get? D=some { cls:=.type "list",data:=.seq ([]:List Value).toArray 0 } :=
  Iq.extBut _ _ hDC (j3 _ (by rw[<- hHP,<- hDn];exact W8 _ rfl))
 have okB:(blk X N' sc cl C s2 H2 fp).Ok:=by
  refine⟨I.ok.mod,i8,I.ok.glob,I.ok.blt,(by show s2.heap.objs.size<=C;omega),fun x y c h1 h2=>I.ok.inj x y c (zb x c h1) (zb y c h2),fun x hx=>?_,fun x c hx=>(nomatch hx),I.ok.hd,I.ok.frames,.inl rfl,fun b hb=>?_,
   fun b o e=>I2.bs b o e,Xw I2.ok.bsz I2.sz,fun b o e hb=>?_,fun b hb=>?_,I2.stack,I2.BS⟩
  ·have hx':sc.names.lookup x=some .free:=by
    rcases hx with hx|hx
    ·rcases ix hx with z|z
     ·exact absurd rfl (gT _ (PySem.mem_of_lookup z))
     ·exact z.1
    ·rcases ix hx with z|z
     ·exact z
     ·exact z.1
   exact T2 x (PySem.mem_of_lookup hx')
  ·obtain⟨o,ho,_⟩:=T.obj _ _ st2 b hb;refine⟨?_,fun x c e=>(f2 b hb).2.2.2.2.1 x c (zb x c e)⟩
   show @Ne Addr b C
   have:=su ho
   exact nW (by omega)
  ·obtain⟨_,_,_,z,_⟩:=f2 b hb;rcases z with z|z
   ·exact I2.ok.HQ b o e z
   ·have:=su (show X.base.get? b=some o from e)
    have:=I2.ok.bsz
    omega
  ·intro hb';rcases QH.mp (I2.vB b hb')with z|z
   ·exact(f2 b hb).2.1 z
   ·exact(f2 b hb).2.2.1 z
 have nD:H2 D=none:=I2.hok.fresh (by rw[hDn];exact Xa _)
 have hb0:=hb cl C s2 H2 fp
 generalize hXB:blk X N' sc cl C s2 H2 fp=XB at okB hb0
 have eP:XB.prog=X.prog:=by rw[<- hXB];rfl
 have eW:XB.w=X.w:=by rw[<- hXB];rfl
 have eK:XB.K=X.K:=by rw[<- hXB];rfl
 have eA:XB.A=X.A:=by rw[<- hXB];rfl
 have eE:XB.env=compEnvC sc cl C X.env:=by rw[<- hXB];rfl
 have eX:XB.xe=fun _ _=>False:=by rw[<- hXB];rfl
 have eFs:XB.fs=frs X.stack:=by rw[<- hXB];rfl
 have eEx:XB.ex=fp:=by rw[<- hXB];rfl
 have eS:XB.s₀=s2:=by rw[<- hXB];rfl
 have eH:XB.H₀=H2:=by rw[<- hXB];rfl
 have ePn:XB.pn = []:=by rw[<- hXB];rfl
 have eCa:XB.calm=true:=by rw[<- hXB];exact hc
 have eN:XB.N=N':=by rw[<- hXB];rfl
 have eL:XB.env.locals=C:=by rw[eE];rfl
 have eCl:XB.env.cells=cl:=by rw[eE];rfl
 have WL:∀(x:Str)(c:Nat),cl.lookup x=some c->c<D:=fun x c e=>by
  obtain⟨v,z⟩:=I2.cell x c (zb x c e)
  have:=CP z
  omega
 have nfs:∀(b:Nat),D<=b->b ∉ XB.fs:=fun b hb z=>by
  rw[eFs]at z;obtain⟨_,o,ho,_⟩:=I2.stack.mem z
  have:=su ho
  omega
 have fpD:∀(b:Nat),b∈fp->b<D:=fun b hb=>by
  obtain⟨o,ho,_⟩:=T.obj _ _ st2 b hb
  have:=su ho
  omega
 have loop:∀ s3:Shared,s3 ={ s2 with heap:=h₁,toks:=s2.toks+([]:List (Str×Value)).length } ->
   codeAny (model X.prog X.w) X.A (.compLoop (.ListComp elt [⟨tg,iter,ifs,0⟩] sc pos) 0 (.ref it) (.ref D) (compEnvC sc cl C X.env)) (compPost (model X.prog X.w) X.A X.xe use Q' (.ref D) C) s3:=by
  rintro s3 rfl
  refine EB (fun n s'=>∃ i ys σ' H' its k,Inv XB [] σ' H' s'/\tn i s'.heap/\(∀ b∈fp,H' b=none)/\H' D=none/\s'.heap.get? D=some { cls:=.type "list",data:=.seq (its:List Value).toArray k }/\Vals ys its/\W i n ys σ' H') ?_ m0
   ⟨0,[],oo cap σ,H2,[],0,?_,T.keep _ _ _ st2 fun b hb o e=>old b o e,fun b hb=>(f2 b hb).1,nD,mU,.nil,w0⟩
  ·rintro n s4 ⟨i,ys,σ4,H4,its,k,I4,st4,fr4,d4,o4,v4,w4⟩
   have fpk:∀{H':Hp}{pl:List (Addr×Obj)},(∀ b∈fp,H' b=none) ->(∀ q∈pl,q.1 ∉ fp)->∀ b∈fp,tR XB pl H' b:=fun{H' pl} hn hpl b hb=>by
    refine⟨hn b hb,?_,?_,.inl (by rw[eEx];exact hb),fun x c e=>?_,fun q hq=>?_⟩
    ·rw[eL];have:=fpD b hb;exact nW (by omega)
    ·rw[eFs];intro z;rcases QH.mp (I2.vB b z)with z|z
     ·exact(f2 b hb).2.1 z
     ·exact(f2 b hb).2.2.1 z
    ·rw[eCl]at e;exact(f2 b hb).2.2.2.2.1 x c (zb x c e)
    ·rw[ePn]at hq;intro z;exact hpl q (by simpa using hq) (z▸hb)
   have pD:∀ q ∈ [(D,({ cls:=.type "list",data:=.seq its.toArray k }:Obj))],q.1 ∉ fp:=fun q hq=>by
    have e:q=_:=qr.mp hq;subst e;intro z
    have:=fpD _ z
    omega
   have I4':Inv XB [(D,{ cls:=.type "list",data:=.seq its.toArray k })] σ4 H4 s4:=I4.nR fun q hq=>by
    have e:q=_:=qr.mp hq;subst e;refine⟨o4,d4,?_,nfs _ (Xa _),fun v=>by simp⟩
    rw[eL];exact hDC
   have Xb:=I4';rw[<- eA,<- eP,<- eW];rcases turn i n ys σ4 H4 w4 with⟨stop,hz,qn⟩ |⟨go,hz,N,hN,step⟩
   ·rw[<- eP,<- eW,<- eK]at T;refine X5 (T.done XB rfl rfl rfl eCa i _ s4 σ4 H4 (fun _ _=>False) I4' (fpk fr4 pD) st4 stop) (fun r s5 ⟨hr,I5⟩=>?_) fun _ _ z=>z
    subst hr;rw[eP,eW,eA];obtain⟨o5,n5,_⟩:=I5.pin (D,{ cls:=.type "list",data:=.seq its.toArray k }) (W7 _ (qr.mpr rfl));have u5:Un (frs X.stack) fp H2 H4 s2.heap s5.heap:=by
     have z:=I5.base;rw[eFs,eEx,eH,eS]at z;exact z
    have lt2:∀ b o,s2.heap.get? b=some o -> @Ne Addr b D:=fun b o e=>nW (by have:=su e;omega)
    have ne5:∀ b u,H4 b=some u->b≠D:=fun b u e z=>by rw[z,d4]at e;cases e
    have hk5:HOk X.prog X.w H4 s5.heap:=by
     have z:=I5.hok;rw[eP,eW]at z;exact z
    have WE:=fin D C;obtain⟨mC,hNs,_⟩:=id I5.loc;rw[eL]at hNs;have IX:Inv X j0 σ (upd H4 D (.lst ys)) s5:=by
     refine I2.Uw (s':=s5) (ch:=fp) ?_ ⟨u5.keep,u5.slot,fun b o e n hx=>?_,u5.there,fun b xs e=>?_,fun b o u e=>?_,fun b ps e=>?_⟩ ?_ I5.bare fun b hb=>⟨(f2 b hb).2.2.2.1,(f2 b hb).2.1,(f2 b hb).2.2.2.2.1,(f2 b hb).2.2.2.2.2⟩
     ·have z:=I5.os;rw[eS]at z;exact z
     ·rw[ai (lt2 b o e)];exact u5.free b o e n hx
     ·have z:=u5.qO b xs e;rw[ai (ne5 b _ z)];exact z
     ·have z:=u5.n8 b o u e;rw[ai (ne5 b _ z)];exact z
     ·obtain⟨more,z⟩:=u5.qP b ps e;exact⟨more,by rw[ai (ne5 b _ z)];exact z⟩
     ·intro a o e;by_cases ha:a=D
      ·subst ha;rw[aw]at e;cases e;exact⟨hz,its,k,v4,o5⟩
      ·rw[ai ha]at e;exact(hk5 a o e).b6 (fun _ _ _ q=>q) (fun b q=>by rw[ai (ne5 b _ q)];exact q) fun b xs q=>by rw[ai (ne5 b _ q)];exact q
    refine WE mC _ s5 IX ?_ hNs (qn D d4);have hCN:H4 C=none:=by
     have z:=I5.free;rw[eL]at z;exact z
    refine⟨by rw[ai (Ne.symm hDC)];exact hCN,?_,?_,.inr ?_,fun x c e=>?_,fun q hq=>?_⟩
    ·have:@LT.lt Nat _ X.env.locals s2.heap.objs.size:=I2.lt
     exact To (by omega)
    ·exact I2.Tn (by rw[hDn];omega)
    ·have:=I2.sz;omega
    ·obtain⟨v,z⟩:=I2.cell x c e
     have:=CP z
     exact nW (by omega)
    ·have:=su (I2.pin q hq).1
     exact nW (by omega)
   ·have T':=T;rw[<- eP,<- eW,<- eK]at T';refine X5 (T'.item XB rfl rfl rfl eCa i _ s4 σ4 H4 (fun _ _=>False) I4' (fpk fr4 pD) st4 go) (fun r s5 ⟨u,hr,h5⟩=>?_) fun _ _ z=>z
    subst hr;refine thn h5 fun _ s6 hPP=>?_
    obtain⟨x,H6,I6,r6,y6,st6,fr6⟩:=hPP;have I6':=I6.pinned (fpk fr6 pD) (T.obj _ _ st6);obtain⟨hg0,ht0,he0⟩:=hb0;rw[<- eE];have hgo:=hg0 _ s6 σ4 H6 x u _ I6' r6 (step x H6 y6);rw[eX]at hgo;refine thn hgo fun _ s7 hPP=>?_
    obtain⟨σ7,H7,I7,q7⟩:=hPP;have hto:=ht0 _ s7 σ7 H7 _ I7 q7;rw[eX]at hto;refine thn hto fun b s8 hPP=>?_
    obtain⟨H8,I8,q8⟩:=hPP;have back:∀{σ9:St}{H9:Hp}{s9:Shared},Inv XB ([(D,{ cls:=.type "list",data:=.seq its.toArray k })]++rQ fp s6.heap) σ9 H9 s9->tn (i+1) s9.heap/\(∀ b∈fp,H9 b=none)/\H9 D=none/\s9.heap.get? D=some { cls:=.type "list",data:=.seq its.toArray k }:=fun{σ9 H9 s9} I9=>by
     have z:=I9.pin (D,{ cls:=.type "list",data:=.seq its.toArray k }) (W7 _ (Xf _ (qr.mpr rfl)));refine⟨T.keep _ _ _ st6 fun b hb o e=>(I9.pin (b,o) (W7 _ (W7 _ (gP hb e)))).1,fun b hb=>?_,z.2.1,z.1⟩
     obtain⟨o,e,_⟩:=T.obj _ _ st6 b hb;exact(I9.pin (b,o) (W7 _ (W7 _ (gP hb e)))).2.1
    cases b with
    | false =>
     rw[if_neg Xd]at q8 ⊢;obtain⟨m',hm,w8⟩:=hN _ _ _ q8;obtain⟨t1,t2,t3,t4⟩:=back I8;exact⟨m',hm,i+1,ys,σ7,H8,its,k,I8.nR (fun q hq=>nomatch hq),t1,t2,t3,t4,v4,w8⟩
    | true =>
     rw[if_pos rfl]at q8 ⊢;have heo:=he0 _ s8 σ7 H8 _ I8 q8;rw[eX]at heo;refine thn heo fun yv s9 hPP=>?_
     obtain⟨y,H9,I9,r9,n9⟩:=hPP;obtain⟨m',hm,w9⟩:=hN _ _ _ n9;obtain⟨t1,t2,t3,t4⟩:=back I9;have hsz:its.toArray.size<=WT:=by
      have e:=v4.length;have e2:its.toArray.size=its.length:=by simp
      omega
     refine append_at (hsz:=hsz) t4 fun h' hs' hD'=>?_
     ·refine⟨m',hm,i+1,ys ++ [y],σ7,H9,its ++ [yv],k+1,?_,T.keep _ _ _ t1 fun b hb o e=>hs'.extBut b o (nW (fpD b hb)) e,t2,t3,?_,v4.append (.cons r9 .nil),w9⟩
      ·refine(I9.nR (pins':=[]) (fun q hq=>nomatch hq)).turned (t':=s9.toks) (it:=D) (fun b o hb e=>hs'.extBut b o hb e) t3 ?_ (.inr ?_) (fun x c e=>?_) fun q hq=>?_
       ·rw[eL];exact hDC
       ·rw[eS];omega
       ·rw[eCl]at e;exact nW (WL x c e)
       ·rw[ePn]at hq;exact nomatch hq
      ·rw[hD'];simp
  ·
   refine⟨okB,by rw[eS],I2.bare,by rw[eFs,eEx,eH,eS];exact Un.kept old,⟨_,by rw[eL];exact Mw,fun j x v h1 h2 h3=>?_⟩,fun x c e=>?_,?_,fun x c e=>?_,fun q hq=>?_,by rw[eP,eW];exact I2.hok.kept old,by rw[eN];exact uq.len⟩
   ·rw[eN]at h1;obtain⟨i,g1,g2,g3,g4⟩:=uq.at h1 h2;obtain⟨m,hn,hl⟩:=I2.loc;have hv:Vis X.env.scope x:=by
     rcases g4 with z|z
     ·exact .inr (.inl z)
     ·exact .inr (.inr z)
    obtain⟨u,r,l⟩:=hl i x v g1 g2 hv;refine⟨u,r,.inr ⟨?_,?_⟩⟩
    ·rw[eE];exact(nJ g3).symm
    ·rcases l with⟨hk,_⟩ |⟨_,c,e,z⟩
     ·rcases g4 with y|y
      ·rw[y]at hk;cases hk
      ·rw[y]at hk;cases hk
     ·obtain⟨c',e'⟩:=T2 x (PySem.mem_of_lookup g3)
      have:=zb x c' e'
      rw[e]at this;cases this;obtain⟨o,ho,hd⟩:=z;exact⟨c,by rw[eCl];exact e',o,old c o ho,hd⟩
   ·rw[eCl]at e;obtain⟨v,o,ho,hd⟩:=I2.cell x c (zb x c e);exact⟨v,o,old c o ho,hd⟩
   ·rw[eL];exact I2.hok.fresh (by rw[hDn];omega)
   ·rw[eCl]at e;exact I2.gW x c (zb x c e)
   ·rw[ePn]at hq;exact nomatch hq
 exact codeAny_compStart_list (loop _ rfl) (T.self X.A 0 _ _ _ (T.keep _ _ _ st2 fun b hb o e=>old b o e) (loop _ rfl))
theorem Cy(h:(sc.names.all fun y=>y.2 != .free ||(X.env.kindOf y.1==some .cell||X.env.kindOf y.1==some .free))=true) :
  ∀ y∈sc.names,y.2 = .free->X.env.kindOf y.1=some .cell\/X.env.kindOf y.1=some .free:=fun y hy e=>by
 have z:=XH.mp h y hy;rw[e]at z;simpa using z
theorem Ci{pos:Pos}{wi:TI}{g:TG}
  (hc:X.calm=true) (hi:PI X tg iter wi) (uq:oE X sc N' cap)
  (hb:∀ cl C s₂ H₂ fp,PG (blk X N' sc cl C s₂ H₂ fp) tg g/\PTs (blk X N' sc cl C s₂ H₂ fp) ifs tst/\PE (blk X N' sc cl C s₂ H₂ fp) elt te)
  (i8:sc.kind = .function:=by rfl) (gT:∀ y∈sc.names,y.2 ≠ .cell:=by decide) (jI:∀ y∈sc.names,y.2 = .local->sc.names.lookup y.1=some .local:=by decide)
  (jT:(sc.names.all fun y=>y.2 != .free ||(X.env.kindOf y.1==some .cell||X.env.kindOf y.1==some .free))=true:=by rfl)
  (hs:∀ x,foldedSetIterable iter X.env x=pure x:=by intro _;rfl):PE X (.ListComp elt [⟨tg,iter,ifs,0⟩] sc pos) (uK cap wi g tst te):=by
 intro j0 s σ H Q I h;rw[eval_ListComp];refine zp (use:=none) hc hi i8 gT jI (Cy jT) uq hb I h (fun D C m H' s' I' f' hn q=>?_) hs
 refine⟨m,hn,fun h' hs'=>⟨.ref D,H',?_,rfl,q⟩⟩
 exact I'.turned (t':=s'.toks) (it:=C) (fun b o hb e=>hs'.extBut b o hb e) f'.1 f'.2.1.symm.symm f'.2.2.2.1 f'.2.2.2.2.1 f'.2.2.2.2.2
variable{ef:Pos}
theorem Cb{i:Nat}{y:Str}{py:Pos}{wi:TI}{g:TG}
  (hN:X.N.Nodup) (hi':X.N[i]? = some y) (hy:Loc X.env.scope y)
  (hc:X.calm=true) (hi:PI X tg iter wi) (uq:oE X sc N' cap)
  (hb:∀ cl C s₂ H₂ fp,PG (blk X N' sc cl C s₂ H₂ fp) tg g/\PTs (blk X N' sc cl C s₂ H₂ fp) ifs tst/\PE (blk X N' sc cl C s₂ H₂ fp) elt te)
  (hsw:swapsWith (.ListComp elt [⟨tg,iter,ifs,0⟩] sc pos) (some (.Name y py)) ef.line X.env=pure true:=by rfl)
  (hf:X.fn y=true\/X.env.scope.names.lookup y=some .local:=by first|exact .inl rfl|exact .inr rfl|assumption)
  (i8:sc.kind = .function:=by rfl) (gT:∀ y∈sc.names,y.2 ≠ .cell:=by decide) (jI:∀ y∈sc.names,y.2 = .local->sc.names.lookup y.1=some .local:=by decide)
  (jT:(sc.names.all fun y=>y.2 != .free ||(X.env.kindOf y.1==some .cell||X.env.kindOf y.1==some .free))=true:=by rfl)
  (hs:∀ x,foldedSetIterable iter X.env x=pure x:=by intro _;rfl):PS X (.Assign [.Name y py] (.ListComp elt [⟨tg,iter,ifs,0⟩] sc pos) ef) (ni (uK cap wi g tst te) (gU i)):=by
 intro j0 s σ H Dn I h;rw[exec_Assign_Name_used _ _ _ _ hsw];refine j2 (wpAny_standAt (j2 ?_));show wpAny _ X.A (do let _ <- comprehension (.ListComp elt [⟨tg,iter,ifs,0⟩] sc pos) sc X.env _ (newList []) false (eval iter X.env) (some (assign (.Name y py) X.env))) _ _ s
 refine j2 (X5 (zp (use:=some (assign (.Name y py) X.env)) (Q:=fun x H1=>Dn.nx (σ.set i (some x)) H1) (Q':=fun _ s'=>SP X j0 Dn .next s') hc hi i8 gT jI (Cy jT) uq hb I h (fun D C m H' s' I' f' hn q=>?_) hs)
  (fun _ s' hq=>TH (TH hq)) fun _ _ e=>e)
 obtain⟨o,es,ep,ho,hd,hr⟩:=id hn;have I2:=I'.pinned (fp:=[C]) (fun b hb=>by rw[qr.mp hb];exact f') fun b hb=>by
  rw[qr.mp hb];exact⟨o,ho,fun v=>by rw[hd];simp⟩
 refine wpAny_assign_Name (nj I2 hN hi' hy (v:=.ref D) rfl (fun s2 I3=>?_) hf)
 have z:=(I3.pin (C,o) (W7 _ (W7 _ (gP (qr.mpr rfl) ho)))).1;refine⟨m,⟨o,es,ep,z,hd,hr⟩,fun h' hs'=>⟨_,H',?_,q⟩⟩
 exact I3.ng.turned (t':=s2.toks) (it:=C) (fun b o hb e=>hs'.extBut b o hb e) f'.1 f'.2.1 f'.2.2.2.1 f'.2.2.2.2.1 f'.2.2.2.2.2
variable{a:Addr}{xs:List V}
section
theorem vd{K:W.Frag}{g:TG}{σ:St}{Q:VK}(Pv:Nat->List V->St->Hp->Prop)(h0:Pv 0 [] σ H)
  (hl:∀ i ys σ H,i<=xs.length->Pv i ys σ H->SqL K H a xs/\ys.length<WT)
  (hs:∀ i x ys σ H,xs[i]? = some x->Pv i ys σ H->g x σ H fun σ2 H3=>tst σ2 H3 fun b H4=>if b=true then te σ2 H4 fun y H5=>Pv (i+1) (ys ++ [y]) σ2 H5 else Pv (i+1) ys σ2 H4)
  (hd:∀ ys σ H,Pv xs.length ys σ H->∀ D,H D=none->Q (.ref D) (upd H D (.lst ys))) :
  Oh g tst te σ Q (Itl K a) H:=by
 refine⟨fun i m ys σ H=>m=xs.length - i/\i<=xs.length/\Pv i ys σ H,⟨xs.length,by simp,XU _,h0⟩,?_⟩
 rintro i m ys σ H ⟨rfl,hi,p⟩
 obtain⟨q,hz⟩:=hl i ys σ H hi p;by_cases hlt:i<xs.length
 ·refine .inr ⟨⟨xs,xs[i],q,by simp[hlt]⟩,hz,Pv (i+1),fun ys' σ' H' p'=>⟨xs.length - (i+1),by omega,rfl,hlt,p'⟩,fun x H' y=>?_⟩
  obtain⟨e,y⟩:=y;subst e;exact hs i x ys σ _ (y xs q) p
 ·have e:i=xs.length:=by omega
  subst e;exact .inl ⟨⟨xs,q,Xa _⟩,XO hz,hd ys σ H p⟩
def RT:V->Option Int->Option Int->Hp->VK->Prop:=fun x lo hi H Q=>∃ z,x = .str z/\z.length<=WT/\Q (.str (Txt.slice z lo hi)) H
theorem Ow:SlR X RT:=by
 intro j0 s σ H x v vl vu lo hi sl Q I rx hs pl pu h;obtain⟨z,rfl,hz,q⟩:=h;obtain⟨t,rfl⟩:=rx;refine⟨"str",_,PySem.F.slot_str_getitem.lookup,typeIs_str s z t,?_⟩;obtain⟨o,h1,h2,h3⟩:=hs;have fin:∀(y:Str)(t' k:Nat),y=Txt.slice z lo hi->EP X j0 σ Q (.str y t') { s with toks:=k }:=fun y t' k e=>by subst e;exact⟨.str _,H,I.tok k,⟨_,rfl⟩,q⟩
 cases pl with
 | none =>
  cases pu with
  | none=>exact wpAny_getItem_str_slice (l:=none) (u:=none) (st:=none) ⟨o,h1,h2,h3⟩ rfl (post_val_or_str ⟨Xw (Txt.slice_le z _ _) hz,fun t' k=>fin _ t' k rfl⟩)
  | int j uj=>exact wpAny_getItem_str_slice (l:=none) (u:=some (j,uj)) (st:=none) ⟨o,h1,h2,h3⟩ rfl (post_val_or_str ⟨Xw (Txt.slice_le z _ _) hz,fun t' k=>fin _ t' k rfl⟩)
 | int i ui =>
  cases pu with
  | none=>exact wpAny_getItem_str_slice (l:=some (i,ui)) (u:=none) (st:=none) ⟨o,h1,h2,h3⟩ rfl (post_val_or_str ⟨Xw (Txt.slice_le z _ _) hz,fun t' k=>fin _ t' k rfl⟩)
  | int j uj=>exact wpAny_getItem_str_slice (l:=some (i,ui)) (u:=some (j,uj)) (st:=none) ⟨o,h1,h2,h3⟩ rfl (post_val_or_str ⟨Xw (Txt.slice_le z _ _) hz,fun t' k=>fin _ t' k rfl⟩)
theorem z6{ys:List Str}:∀{us:List Value},Vals (ys.map V.str) us->StrsAre us ys:=by
 induction ys with
 | nil=>intro us r;rw[Zc]at r;cases r;exact .nil
 | cons n ns ih =>
  intro us r;rw[Xs]at r;cases r with
  | cons r1 r2 =>
   obtain⟨t,e⟩:=r1;subst e;exact .cons n t (ih r2)
def rJoin(K:W.Frag):V->List V->Hp->VK->Prop:=fun x xs H Q=>∃ sep l ys,x = .str sep/\xs = [.ref l]/\SqL K H l (ys.map V.str)/\(ys.map (·.length)).sum+ys.length*sep.length<=16777216/\Q (.str (Txt.join sep ys)) H
theorem L9:MtR X "str.join" (rJoin X.K):=by
 intro j0 s σ H x xs v us Q I rx rs h;obtain⟨sep,l,ys,rfl,rfl,hl,hw,q⟩:=h;obtain⟨t,rfl⟩:=rx;obtain⟨u,rfl,ru⟩:=Vals.one rs;cases ru;obtain⟨its,r,pl,hz⟩:=I.list hl;exact join_list pl.isList (by simpa using z6 r) hw fun t' k=>⟨.str _,H,I.tok k,⟨_,rfl⟩,q⟩
end
variable{I:Addr}{fp:List Addr}{wr:List Addr}{n:Nat}
section
variable{w:World}{E:Value->Shared->Prop}{s:Shared}
theorem D4:typeLookup (.type "list_reverseiterator") "__len__" = pure none:=by rw[typeLookup_type,builtinLookup_eq_fast];kernel_rfl
theorem Iy:typeLookup (.type "list_reverseiterator") "__length_hint__" = pure (some (.builtin "list_reverseiterator.__length_hint__")):=by rw[typeLookup_type,builtinLookup_eq_fast];kernel_rfl
theorem Bf{R:Result->Shared->Prop}{P:Nat->Value->Prop}{St:Nat->Heap->Prop}(W:Walks prog w A.in1 I fp wr n P St)(hT:∀ i (s:Shared),St i s.heap->s.TypeIs (.ref I) "list_reverseiterator")(S:Addr)(res:Value)(c₀:Nat)(hst:St 0 s.heap)(hSf:S ∉ fp)(hI:I∈fp)
  (hS:s.heap.get? S=some { cls:=.type "list",data:=.seq #[] c₀ })
  (hR:∀ s' dF c',Moved (S::wr) (fun g g'=>g'=g) s s'->s'.heap.get? S=some { cls:=.type "list",dict:=none,data:=.seq dF c',slots:=#[] }->ItemsOf P dF n->R (.ok (.ret res)) s') (hn:n<=WT) :
  wpAny (model prog w) A.in1 (Builtin.List.listExtendWith (.ref S) (.ref I) res)
   (fun fin s'=>match fin with | .done f=>R (.ok f) s' | .again c'=>c'.quiet=true/\codeAny (model prog w) A c' R s') (fun e s'=>R (.error e) s') s:=by
 have hSI:S≠I:=fun e=>hSf (e▸hI)
 have h1:Builtin.List.listSameRef (.ref S) (.ref I)=false:=by simp[Builtin.List.listSameRef,hSI]
 unfold Builtin.List.listExtendWith;refine j2 (Yg (hT 0 _ hst) ?_);rw[if_neg (by rw[h1];decide)]
 refine j2 (W.self 0 _ _ _ hst ?_);refine j2 (XJ ?_);unfold Builtin.List.listLengthHint;refine j2 (X6 (hT 0 _ hst) D4 ?_);show wpAny _ A.in1 (specialOf (Value.ref I) (Str.ofString "__length_hint__") >>= _) _ _ _;refine j2 (X6 (hT 0 _ hst) Iy ?_)
 generalize hid:("list_reverseiterator.__length_hint__":String)=id0
 wp_delta
 rw[show splitId id0=some ("list_reverseiterator","__length_hint__")from by subst hid;decide +kernel]
 subst hid;refine j2 (X8 (b:=true) (hT 0 _ hst) (by rw[Yh];kernel_rfl) ?_)
 refine TH ?_;rw[if_neg (by decide)]
 exact TH ⟨Yt F.plain_extend_loop _,codeAny_extend_loopS W.toS hn _ hSf _ n 0 _ _ _ rfl (XU _) hst hS (ItemsOf.nil P) fun s' dF c' hm hS' mU=>hR s' dF c' hm hS' mU⟩
theorem Il{R:Result->Shared->Prop}{P:Nat->Value->Prop}{St:Nat->Heap->Prop}(W:Walks prog w A.in1 I fp wr n P St)(hT:∀ i (s:Shared),St i s.heap->s.TypeIs (.ref I) "list_reverseiterator")(S:Addr)(hst:St 0 s.heap)(hSf:S ∉ fp)(hI:I∈fp)
  (hS:s.heap.get? S=some { cls:=.type "list",data:=.seq #[] })
  (hR:∀ s' dF c',Moved (S::wr) (fun g g'=>g'=g) s s'->s'.heap.get? S=some { cls:=.type "list",dict:=none,data:=.seq dF c',slots:=#[] }->ItemsOf P dF n->R (.ok (.ret .none)) s') (hn:n<=WT) :
  wpAny (model prog w) A.in1 (Builtin.«list.__init__» ⟨[.ref S,.ref I],[]⟩)
   (fun fin s'=>match fin with | .done f=>R (.ok f) s' | .again c'=>c'.quiet=true/\codeAny (model prog w) A c' R s') (fun e s'=>R (.error e) s') s:=by
 show wpAny _ A.in1 (do let old <- Builtin.List.listItems (.ref S);Builtin.List.listUpdate (.ref S) (fun _=>#[]);letGo old.toList.reverse;Builtin.List.listExtendWith (.ref S) (.ref I) .none) _ _ s
 refine j2 ?_;unfold Builtin.List.listItems;refine j2 (wpAny_seqItems hS rfl (TH ?_));show wpAny _ A.in1 (updateSeq S (fun _=>#[]) >>= fun _=>letGo (#[]:Array Value).toList.reverse >>= fun _=>Builtin.List.listExtendWith (.ref S) (.ref I) .none) _ _ s
 refine j2 (Yj hS rfl ?_);have hS₂:=XR (Yr (fun _=>(#[]:Array Value))) hS rfl
 have oth:∀ b o,b≠S->s.heap.get? b=some o ->(s.heap.update S (Yr (fun _=>(#[]:Array Value)))).get? b=some o :=
  fun b o hb e=>(Xx _ _ (Ne.symm hb)).trans e
 refine j2 (wpAny_letGo ?_);refine Bf (hn:=hn) W hT S .none _ (W.frame 0 s.heap _ hst fun b hb o e=>oth b o (fun h=>hSf (h▸hb)) e) hSf hI hS₂ fun s' dF c' hm hS' mU=>?_
 exact hR s' dF c' (Moved.trans (fun _ _ _ h1 h2=>h2.trans h1) ((Moved.refl (wr:=S::wr) (G:=fun g g'=>g'=g) (fun _=>rfl)).then_heap (Xa _) fun b o hb e=>oth b o (fun h=>hb (by rw[h];exact j5)) e) hm) hS' mU
theorem uy{Q:Value->Shared->Prop}{P:Nat->Value->Prop}{St:Nat->Heap->Prop}(W:Walks prog w A.in1.in1 I fp wr n P St)(hT:∀ i (s:Shared),St i s.heap->s.TypeIs (.ref I) "list_reverseiterator")(hst:St 0 s.heap)(hfp:∀ b∈fp,b<s.heap.objs.size)(hI:I∈fp)
  (hQ:∀ s' dF c',Moved (s.heap.objs.size::wr) (fun g g'=>g'=g) { s with heap:=s.heap.push { cls:=.type "list",data:=.seq #[] } } s' ->
   s'.heap.get? s.heap.objs.size=some { cls:=.type "list",dict:=none,data:=.seq dF c',slots:=#[] }->ItemsOf P dF n->Q (.ref s.heap.objs.size) s') (hn:n<=WT) :
  wpAny (model prog w) A (call (.type "list") [.ref I]) Q E s:=by
 have hSf:s.heap.objs.size ∉ fp:=fun hm=>Yq _ (hfp _ hm)
 refine callType_codes (Q₁:=fun obj s₁=>obj = .ref s.heap.objs.size/\s₁ ={ s with heap:=s.heap.push { cls:=.type "list",data:=.seq #[] } }) F.called_list (F.typeCall_list_1 _) F.entry_list_init
  (code_list_new _ ⟨rfl,rfl⟩) fun obj s₁ h₁=>?_
 obtain⟨rfl,rfl⟩:=h₁;have hS:(s.heap.push { cls:=.type "list",data:=.seq #[] }).get? s.heap.objs.size=some { cls:=.type "list",data:=.seq #[] }:=W8 _ rfl;refine⟨⟨_,hS,rfl⟩,F.args_list_init_2 _ _,Il (hn:=hn) W hT _ (W.frame 0 s.heap _ hst fun b _ o e=>j3 _ e) hSf hI hS fun s' dF c' hm hS' mU=>?_⟩
 exact⟨rfl,hQ s' dF c' hm hS' mU⟩
end
def qQ(K:W.Frag)(te:TE):TE:=fun σ H Q=>te σ H fun x H1=>∃ l ys,x = .ref l/\SqL K H1 l ys/\∀ q,H1 q=none->Q (.ref q) (upd H1 q (.lst ys.reverse))
theorem yc{its:Array Value}{acc:Array Value}{ys:List V}(r:Vals ys its.toList)(h:ItemsOf (fun i v=>its[its.size - 1 - i]? = some v) acc its.size):Vals ys.reverse acc.toList:=by
 have e:acc.toList=its.toList.reverse:=by
  apply List.ext_getElem?
  intro i;by_cases hi:i<its.size
  ·have h1:i<acc.size:=by rw[h.1];exact hi
   have h2:=h.2 i acc[i] (by simp[h1])
   rw[List.getElem?_reverse (by simpa using hi)]
   simp only[YE,Zm];rw[h2];simp[h1]
  ·have h1:¬ i<acc.size:=by rw[h.1];exact hi
   rw[YN (by simpa using h1),YN (by simpa using hi)]
 rw[e];exact Vals.reverse r
variable{e:Expr}
theorem rR{p1 p2 b7 pos:Pos}(hc:X.calm=true)(hg1:Gl X "list")(hm1:X.mg "list" = none)(hg2:Gl X "reversed")(hm2:X.mg "reversed" = none)(he:PE X e te)
  (hs1:QX [e] X.env = [(false,eval e X.env)]:=by rfl) (hs2:QX [.Call (.Name "reversed" p2) [e] [] b7] X.env = [(false,eval (.Call (.Name "reversed" p2) [e] [] b7) X.env)]:=by rfl) :
  PE X (.Call (.Name "list" p1) [.Call (.Name "reversed" p2) [e] [] b7] [] pos) (qQ X.K te):=by
 intro j0 s σ H Q I h;refine XQ (fO I hg1 hm1 boot_list ?_);refine PyProof.Rows.callWith_type1 ?_ hs2 rfl;rw[hs2];show wpAny _ _ (spliced ((false,eval (.Call (.Name "reversed" p2) [e] [] b7) X.env)::backTo pos (QX [] X.env))) _ _ s;refine Calls.spliced_cons ?_;refine XQ (fO I hg2 hm2 boot_reversed ?_);refine PyProof.Rows.callWith_type1 ?_ hs1 rfl;rw[hs1];show wpAny _ _ (spliced ((false,eval e X.env)::backTo b7 (QX [] X.env))) _ _ s;refine Calls.spliced_cons (thn (he j0 s σ H _ I h) fun u s1 hPP=>?_)
 obtain⟨x,H1,I1,r1,l,ys,ex,hl,q⟩:=hPP;subst ex;cases r1;refine Calls.spliced_nil ?_;obtain⟨its,rv,pl,hz⟩:=I1.list hl;have hlt:l<s1.heap.objs.size:=by obtain⟨_,e,_⟩:=pl.isList;exact Xe e
 refine call_reversed_list pl.isList (Calls.spliced_nil ?_);have W:=Walks.listRev (prog:=X.prog) (w:=X.w) (A:=X.A.in1.in1) (show X.A.in1.in1.handled=none from I.ok.hd hc) s1.heap.objs.size l (Xo hlt) its.toArray;refine uy (s:={ s1 with heap:=s1.heap.push (revObj l ((its.toArray.size:Int) - 1)) }) W (fun i s' st=>st.2.1.typeIs) ⟨XU _,⟨_,W8 _ rfl,rfl,by simp[revObj]⟩,pl.isList.push _⟩ (fun b hb=>?_) (by simp) (fun s' dF c' hm hS' mU=>?_) ?_
 ·show b<(s1.heap.push _).objs.size;rw[Xq];rcases QH.mp hb with z|z
  ·rw[z];exact XE _
  ·rw[qr.mp z];exact XS hlt
 ·rw[Moved.eq_with hm];have kp:∀ b o,s1.heap.get? b=some o->s'.heap.get? b=some o:=fun b o e=>hm.heap b o (fun z=>by
   have hb:@LT.lt Nat _ b s1.heap.objs.size:=Xe e;rcases QH.mp z with z|z
   ·rw[z]at hb;simp only[Xq]at hb;omega
   ·rw[qr.mp z]at hb;omega) (j3 _ (j3 _ e))
  have hv:Vals ys.reverse dF.toList:=yc (its:=its.toArray) (by simpa using rv) mU
  have hf:H1 ((s1.heap.push (revObj l ((its.toArray.size:Int) - 1))).objs.size)=none:=I1.hok.fresh (by rw[Xq];omega)
  refine⟨.ref _,_,I1.laid (t':=s'.toks) (h':=s'.heap) (o:=.lst ys.reverse) kp (by rw[Xq];omega) ⟨by rw[YW];exact hz,dF.toList,c',hv,by simpa using hS'⟩,rfl,q _ hf⟩
 ·have e:=rv.length;rw[Wc];omega
variable{x:Str}
section
theorem Hy{y:Int}(hg:Gl X x)(hm:∃ t,X.mg x=some (.int y t))(hd:(x ==("__debug__":Str))=false:=by decide):PE X (.Name x pos) (tC (.int y)):=by
 obtain⟨t,e⟩:=hm;exact LC hg e ⟨t,rfl⟩ hd
def JI(_ j:Int):Prop:=0<j/\j<18446744073709551616
theorem yP:OpR X (binaryOp .FloorDiv) (rI JI fun i j=>.int (i / j)):=opI fun i j _ _ _ _ _ hc q=>by
 obtain⟨h1,h2⟩:=hc;have e:i.fdiv j=i / j:=Int.fdiv_eq_ediv_of_nonneg _ (by omega)
 refine floordiv_int (by omega) (by rw[e];exact q) (.inl (PyProof.noPylong_of_log2 ?_))
 have h3:j.natAbs<2 ^ 64:=by omega
 have h4:j.natAbs≠0:=by omega
 exact Zd ((Nat.log2_lt h4).mpr h3) (by decide)
end
def dk(s n:Int)(l:Addr):List (Key×V):=[(.inr "seed",.int s),(.inr "number",.int n),(.inr "left",.ref l)]
variable{l:Addr}
theorem MG{s n:Int}:gw (dk s n l) (.inr "seed":Key)=some (.int s):=by kernel_rfl
theorem Eo{s n:Int}:gw (dk s n l) (.inr "number":Key)=some (.int n):=by kernel_rfl
theorem CA{s n:Int}:gw (dk s n l) (.inr "left":Key)=some (.ref l):=by kernel_rfl
variable{m:Int}
theorem Au{s n:Int}:putK (dk s n l) (.inr "number":Key) (.int m)=dk s m l:=by kernel_rfl
theorem Hc{s n:Int}:putK (dk s n l) (.inr "seed":Key) (.int m)=dk m n l:=by kernel_rfl
structure cB(H:Hp)(d l:Addr)(s n:Int)(ls:List Int):Prop where
 hd:H d=some (.dK (dk s n l))
 hl:H l=some (.lst (ls.map V.int))
 s0:0<=s
 s1:s<2147483647
 n0:0<=n
 l0:∀ x∈ls,0<=x
def oB(H:Hp)(d l:Addr):Prop:=∃ s n ls,cB H d l s n ls
def Kp(d l:Addr)(H H':Hp):Prop:=∀ b o,H b=some o->b≠d->b≠l->H' b=some o
variable{d:Addr}
theorem Kp.refl:Kp d l H H:=fun _ _ h _ _=>h
variable{ls:List Int}
theorem cB.ne{s n:Int}(D:cB H d l s n ls):d≠l:=jS D.hd D.hl (by intro z;cases z)
theorem cB.num{s n:Int}(D:cB H d l s n ls)(h:0<=m):cB (upd H d (.dK (putK (dk s n l) (.inr "number":Key) (.int m)))) d l s m ls :=
 ⟨by rw[aw,Au],by rw[ai D.ne.symm];exact D.hl,D.s0,D.s1,h,D.l0⟩
theorem cB.VF{s n:Int}(D:cB H d l s n ls)(h:0<=m)(h2:m<2147483647):cB (upd H d (.dK (putK (dk s n l) (.inr "seed":Key) (.int m)))) d l m n ls :=
 ⟨by rw[aw,Hc],by rw[ai D.ne.symm];exact D.hl,h,h2,D.n0,D.l0⟩
theorem cB.list{s n:Int}{ls':List Int}(D:cB H d l s n ls)(h:∀ x∈ls',0<=x):cB (upd H l (.lst (ls'.map V.int))) d l s n ls' :=
 ⟨by rw[ai D.ne];exact D.hd,aw,D.s0,D.s1,D.n0,h⟩
variable{H1:Hp}
theorem Kp.Oi{o:HO}(a:Kp d l H H1):Kp d l H (upd H1 d o):=fun c u h h1 h2=>by rw[ai h1];exact a c u h h1 h2
theorem Kp.VB{o:HO}(a:Kp d l H H1):Kp d l H (upd H1 l o):=fun c u h h1 h2=>by rw[ai h2];exact a c u h h1 h2
theorem m6.new{p:Addr}{o:HO}(a:m6 H H1)(hp:H1 p=none):m6 H (upd H1 p o):=fun c u h=>by
 have z:=a c u h;rw[ai (aQ z hp)];exact z
theorem oB.new{p:Addr}{o:HO}(D:oB H d l)(hp:H p=none):oB (upd H p o) d l:=by
 obtain⟨s,n,ls,D⟩:=D;exact⟨s,n,ls,by rw[ai (aQ D.hd hp)];exact D.hd,by rw[ai (aQ D.hl hp)];exact D.hl,D.s0,D.s1,D.n0,D.l0⟩
def FX:Sp:=fun vs H Q _=>∃(d l:Addr)(m:Int),vs = [.ref d,.int m]/\oB H d l/\0<m/\m<18446744073709551616 /\
 ∀(r:Int)(H':Hp),0<=r->r<m->oB H' d l->Kp d l H H'->Q (.int r) H'
def Ou(K:W.Frag):Sp:=fun vs H Q _=>∃(a:Addr)(ns:List Int)(b:Int),vs = [.ref a,.int b]/\SqL K H a (ns.map V.int)/\ns.length<=63/\0<=b/\b<=63 /\
 ∀(d l:Addr)(H':Hp),H d=none->H l=none->oB H' d l->m6 H H'->Q (.ref d) H'
variable{D:Ends}
theorem Df{c:TT}{tb:TS}{σ:St}(I:Nat->St->Hp->Prop){m:Nat}(h0:I m σ H)(sR:∀ m σ H,I m σ H->D.nx σ H)
  (hs:∀ m σ H,I m σ H->D.nx σ H->c σ H fun b H1=>if b=true then ∃ N:St->Hp->Prop,(∀ σ' H',N σ' H'->∃ m',m'<m/\I m' σ' H')/\tb { D with nx:=N,ct:=N,bk:=D.nx } σ H1 else D.nx σ H1):vy c tb D σ H :=
 ⟨I,⟨m,h0⟩,fun m σ H h=>hs m σ H h (sR m σ H h)⟩
theorem cB.IC{s n:Int}(D:cB H d l s n ls):tU H d (.str "seed") (some (.int s)):=by
 have z:=tU.k (k:=(Sum.inr "seed":Key)) D.hd;rw[MG]at z;exact z
theorem cB.T6{s n:Int}(D:cB H d l s n ls):tU H d (.str "number") (some (.int n)):=by
 have z:=tU.k (k:=(Sum.inr "number":Key)) D.hd;rw[Eo]at z;exact z
theorem cB.N0{s n:Int}(D:cB H d l s n ls):tU H d (.str "left") (some (.ref l)):=by
 have z:=tU.k (k:=(Sum.inr "left":Key)) D.hd;rw[CA]at z;exact z
theorem cB.SK{s n:Int}(D:cB H d l s n ls):tT H d (.str "number") (.int m) (upd H d (.dK (putK (dk s n l) (.inr "number":Key) (.int m)))) :=
 tT.k (k:=(Sum.inr "number":Key)) D.hd (dv (by show 3<=1000;decide))
theorem cB.SH{s n:Int}(D:cB H d l s n ls):tT H d (.str "seed") (.int m) (upd H d (.dK (putK (dk s n l) (.inr "seed":Key) (.int m)))) :=
 tT.k (k:=(Sum.inr "seed":Key)) D.hd (dv (by show 3<=1000;decide))
theorem mod_lt{x:Int}(h:0<m):0<=x % m/\x % m<m:=⟨Int.emod_nonneg _ (by omega),Int.emod_lt_of_pos _ h⟩
end L2
namespace L2
theorem Jc(ns:List Int)(lo hi:Option Int):∃ cs:List Int,mf (ns.map V.int) lo hi=cs.map V.int/\cs.length<=ns.length:=by
 refine⟨(ns.drop (HT.sIx ns.length 0 lo)).take (HT.sIx ns.length ns.length hi - HT.sIx ns.length 0 lo),?_,?_⟩
 ·unfold mf;rw[PZ,<- List.map_drop,<- List.map_take]
 ·rw[X7,Y7];exact Xw (YQ _ _) (ZU _ _)
variable{ns:List Int}
theorem int_at{i:Nat}{x:V}(h:(ns.map V.int)[i]? = some x):∃ z,x = .int z:=by
 rw[Xc]at h;cases e:ns[i]? with
 | none=>rw[e]at h;cases h
 | some z=>rw[e]at h;exact⟨z,(Option.some.inj h).symm⟩
theorem Mr{i:Nat}{x:V}(h:(ns.map V.int)[i]? = some x):∃ z,x = .int z/\z∈ns:=by
 rw[Xc]at h;cases e:ns[i]? with
 | none=>rw[e]at h;cases h
 | some z=>rw[e]at h;exact⟨z,(Option.some.inj h).symm,XA e⟩
end L2
namespace L2
open PySem
theorem Jr{α:Type}{xs:List α}{i:Int}(h0:0<=i)(h1:i<xs.length):∃ v,atI xs i=some v/\v∈xs:=by
 obtain⟨n,rfl⟩:∃ n:Nat,i=n:=⟨i.toNat,by omega⟩
 have h2:n<xs.length:=by omega
 refine⟨xs[n],?_,YA h2⟩;unfold atI ixN;rw[if_pos h0,if_pos h1];simp[h2]
variable{n:Nat}
theorem cW(h:n<=10000):n<=WT:=by
 have:(10000:Nat)<=WT:=by decide
 omega
end L2
namespace L2
end L2
namespace L2
open PySem PySem.Spec PyProof.Rows
def strsOf:List Expr->Option (List Str)
 | []=>some []
 | .Constant (.str x) _ _::r=>(strsOf r).map (x :: ·)
 | _=>none
theorem Cj{X:Cx}:∀{es:List Expr}{ws:List Str},strsOf es=some ws->PA X es (fun _ H Q=>Q (ws.map V.str) H)
 | [],ws,h=>by
  cases h;exact gN
 | e::es,ws,h=>by
  unfold strsOf at h
  split at h
  ·rename_i h1;cases h1
  ·rename_i x j pos r h1;cases h1;cases e1:strsOf es with
   | none=>rw[e1]at h;cases h
   | some ws' =>
    rw[e1]at h;cases h;exact bV dm (Cj e1)
  ·cases h
end L2
namespace L2
variable{H:Hp}
theorem MB{i:Nat}{x:V}{σ:St}{A B:St->Hp->Prop}(h:A (σ.set i (some x)) H):gU i x σ H fun σ2 H3=>BO σ2 H3 fun b H4=>if b=true then A σ2 H4 else B σ2 H4:=by
 show if true=true then A (σ.set i (some x)) H else B (σ.set i (some x)) H
 rw[if_pos rfl];exact h
end L2
namespace L2
end L2
namespace L2
open PySem PySem.Spec PyProof.Rows
section
variable{X:Cx}
def ki(z:Str)(n:Nat):Str:=⟨(Xp n z.cps).foldl (· ++ ·) #[]⟩
theorem yr(c:Array Nat):∀(n:Nat)(acc:Array Nat),((Xp n c).foldl (· ++ ·) acc).size=acc.size+n*c.size
 | 0,acc=>by simp
 | n+1,acc=>by
  rw[List.replicate_succ,List.foldl_cons,yr c n,Y3,Nat.add_mul];omega
theorem i6(z:Str)(n:Nat):(ki z n).length=n*z.length:=by
 have h:=yr z.cps n #[];simpa [ki,Str.length]using h
theorem AG:OpR X (binaryOp .Mult) (fun x y H Q=>∃ z n,x = .str z/\y = .int n/\0<=n/\n<=1000/\z.length<=1000/\Q (.str (ki z n.toNat)) H):=by
 intro j0 s σ H x y v u Q I rx ry h;obtain⟨z,n,rfl,rfl,n0,n1,hz,q⟩:=h;obtain⟨t,rfl⟩:=rx;obtain⟨t',rfl⟩:=ry;have fin:∀(y:Str)(t' k:Nat),y=ki z n.toNat->EP X j0 σ Q (.str y t') { s with toks:=k }:=fun y t' k e=>by subst e;exact⟨.str _,H,I.tok k,⟨_,rfl⟩,q⟩
 have hp:((z.length:Int)*n)<=1000000:=by
  have h1:(z.length:Int)*n<=1000*n:=Int.mul_le_mul_of_nonneg_right (by omega) n0
  omega
 refine P.mul_str ?_ (fun h1 _=>?_) (fun h1 _=>?_) ?_
 ·rw[decide_eq_false (by omega),decide_eq_false (by omega)];rfl
 ·have h2:(1000:Int) <=(2 ^ 63 - 1) / n:=by
   rw[Int.le_ediv_iff_mul_le (by omega)]
   omega
  omega
 ·unfold Builtin.Str.tooLong;have h2:z.length*n.toNat<=1000000:=by
   have e:((z.length*n.toNat:Nat):Int) =(z.length:Int)*n:=by rw[Zi,YF n0]
   omega
  have:WT=16777216:=Yo
  exact decide_eq_false (by omega)
 ·by_cases h1:n<1
  ·rw[if_pos h1];have e:n.toNat=0:=by omega
   exact⟨by decide,fin _ _ _ (by rw[e];rfl)⟩
  ·rw[if_neg h1];by_cases h2:(n==1||z.length==0)=true
   ·rw[if_pos h2];refine fin z t s.toks ?_;have h3:n=1\/z.length=0:=by simpa using h2
    rcases h3 with h3|h3
    ·subst h3;show z =⟨#[]++z.cps⟩;simp
    ·have e1:z.cps = #[]:=by simpa [Str.length]using h3
     have e2:=i6 z n.toNat;rw[h3]at e2;have e3:(ki z n.toNat).cps = #[]:=by simpa [Str.length]using e2
     exact Str.ext' (by rw[e1,e3])
   ·rw[if_neg h2];refine⟨?_,fin _ _ _ rfl⟩;have e:=i6 z n.toNat;have h3:n.toNat*z.length<=1000000:=by
     have e:((n.toNat*z.length:Nat):Int) =(z.length:Int)*n:=by rw[Zi,YF n0,Int.mul_comm]
     omega
    have:WT=16777216:=Yo
    show(ki z n.toNat).length<=WT;omega
end
end L2
namespace L2
open PySem
def p6(n:Nat):Nat:=97+n % 26
def cz(c1 c2:Str)(turn k:Nat):Str:=c1++⟨#[p6 (turn+7*k)]⟩++c2++ki "x" (k % 2)++ki "y" (k / 26)
theorem tE(c1 c2:Str)(turn k:Nat):(cz c1 c2 turn k).cps.toList=c1.cps.toList++p6 (turn+7*k) ::(c2.cps.toList++(ki "x" (k % 2)).cps.toList++(ki "y" (k / 26)).cps.toList):=by
 simp[cz,Str.cps_append]
theorem lY(c1 c2:Str)(turn k:Nat):(cz c1 c2 turn k).length=c1.length+1+c2.length+k % 2+k / 26:=by
 unfold cz;rw[Str.length_append,Str.length_append,Str.length_append,Str.length_append,i6,i6,show(⟨#[p6 (turn+7*k)]⟩:Str).length=1 from rfl,show(Str.ofString "x").length=1 from by decide +kernel,show(Str.ofString "y").length=1 from by decide +kernel]
 omega
theorem Uy{a:List Nat}{x y:Nat}{b c:List Nat}(h:a++x::b=a++y::c):x=y:=by
 have:=Yw h
 exact(List.cons.inj this).1
variable{j:Nat}
theorem Eb{turn k:Nat}(hk:k<52)(hj:j<52)(h:p6 (turn+7*k)=p6 (turn+7*j)):k % 26=j % 26:=by
 unfold p6 at h;omega
theorem B0:(ki "y" 1).cps.toList = [121]:=by decide +kernel
theorem yq(z:Str):(ki z 0).cps.toList = []:=by simp[ki]
variable{c1:Str}{c2:Str}
theorem vv{turn k:Nat}(hk:k<52)(hj:j<52)(hne:k≠j){e f:Str}(he:e=Str.empty\/e = "q")(hf:f=Str.empty\/f = "q"):cz c1 c2 turn k++e≠cz c1 c2 turn j++f:=by
 intro h;have hc:(cz c1 c2 turn k).cps.toList++e.cps.toList =(cz c1 c2 turn j).cps.toList++f.cps.toList:=by
  have:=congrArg (fun z:Str=>z.cps.toList) h
  simpa [Str.cps_append]using this
 have hl:(cz c1 c2 turn k).length+e.length =(cz c1 c2 turn j).length+f.length:=by
  rw[<- Str.length_append,h,Str.length_append]
 rw[tE,tE]at hc;simp only[Yl,Y9]at hc;have hm:=Eb hk hj (Uy hc);have h1:k % 2=j % 2:=by rw[<- ZA k (by decide:2∣26),hm,ZA j (by decide:2∣26)]
 have hd:(k / 26=0/\j / 26=1)\/(k / 26=1/\j / 26=0):=by omega
 rw[lY,lY]at hl;have l0:Str.empty.length=0:=rfl;have lq:(Str.ofString "q").length=1:=by decide +kernel
 have tail:=(List.cons.inj (Yw hc)).2;rw[h1]at tail;have ml:=Yw (Yw tail);have eq:(Str.ofString "q").cps.toList = [113]:=by decide +kernel
 have ee:Str.empty.cps.toList = []:=rfl;rcases hd with⟨d1,d2⟩ |⟨d1,d2⟩
 ·rw[d1,d2,yq,B0]at ml;rcases he with rfl|rfl
  ·rw[ee]at ml;simp at ml
  ·rw[eq]at ml
   have:=congrArg List.head? ml
   simp at this
 ·rw[d1,d2,yq,B0]at ml;rcases hf with rfl|rfl
  ·rw[ee]at ml;simp at ml
  ·rw[eq]at ml
   have:=congrArg List.head? ml
   simp at this
theorem nodup_range{f:Nat->Str}{n:Nat}(h:∀ i j,i<n->j<n->i≠j->f i≠f j):((Xt n).map f).Nodup:=by
 rw[YZ,List.pairwise_map];refine List.Pairwise.imp_of_mem ?_ (YZ.mp List.nodup_range);intro i j hi hj hne;exact h i j (Yz.mp hi) (Yz.mp hj) hne
variable{ws:List Str}
theorem D5{i:Nat}{w:Str}(h:ws.Nodup)(hw:w ∉ ws):(ws.set i w).Nodup:=by
 induction ws generalizing i with
 | nil=>simp
 | cons a r ih =>
  obtain⟨h1,h2⟩:=Xm.mp h;have hw1:w≠a:=fun z=>hw (by simp[z])
  have hw2:w ∉ r:=fun z=>hw (Es _ z)
  cases i with
  | zero=>exact Xm.mpr ⟨hw2,h2⟩
  | succ i =>
   refine Xm.mpr ⟨fun z=>?_,ih h2 hw2⟩
   rcases Y1 z with z|z
   ·exact h1 z
   ·exact hw1 z.symm
end L2
namespace L2
open PySem
variable{ws:List Str}
theorem Ms{w:Str}(h:inV (.str w) (ws.map V.str)=false):w ∉ ws:=fun hm=>by
 unfold inV at h;rw[ZF]at h;exact h (.str w) (XC.mpr ⟨w,hm,rfl⟩) (show(w==w)=true from beq_self_eq_true w)
def wordOf(kept:List Str)(c1 c2:Str)(turn k:Nat):Str:=cz c1 c2 turn k++(if inV (.str (cz c1 c2 turn k)) (kept.map V.str)=true then("q":Str)else Str.empty)
variable{c1:Str}{c2:Str}{j:Nat}
theorem De{kept:List Str}{turn k:Nat}(hk:k<52)(hj:j<52)(hne:k≠j):wordOf kept c1 c2 turn k≠wordOf kept c1 c2 turn j:=by
 unfold wordOf;refine vv hk hj hne ?_ ?_
 ·split
  ·exact .inr rfl
  ·exact .inl rfl
 ·split
  ·exact .inr rfl
  ·exact .inl rfl
theorem zW{kept:List Str}{turn k:Nat}(h1:c1.length<=5)(h2:c2.length<=5)(hk:k<52):1 <=(wordOf kept c1 c2 turn k).length/\(wordOf kept c1 c2 turn k).length<=20:=by
 unfold wordOf;rw[Str.length_append,lY];have l0:Str.empty.length=0:=rfl;have lq:(Str.ofString "q").length=1:=by decide +kernel
 split <;> omega
end L2
namespace L2
open PySem PySem.Spec PyProof.Rows
variable{it:Addr}{items:Array Value}{Q:Value->Shared->Prop}{h':Heap}{tp:Bool}{l:Addr}{z:Addr}{i1:Addr}{i2:Addr}{l1:Addr}{l2:Addr}{t1:Bool}{t2:Bool}{k1:Nat}{k2:Nat}{ys:Array Value}
section
variable{prog:Program}{w:World}{A:Around}{E:Value->Shared->Prop}{s:Shared}
theorem ua{t:Addr}{i:Nat}{x:Value}(hit:s.heap.IsTupleIter it t i)(ht:s.heap.IsTuple t items)(hx:items[i]? = some x)
  (hQ:∀ h',h'.IsTupleIter it t (i+1)->X1 it s.heap h'->Q x { s with heap:=h' }):wpAny (model prog w) A (Builtin.SmallTypes.nextOf (.ref it)) Q E s:=by
 obtain⟨o,ho,hc,hd⟩:=id hit;obtain⟨ol,hol,_,nl,hdl⟩:=ht;unfold Builtin.SmallTypes.nextOf;refine j2 (wpAny_callSpecial?_slot (name:=Str.ofString "__next__") hit.typeIs F.slot_tuple_iterator_next
  (Xz F.slot_tuple_iterator_next hit.typeIs F.entry_tuple_iterator_next ?_ (F.args_tuple_iterator_next_1 _)))
 show wpAny _ _ (field (.ref it) 0 >>= _) _ _ s;refine j2 (wpAny_field ho hd (x:=.ref t) rfl ?_);show wpAny _ _ (if(Value.ref t==Value.none)=true then _ else _) _ _ s
 rw[if_neg (show ¬((Value.ref t==Value.none)=true)from Xd)];show wpAny _ _ (field (.ref it) 1 >>= _) _ _ s;refine j2 (wpAny_field ho hd (x:=.int i 0) rfl ?_);show wpAny _ _ (seqItems? (.ref t) >>= _) _ _ s;refine j2 (wpAny_seqItems hol hdl ?_);simp only[Y4,hx];refine j2 (wpAny_setField ho hd (by simp) (TH ⟨x,rfl,TH (hQ _ ?_ (Heap.SameBut.update ..))⟩))
 exact⟨_,XR _ ho (Obj.isFreed_of_fields (ZC hd _)),(Obj.cls_mapFields ..).trans hc,by
  rw[ZC hd];simp[rawInt]⟩
theorem wL{t:Addr}{i:Nat}(hh:A.handled=none)(hit:s.heap.IsTupleIter it t i)(ht:s.heap.IsTuple t items)(hx:items[i]? = none)
  (hE:∀ h' e,Zp it s.heap h' ->(∃ o,h'.get? e=some o/\o.cls = .type "StopIteration")->E (.ref e) { s with heap:=h' }):wpAny (model prog w) A (Builtin.SmallTypes.nextOf (.ref it)) Q E s:=by
 obtain⟨o,ho,hc,hd⟩:=id hit;obtain⟨ol,hol,_,nl,hdl⟩:=ht;unfold Builtin.SmallTypes.nextOf;refine j2 (wpAny_callSpecial?_slot (name:=Str.ofString "__next__") hit.typeIs F.slot_tuple_iterator_next
  (Xz F.slot_tuple_iterator_next hit.typeIs F.entry_tuple_iterator_next ?_ (F.args_tuple_iterator_next_1 _)))
 show wpAny _ _ (field (.ref it) 0 >>= _) _ _ s;refine j2 (wpAny_field ho hd (x:=.ref t) rfl ?_);show wpAny _ _ (if(Value.ref t==Value.none)=true then _ else _) _ _ s
 rw[if_neg (show ¬((Value.ref t==Value.none)=true)from Xd)];show wpAny _ _ (field (.ref it) 1 >>= _) _ _ s;refine j2 (wpAny_field ho hd (x:=.int i 0) rfl ?_);show wpAny _ _ (seqItems? (.ref t) >>= _) _ _ s;refine j2 (wpAny_seqItems hol hdl ?_);simp only[Y4,hx];refine j2 (Yu (j2 (wpAny_setField ho hd (by simp) ?_)))
 show wpAny _ _ (newExc (.type "StopIteration") [] >>= _) _ _ _;refine j2 ?_;simp only[newExc,newTuple];refine j2 (XI ?_ (by size_fits))
 refine j2 (m:=firstArgMember _ _) (Yp (a:=Value.none) (by first|rfl |(simp only[firstArgMember];rfl)) ?_)
 refine XI ?_ (by size_fits)
 simp only[raiseNew];refine j2 (wpAny_handled ?_)
 first|rw[show A.in1.handled=none from hh]|rw[hh]
 refine j2 (TH (wpAny_throw ?_));exact hE _ _ (((Heap.SameBut.update ..).extBut.push _).push _) ⟨_,W8 _ rfl,rfl⟩
def aL(h:Heap)(tp:Bool)(it l:Addr)(k:Nat):Prop:=if tp=true then h.IsTupleIter it l k else h.IsListIter it l k
def aX(h:Heap)(tp:Bool)(l:Addr)(items:Array Value):Prop:=if tp=true then h.IsTuple l items else h.IsList l items
theorem aL.at{h:Heap}{k:Nat}(x:aL h tp it l k)(e:∀ o,h.get? it=some o->h'.get? it=some o):aL h' tp it l k:=by
 cases tp with
 | true=>obtain⟨o,ho,r⟩:=(show h.IsTupleIter it l k from x);exact(show h'.IsTupleIter it l k from⟨o,e o ho,r⟩)
 | false=>obtain⟨o,ho,r⟩:=(show h.IsListIter it l k from x);exact(show h'.IsListIter it l k from⟨o,e o ho,r⟩)
theorem aX.at{h:Heap}(x:aX h tp l items)(e:∀ o,h.get? l=some o->h'.get? l=some o):aX h' tp l items:=by
 cases tp with
 | true=>obtain⟨o,ho,r⟩:=(show h.IsTuple l items from x);exact(show h'.IsTuple l items from⟨o,e o ho,r⟩)
 | false=>obtain⟨o,ho,r⟩:=(show h.IsList l items from x);exact(show h'.IsList l items from⟨o,e o ho,r⟩)
theorem aL.obj{h:Heap}{k:Nat}(x:aL h tp it l k):∃ o,h.get? it=some o/\∀ v,o.data ≠ .cell v:=by
 cases tp with
 | true=>obtain⟨o,ho,_,hd⟩:=(show h.IsTupleIter it l k from x);exact⟨o,ho,fun v=>by rw[hd];simp⟩
 | false=>obtain⟨o,ho,_,hd⟩:=(show h.IsListIter it l k from x);exact⟨o,ho,fun v=>by rw[hd];simp⟩
theorem next_item{i:Nat}{x:Value}(hit:aL s.heap tp it l i)(hl:aX s.heap tp l items)(hx:items[i]? = some x)
  (hQ:∀ h',aL h' tp it l (i+1)->X1 it s.heap h'->Q x { s with heap:=h' }):wpAny (model prog w) A (Builtin.SmallTypes.nextOf (.ref it)) Q E s:=by
 cases tp with
 | true=>exact ua hit hl hx hQ
 | false=>exact wpAny_nextOf_list_item hit hl hx hQ
theorem next_end{i:Nat}(hh:A.handled=none)(hit:aL s.heap tp it l i)(hl:aX s.heap tp l items)(hx:items[i]? = none)
  (hE:∀ h' e,Zp it s.heap h' ->(∃ o,h'.get? e=some o/\o.cls = .type "StopIteration")->E (.ref e) { s with heap:=h' }):wpAny (model prog w) A (Builtin.SmallTypes.nextOf (.ref it)) Q E s:=by
 cases tp with
 | true=>exact wL hh hit hl hx hE
 | false=>exact wpAny_nextOf_list_end hh hit hl hx hE
theorem yb{TI TO:Addr}{xs:Array Value}{x y a b:Value}{Q:Option Value->Shared->Prop}(D:ZipApart z TI TO i1 i2 l1 l2)
  (hz:IsZip s.heap z TI TO .none) (hTI:IsPair s.heap TI (.ref i1) (.ref i2)) (hTO:IsPair s.heap TO a b)
  (h1:aL s.heap t1 i1 l1 k1) (h2:aL s.heap t2 i2 l2 k2) (hl1:aX s.heap t1 l1 xs) (hl2:aX s.heap t2 l2 ys) (hx:xs[k1]? = some x) (hy:ys[k2]? = some y)
  (hQ:∀ h',IsZip h' z TI TO (rawInt s.heap.objs.size)->IsPair h' TO x y->aL h' t1 i1 l1 (k1+1)->aL h' t2 i2 l2 (k2+1)->IsPair h' s.heap.objs.size x y->h'.objs.size=s.heap.objs.size+1 ->
   (∀ c o,c≠z->c≠TO->c≠i1->c≠i2->s.heap.get? c=some o->h'.get? c=some o)->Q (some (.ref s.heap.objs.size)) { s with heap:=h' }) :
  wpAny (model prog w) A (pyNext (.ref z)) Q E s:=by
 have hT:s.TypeIs (.ref z) "zip":=⟨_,hz,rfl⟩;unfold pyNext;refine j2 (Ya (wpAny_callSpecial?_slot (name:=Str.ofString "__next__") hT F.slot_zip_next
  (Xz F.slot_zip_next hT F.entry_zip_next ?_ (F.args_zip_next_1 _))))
 show wpAny _ _ (field (.ref z) 2 >>= _) _ _ _;refine j2 (wpAny_field hz rfl (x:=.bool false) rfl ?_);show wpAny _ _ (field (.ref z) 3 >>= _) _ _ _;refine j2 (wpAny_field hz rfl (x:=.ref TI) rfl ?_);refine j2 (wpAny_seqItems hTI rfl ?_);show wpAny _ _ (Builtin.SmallTypes.ownedTupleIsFree (.ref z) >>= _) _ _ _;refine j2 ?_;unfold Builtin.SmallTypes.ownedTupleIsFree;refine j2 (wpAny_field hz rfl (x:=.none) rfl (TH ?_));simp only[if_true];refine j2 (Yu ?_);refine j2 (wpAny_field hz rfl (x:=.ref TO) rfl ?_);refine j2 (wpAny_setField_rec hz (by simp) fun h₁ hz₁ hs₁=>?_)
 replace hz₁:IsZip h₁ z TI TO .ellipsis:=hz₁
 refine j2 ?_;simp only[ZQ,List.zipIdx_nil,YH,Y0];refine j2 (j2 (wpAny_onRaise ?_));show wpAny _ _ (Builtin.SmallTypes.nextOf (.ref i1) >>= _) _ _ _;refine j2 (next_item (h1.at fun o e=>hs₁.extBut _ o D.i1z e) (hl1.at fun o e=>hs₁.extBut _ o D.l1z e) hx fun h₂ h1₂ hs₂=>TH ?_)
 have IB:IsPair h₂ TO a b:=hs₂.extBut _ _ D.TOi1 (hs₁.extBut _ _ D.TOz hTO);refine j2 (wpAny_seqItems IB rfl ?_);refine j2 (wpAny_updateSeq_pair IB fun h₃ Mz hs₃=>?_)
 replace Mz:IsPair h₃ TO x b:=Mz
 refine j2 (wpAny_letGo (TH ?_));refine j2 (j2 (wpAny_onRaise ?_));show wpAny _ _ (Builtin.SmallTypes.nextOf (.ref i2) >>= _) _ _ _;refine j2 (next_item (h2.at fun o e=>hs₃.extBut _ o D.TOi2.symm (hs₂.extBut _ o D.i12.symm (hs₁.extBut _ o D.i2z e)))
  (hl2.at fun o e=>hs₃.extBut _ o D.l2TO (hs₂.extBut _ o D.l2i1 (hs₁.extBut _ o D.l2z e))) hy fun h₄ h2₄ hs₄=>TH ?_)
 have T4:IsPair h₄ TO x b:=hs₄.extBut _ _ D.TOi2 Mz;refine j2 (wpAny_seqItems T4 rfl ?_);refine j2 (wpAny_updateSeq_pair T4 fun h₅ My hs₅=>?_)
 replace My:IsPair h₅ TO x y:=My
 refine j2 (wpAny_letGo (TH (TH ?_)));refine j2 (wpAny_seqItems My rfl ?_);refine j2 (wpAny_newTuple ?_);have hsz:h₅.objs.size=s.heap.objs.size:=by rw[hs₅.1,hs₄.1,hs₃.1,hs₂.1,hs₁.1]
 have hz₅:IsZip h₅ z TI TO .ellipsis:=hs₅.extBut _ _ D.TOz.symm (hs₄.extBut _ _ D.i2z.symm (hs₃.extBut _ _ D.TOz.symm (hs₂.extBut _ _ D.i1z.symm hz₁)));have hk₅:∀ c o,c≠z->c≠TO->c≠i1->c≠i2->s.heap.get? c=some o->h₅.get? c=some o:=fun c o c1 c2 c3 c4 e =>
  hs₅.extBut _ _ c2 (hs₄.extBut _ _ c4 (hs₃.extBut _ _ c2 (hs₂.extBut _ _ c3 (hs₁.extBut _ _ c1 e))))
 have h1₅:aL h₅ t1 i1 l1 (k1+1):=h1₂.at fun o e=>hs₅.extBut _ o D.TOi1.symm (hs₄.extBut _ o D.i12 (hs₃.extBut _ o D.TOi1.symm e))
 have h2₅:aL h₅ t2 i2 l2 (k2+1):=h2₄.at fun o e=>hs₅.extBut _ o D.TOi2.symm e
 have TQ:z<h₅.objs.size:=Xe hz₅;show wpAny _ _ (Builtin.SmallTypes.ownedTupleHandOut (.ref z) (.ref h₅.objs.size) >>= _) _ _ _;refine j2 ?_;unfold Builtin.SmallTypes.ownedTupleHandOut;have hz₆:IsZip (h₅.push { cls:=.type "tuple",data:=.seq #[x,y] }) z TI TO .ellipsis:=j3 _ hz₅;refine j2 (wpAny_setField_rec hz₆ (by simp) fun h₇ hz₇ hs₇=>?_)
 replace hz₇:IsZip h₇ z TI TO (rawInt h₅.objs.size):=hz₇
 refine wpAny_setField_rec hz₇ (by simp) fun h₈ hz₈ hs₈=>?_
 replace hz₈:IsZip h₈ z TI TO (rawInt h₅.objs.size):=hz₈
 have up:∀ c o,c≠z->h₅.get? c=some o->h₈.get? c=some o:=fun c o c1 e=>hs₈.extBut _ _ c1 (hs₇.extBut _ _ c1 (j3 _ e))
 have hT₈:IsPair h₈ h₅.objs.size x y:=hs₈.extBut _ _ (XY TQ) (hs₇.extBut _ _ (XY TQ) (W8 _ rfl));have hz8:h₈.objs.size=h₅.objs.size+1:=by rw[hs₈.1,hs₇.1,Xq]
 rw[hsz]at hz₈ hT₈ hz8;refine TH ⟨_,rfl,TH ?_⟩;show Q (some (.ref h₅.objs.size)) _;rw[hsz];exact hQ h₈ hz₈ (up _ _ D.TOz My) (h1₅.at fun o e=>up _ o D.i1z e) (h2₅.at fun o e=>up _ o D.i2z e) hT₈ hz8 fun c o c1 c2 c3 c4 e=>up c o c1 (hk₅ c o c1 c2 c3 c4 e)
theorem BL{TI TO:Addr}{xs:Array Value}{a b:Value}{Q:Option Value->Shared->Prop}(hh:A.handled=none)(D:ZipApart z TI TO i1 i2 l1 l2)
  (hz:IsZip s.heap z TI TO .none) (hTI:IsPair s.heap TI (.ref i1) (.ref i2)) (hTO:IsPair s.heap TO a b)
  (h1:aL s.heap t1 i1 l1 k1) (h2:aL s.heap t2 i2 l2 k2) (hl1:aX s.heap t1 l1 xs) (hl2:aX s.heap t2 l2 ys) (sR:xs[k1]? = none\/ys[k2]? = none)
  (hQ:∀ h',(∀ c o,c≠z->c≠TO->c≠i1->c≠i2->s.heap.get? c=some o->h'.get? c=some o)->Q none { s with heap:=h' }):wpAny (model prog w) A (pyNext (.ref z)) Q E s:=by
 have hT:s.TypeIs (.ref z) "zip":=⟨_,hz,rfl⟩;have fin:∀ h' e,(∀ c o,c≠z->c≠TO->c≠i1->c≠i2->s.heap.get? c=some o->h'.get? c=some o) ->(∃ o,h'.get? e=some o/\o.cls = .type "StopIteration") ->
   wpAny (model prog w) A (do if <- isInstance (.ref e) (.type "StopIteration")then pure none else throw (.ref e)) Q E { s with heap:=h' }:=fun h' e hk he=>by
  obtain⟨o,ho,hc⟩:=he;refine j2 (X8 (T:="StopIteration") (b:=true) ⟨o,ho,hc⟩ isSubtype_stop ?_);exact TH (hQ _ hk)
 unfold pyNext;refine j2 (Ya (wpAny_callSpecial?_slot (name:=Str.ofString "__next__") hT F.slot_zip_next
  (Xz F.slot_zip_next hT F.entry_zip_next ?_ (F.args_zip_next_1 _))))
 show wpAny _ _ (field (.ref z) 2 >>= _) _ _ _;refine j2 (wpAny_field hz rfl (x:=.bool false) rfl ?_);show wpAny _ _ (field (.ref z) 3 >>= _) _ _ _;refine j2 (wpAny_field hz rfl (x:=.ref TI) rfl ?_);refine j2 (wpAny_seqItems hTI rfl ?_);show wpAny _ _ (Builtin.SmallTypes.ownedTupleIsFree (.ref z) >>= _) _ _ _;refine j2 ?_;unfold Builtin.SmallTypes.ownedTupleIsFree;refine j2 (wpAny_field hz rfl (x:=.none) rfl (TH ?_));simp only[if_true];refine j2 (Yu ?_);refine j2 (wpAny_field hz rfl (x:=.ref TO) rfl ?_);refine j2 (wpAny_setField_rec hz (by simp) fun h₁ hz₁ hs₁=>?_)
 replace hz₁:IsZip h₁ z TI TO .ellipsis:=hz₁
 refine j2 ?_;simp only[ZQ,List.zipIdx_nil,YH,Y0];refine j2 (j2 (wpAny_onRaise ?_));show wpAny _ _ (Builtin.SmallTypes.nextOf (.ref i1) >>= _) _ _ _;cases hx:xs[k1]? with
 | none =>
  refine j2 (next_end hh (h1.at fun o e=>hs₁.extBut _ o D.i1z e) (hl1.at fun o e=>hs₁.extBut _ o D.l1z e) hx fun h₂ e hs₂ he=>?_)
  obtain⟨oe,hoe,hce⟩:=he;have hz₂:IsZip h₂ z TI TO .ellipsis:=hs₂ _ _ D.i1z.symm hz₁;have hez:e≠z:=fun x=>by subst x;rw[hz₂]at hoe;cases hoe;simp at hce
  refine wpAny_setField_rec hz₂ (by simp) fun h₃ _ hs₃=>fin h₃ e (fun c o c1 _ c3 _ x=>hs₃.extBut _ _ c1 (hs₂ _ _ c3 (hs₁.extBut _ _ c1 x))) ⟨oe,hs₃.extBut _ _ hez hoe,hce⟩
 | some x =>
  have hy:ys[k2]? = none:=by rcases sR with h|h;rw[hx]at h;cases h;exact h
  refine j2 (next_item (h1.at fun o e=>hs₁.extBut _ o D.i1z e) (hl1.at fun o e=>hs₁.extBut _ o D.l1z e) hx fun h₂ h1₂ hs₂=>TH ?_)
  have IB:IsPair h₂ TO a b:=hs₂.extBut _ _ D.TOi1 (hs₁.extBut _ _ D.TOz hTO);refine j2 (wpAny_seqItems IB rfl ?_);refine j2 (wpAny_updateSeq_pair IB fun h₃ Mz hs₃=>?_)
  refine j2 (wpAny_letGo (TH ?_));refine j2 (j2 (wpAny_onRaise ?_));show wpAny _ _ (Builtin.SmallTypes.nextOf (.ref i2) >>= _) _ _ _;refine j2 (next_end hh (h2.at fun o e=>hs₃.extBut _ o D.TOi2.symm (hs₂.extBut _ o D.i12.symm (hs₁.extBut _ o D.i2z e)))
   (hl2.at fun o e=>hs₃.extBut _ o D.l2TO (hs₂.extBut _ o D.l2i1 (hs₁.extBut _ o D.l2z e))) hy fun h₄ e hs₄ he=>?_)
  obtain⟨oe,hoe,hce⟩:=he;have hz₄:IsZip h₄ z TI TO .ellipsis:=hs₄ _ _ D.i2z.symm (hs₃.extBut _ _ D.TOz.symm (hs₂.extBut _ _ D.i1z.symm hz₁));have hez:e≠z:=fun x=>by subst x;rw[hz₄]at hoe;cases hoe;simp at hce
  refine wpAny_setField_rec hz₄ (by simp) fun h₅ _ hs₅=>fin h₅ e (fun c o c1 c2 c3 c4 x=>hs₅.extBut _ _ c1 (hs₄ _ _ c4 (hs₃.extBut _ _ c2 (hs₂.extBut _ _ c3 (hs₁.extBut _ _ c1 x))))) ⟨oe,hs₅.extBut _ _ hez hoe,hce⟩
end
variable{ws:List Str}
theorem Mt{w:Str}:inV (.str w) (ws.map V.str)=true ↔ w∈ws:=by
 constructor
 ·intro h;by_cases hm:w∈ws
  ·exact hm
  ·exfalso
   unfold inV at h;rw[YB]at h;obtain⟨x,hx,e⟩:=h;obtain⟨z,hz,rfl⟩:=XC.mp hx
   have:z=w:=eq_of_beq (show(z==w)=true from e)
   exact hm (this▸hz)
 ·intro h;unfold inV;rw[YB];exact⟨.str w,XC.mpr ⟨w,h,rfl⟩,show(w==w)=true from beq_self_eq_true w⟩
def marks(rs:List Str):List (Key×V):=rs.map fun s=>(.inr s,.bl true)
variable{X:Cx}{j0:List (Addr×Obj)}{H:Hp}{t':Nat}{fp:List Addr}
theorem Inv.qm{σ:St}{s:Shared}(I:Inv X j0 σ H s)(k:∀ b o,b ∉ fp->s.heap.get? b=some o->h'.get? b=some o)(hf:∀ b∈fp,tR X j0 H b) :
  Inv X j0 σ H { s with heap:=h',toks:=t' }:=by
 have nit:∀ b u,H b=some u->b ∉ fp:=fun b u e z=>by
  have:=(hf b z).1
  rw[e]at this;cases this
 refine I.step (g':=s.gens) (d':=s.drawn) (ch:=fp) (fun b hb=>?_) (fun b o _ _ hc e _=>k b o hc e) (fun b o _ _ hc e _=>⟨o.slots,k b o hc e⟩) (fun _ _ _ _ n=>n)
  (fun b o hc e=>⟨o,k b o hc e⟩) (fun _ _ e=>e) (fun _ _ _ e=>e) (fun b ps e=>⟨#[],by rw[e];simp⟩) (fun m hm=>?_) (fun b u e=>?_) I.bare
 ·obtain⟨f0,f1,f2,f3,f4,f5⟩:=hf b hb;exact⟨f3,f1,f4,f5⟩
 ·obtain⟨o,es,ep,ho,r⟩:=hm;exact⟨o,es,ep,k _ o (fun z=>(hf _ z).2.1 rfl) ho,r⟩
 ·refine(I.hok b u e).b6 (fun c v hc q=>k c v ?_ q) (fun _ q=>q) fun _ _ q=>q
  rcases hc with z|z
  ·rw[z];exact nit b u e
  ·exact nit c _ z
def SqB(K:W.Frag)(tp:Bool)(H:Hp)(a:Addr)(xs:List V):Prop:=if tp=true then SqT K H a xs else SqL K H a xs
variable{a:Addr}{xs:List V}
theorem Inv.qX{σ:St}{s:Shared}(I:Inv X j0 σ H s)(h:SqB X.K tp H a xs):∃ its:List Value,Vals xs its/\aX s.heap tp a its.toArray/\xs.length<=WT:=by
 cases tp with
 | true =>
  obtain⟨its,r,p,z⟩:=I.tuple (show SqT X.K H a xs from h);exact⟨its,r,(show s.heap.IsTuple a its.toArray from p),z⟩
 | false =>
  obtain⟨its,r,p,z⟩:=I.list (show SqL X.K H a xs from h);exact⟨its,r,p.isList,z⟩
theorem Inv.qW{σ:St}{s:Shared}{ys:List V}(I:Inv X j0 σ H s)(h:SqB X.K tp H a xs)(h2:SqB X.K tp H a ys):xs=ys:=by
 cases tp with
 | true=>exact I.uJ (show SqT X.K H a xs from h) (show SqT X.K H a ys from h2)
 | false=>exact I.y4 (show SqL X.K H a xs from h) (show SqL X.K H a ys from h2)
def Itz(K:W.Frag)(t1 t2:Bool)(l1 l2:Addr):It :=
 ⟨fun i H=>∃ xs ys x y,SqB K t1 H l1 xs/\SqB K t2 H l2 ys/\xs[i]? = some x/\ys[i]? = some y,
   fun i H v H'=>∃(p:Addr)(x y:V),H p=none/\v = .ref p/\H'=upd H p (.tup [x,y])/\(∀ xs,SqB K t1 H l1 xs->xs[i]? = some x)/\∀ ys,SqB K t2 H l2 ys->ys[i]? = some y,
   fun i H=>∃ xs ys,SqB K t1 H l1 xs/\SqB K t2 H l2 ys/\(xs.length<=i\/ys.length<=i)⟩
variable{P:Program}{elts:List Expr}{pos:Pos}
theorem FK{w:World}{K:W.Frag}{x1}(z TI TO i1 i2 l1 l2:Addr)(D:ZipApart z TI TO i1 i2 l1 l2) :
  Turn P w K (.Tuple elts x1 pos) (Itz K t1 t2 l1 l2) [z,TI,TO,i1,i2] z (fun i h=>IsZip h z TI TO .none/\IsPair h TI (.ref i1) (.ref i2)/\(∃ a b,IsPair h TO a b)/\aL h t1 i1 l1 i/\aL h t2 i2 l2 i) where
 mem:=by simp
 obj:=by
  rintro i h ⟨h1,h2,⟨a,b,h3⟩,h4,h5⟩ c hc
  simp only[QH,Xy,or_false]at hc;rcases hc with rfl|rfl|rfl|rfl|rfl
  ·exact⟨_,h1,fun v e=>by cases e⟩
  ·exact⟨_,h2,fun v e=>by cases e⟩
  ·exact⟨_,h3,fun v e=>by cases e⟩
  ·exact h4.obj
  ·exact h5.obj
 keep:=by
  rintro i h h' ⟨h1,h2,⟨a,b,h3⟩,h4,h5⟩ k
  exact⟨k z (by simp) _ h1,k TI (by simp) _ h2,⟨a,b,k TO (by simp) _ h3⟩,h4.at fun o e=>k i1 (by simp) o e,h5.at fun o e=>k i2 (by simp) o e⟩
 item:=by
  intro X hP hw hK hc i j0 s σ H E I hf st hg;subst hP hw hK;obtain⟨h1,h2,⟨a,b,h3⟩,h4,h5⟩:=st;obtain⟨xs,ys,x,y,q1,q2,e1,e2⟩:=hg;obtain⟨Mn,rv1,o1,z1⟩:=I.qX q1;obtain⟨bb,rv2,o2,z2⟩:=I.qX q2;obtain⟨u1,hu1,ru1⟩:=rv1.get e1;obtain⟨u2,hu2,ru2⟩:=rv2.get e2;refine yb D h1 h2 h3 h4 h5 o1 o2 (x:=u1) (y:=u2) (by simpa using hu1) (by simpa using hu2) fun h' hz' T5 Wu Wt hp' Wf hk'=>⟨_,rfl,?_⟩
  refine wpAny_letOwnedTupleGo_zip hz' fun h'' Wd P4=>?_
  have hn:=I.hok.fresh (Xa s.heap.objs.size);have lz:z<s.heap.objs.size:=Xe h1;have lTI:TI<s.heap.objs.size:=Xe h2;have lTO:TO<s.heap.objs.size:=Xe h3;obtain⟨oi1,WD,_⟩:=h4.obj;obtain⟨oi2,WC,_⟩:=h5.obj;have li1:i1<s.heap.objs.size:=Xe WD;have li2:i2<s.heap.objs.size:=Xe WC;have PC:∀ b ∈ [z,TI,TO,i1,i2],b≠s.heap.objs.size:=fun b hb=>by
   simp only[QH,Xy,or_false]at hb;rcases hb with rfl|rfl|rfl|rfl|rfl
   ·exact Xo lz
   ·exact Xo lTI
   ·exact Xo lTO
   ·exact Xo li1
   ·exact Xo li2
  have up:∀ c o,c≠z->h'.get? c=some o->h''.get? c=some o:=fun c o hc e=>P4.extBut _ _ hc e
  have I1:Inv X j0 σ (upd H s.heap.objs.size (.tup [x,y])) { s with heap:=s.heap.push { cls:=.type "tuple",data:=.seq #[u1,u2] } } :=
   I.laid (t':=s.toks) (fun b u e=>j3 _ e) (Xa _) ⟨by show 2<=WT;decide,[u1,u2],.cons ru1 (.cons ru2 .nil),⟨⟨_,W8 _ rfl,rfl,_,rfl⟩,_,W8 _ rfl,rfl⟩⟩
  have hf':∀ b ∈ [z,TI,TO,i1,i2],tR X j0 (upd H s.heap.objs.size (.tup [x,y])) b:=fun b hb=>by
   obtain⟨f0,r⟩:=hf b hb;exact⟨by rw[ai (PC b hb)];exact f0,r⟩
  have I2:Inv X j0 σ (upd H s.heap.objs.size (.tup [x,y])) { s with heap:=h'' }:=by
   refine I1.qm (h':=h'') (t':=s.toks) (fun b o hb e=>?_) hf'
   simp only[QH,Xy,or_false,not_or]at hb;obtain⟨b1,b2,b3,b4,b5⟩:=hb;rcases Zq e with⟨rfl,rfl⟩|e'
   ·exact up _ _ b1 hp'
   ·exact up _ _ b1 (hk' b o b1 b3 b4 b5 e')
  refine⟨.ref s.heap.objs.size,upd H s.heap.objs.size (.tup [x,y]),I2,rfl,⟨_,x,y,hn,rfl,rfl,fun zs hz=>by rw[I.qW hz q1];exact e1,fun zs hz=>by rw[I.qW hz q2];exact e2⟩,?_,fun b hb=>(hf' b hb).1⟩
  exact⟨Wd,up _ _ D.TIz (hk' TI _ D.TIz D.TITO D.TIi1 D.TIi2 h2),⟨_,_,up _ _ D.TOz T5⟩,Wu.at fun o e=>up _ _ D.i1z e,Wt.at fun o e=>up _ _ D.i2z e⟩
 done:=by
  intro X hP hw hK hc i j0 s σ H E I hf st hg;subst hP hw hK;obtain⟨h1,h2,⟨a,b,h3⟩,h4,h5⟩:=st;obtain⟨xs,ys,q1,q2,sR⟩:=hg;obtain⟨Mn,rv1,o1,z1⟩:=I.qX q1;obtain⟨bb,rv2,o2,z2⟩:=I.qX q2;have g1:=rv1.length;have g2:=rv2.length;refine BL (I.ok.hd hc) D h1 h2 h3 h4 h5 o1 o2 ?_ fun h' k=>⟨rfl,I.qm (t':=s.toks) (fun b o hb e=>?_) hf⟩
  ·rcases sR with e|e
   ·left;simp;omega
   ·right;simp;omega
  ·simp only[QH,Xy,or_false,not_or]at hb;exact k b o hb.1 hb.2.2.1 hb.2.2.2.1 hb.2.2.2.2 e
 self:=fun _ _ _ _ _ st h=>wpAny_pyIter_zip st.1 h
def itc(tp:Bool):String:=if tp=true then "tuple_iterator" else "list_iterator"
variable{prog:Program}{A:Around}{E:Value->Shared->Prop}
theorem kQ{w:World}{s:Shared}{xs:Array Value}(h:aX s.heap tp l xs)
  (hQ:Q (.ref s.heap.objs.size) { s with heap:=s.heap.push { cls:=.type (itc tp),data:=.fields #[.ref l,.int 0 0] } }):wpAny (model prog w) A (pyIter (.ref l)) Q E s:=by
 cases tp with
 | true=>exact wpAny_pyIter_tuple (show s.heap.IsTuple l xs from h) hQ
 | false=>exact wpAny_pyIter_list (show s.heap.IsList l xs from h) hQ
abbrev zH1(t1:Bool)(h:Heap)(l1:Addr):Heap:=h.push { cls:=.type (itc t1),data:=.fields #[.ref l1,.int 0 0] }
abbrev zH2(t1 t2:Bool)(h:Heap)(l1 l2:Addr):Heap:=(zH1 t1 h l1).push { cls:=.type (itc t2),data:=.fields #[.ref l2,.int 0 0] }
abbrev zH3(t1 t2:Bool)(h:Heap)(l1 l2:Addr):Heap:=(zH2 t1 t2 h l1 l2).push { cls:=.type "tuple",data:=.seq #[.ref h.objs.size,.ref (zH1 t1 h l1).objs.size] }
abbrev zH4(t1 t2:Bool)(h:Heap)(l1 l2:Addr):Heap:=(zH3 t1 t2 h l1 l2).push { cls:=.type "tuple",data:=.seq #[.none,.none] }
abbrev zH5(t1 t2:Bool)(h:Heap)(l1 l2:Addr):Heap:=(zH4 t1 t2 h l1 l2).push { cls:=.type "zip",data:=.fields #[.none,.bool false,.bool false,.ref (zH2 t1 t2 h l1 l2).objs.size,.ref (zH3 t1 t2 h l1 l2).objs.size] }
theorem uf(t1 t2:Bool)(l1 l2:Addr)(xs ys:Array Value) :
  Meets (Builtin.«zip.__new__» ⟨[.type "zip",.ref l1,.ref l2],[]⟩) (fun _ R s=>aX s.heap t1 l1 xs/\aX s.heap t2 l2 ys /\
   R (.ok (.ret (.ref (zH4 t1 t2 s.heap l1 l2).objs.size))) { s with heap:=zH5 t1 t2 s.heap l1 l2 }) :=
 .of_wp fun prog w A R s h=>by
  obtain⟨hp,g,d,tk,os⟩:=s;obtain⟨hl1,hl2,h⟩:=h;have TR:=sub_zip;have hL1:aX (Shared.heap ⟨hp,g,d,tk,os⟩) t1 l1 xs:=hl1;have hL2:aX (Shared.heap ⟨hp.push { cls:=.type (itc t1),data:=.fields #[.ref l1,.int 0 0] },g,d,tk,os⟩) t2 l2 ys:=hl2.at fun o e=>j3 _ e
  wp_walk using kQ hL1,kQ hL2
  exact⟨_,rfl,h⟩
theorem ke{h:Heap}(e:h.get? it=some { cls:=.type (itc tp),data:=.fields #[.ref l,.int 0 0] }):aL h tp it l 0:=by
 cases tp with
 | true=>exact(show h.IsTupleIter it l 0 from⟨_,e,rfl,rfl⟩)
 | false=>exact(show h.IsListIter it l 0 from⟨_,e,rfl,rfl⟩)
theorem oq{prog:Program}{w:World}{A:Around}{E:Value->Shared->Prop}{s:Shared}{xs:Array Value}(hl1:aX s.heap t1 l1 xs)(hl2:aX s.heap t2 l2 ys)
  (h:∀ h',IsZip h' (s.heap.objs.size+4) (s.heap.objs.size+2) (s.heap.objs.size+3) .none->IsPair h' (s.heap.objs.size+2) (.ref s.heap.objs.size) (.ref (s.heap.objs.size+1)) ->
   IsPair h' (s.heap.objs.size+3) .none .none->aL h' t1 s.heap.objs.size l1 0->aL h' t2 (s.heap.objs.size+1) l2 0 ->
   (∀ c o,s.heap.get? c=some o->h'.get? c=some o)->Q (.ref (s.heap.objs.size+4)) { s with heap:=h' }) :
  wpAny (model prog w) A (call (.type "zip") [.ref l1,.ref l2]) Q E s:=by
 refine callType_new F.called_zip (by decide) (F.typeCall_zip_2 _ _) (F.newCall_zip_2 _ _) (fun obj=>F.args_object_init_3 obj _ _) F.entry_zip_new
  (uf t1 t2 l1 l2 xs ys) ⟨hl1,hl2,?_⟩
 have z1:(zH1 t1 s.heap l1).objs.size=s.heap.objs.size+1:=Xq ..;have z2:(zH2 t1 t2 s.heap l1 l2).objs.size=s.heap.objs.size+2:=by rw[Xq,z1]
 have z3:(zH3 t1 t2 s.heap l1 l2).objs.size=s.heap.objs.size+3:=by rw[Xq,z2]
 have z4:(zH4 t1 t2 s.heap l1 l2).objs.size=s.heap.objs.size+4:=by rw[Xq,z3]
 have g5:(zH5 t1 t2 s.heap l1 l2).get? (zH4 t1 t2 s.heap l1 l2).objs.size=some _:=W8 _ rfl;have g4:(zH5 t1 t2 s.heap l1 l2).get? (zH3 t1 t2 s.heap l1 l2).objs.size=some _:=j3 _ (W8 _ rfl);have g3:(zH5 t1 t2 s.heap l1 l2).get? (zH2 t1 t2 s.heap l1 l2).objs.size=some _:=j3 _ (j3 _ (W8 _ rfl));have g2:(zH5 t1 t2 s.heap l1 l2).get? (zH1 t1 s.heap l1).objs.size=some _:=j3 _ (j3 _ (j3 _ (W8 _ rfl)));have g1:(zH5 t1 t2 s.heap l1 l2).get? s.heap.objs.size=some _:=j3 _ (j3 _ (j3 _ (j3 _ (W8 _ rfl))));show _/\_;rw[z2,z3,z4]at g5;rw[z1,z2]at g3;rw[z3]at g4;rw[z1]at g2;rw[z4];exact⟨⟨_,g5,rfl⟩,h _ g5 g3 g4 (ke g1) (ke g2) fun c o x =>
  j3 _ (j3 _ (j3 _ (j3 _ (j3 _ x))))⟩
def P1(K:W.Frag)(t1 t2:Bool)(ta:TA):TI:=fun σ H R=>ta σ H fun vs H1=>∃ l1 l2,vs = [.ref l1,.ref l2]/\(∃ xs,SqB K t1 H1 l1 xs)/\(∃ ys,SqB K t2 H1 l2 ys)/\R (Itz K t1 t2 l1 l2) H1
theorem aX.obj{h:Heap}{xs:Array Value}(x:aX h tp l xs):∃ o,h.get? l=some o:=by
 cases tp with
 | true=>obtain⟨o,ho,_⟩:=(show h.IsTuple l xs from x);exact⟨o,ho⟩
 | false=>obtain⟨o,ho,_⟩:=(show h.IsList l xs from x);exact⟨o,ho⟩
variable{n:Nat}
theorem pB{l1 l2:Nat}(h1:l1<n)(h2:l2<n):ZipApart (n+4) (n+2) (n+3) n (n+1) l1 l2:=by
 constructor <;>(intro z;refine absurd (show @Eq Nat _ _ from z) ?_;omega)
variable{pos':Pos}{b:Expr}{p:Pos}
theorem Pa{x1}{a:Expr}{ta:TA}(hg:Gl X "zip")(hm:X.mg "zip" = none)(kS:bootBuiltins "zip" = some (.type "zip"))(ha:PA X [a,b] ta)(hs:QX [a,b] X.env = [(false,eval a X.env),(false,eval b X.env)]:=by rfl)(hs2:QX [b] X.env = [(false,eval b X.env)]:=by rfl) :
  PI X (.Tuple elts x1 pos') (.Call (.Name "zip" p) [a,b] [] pos) (P1 X.K t1 t2 ta):=by
 intro j0 s σ H R I h;refine Call_ (fO I hg hm kS (PyProof.Rows.callWith_type1 (thn (ha pos j0 s σ H _ I h) fun us s1 ⟨vs,H1,I1,r1,q1⟩=>?_) (by rw[hs,hs2]) (by rw[hs2];rfl)))
 obtain⟨l1,l2,e,⟨xs,q2⟩,⟨ys,q3⟩,q⟩:=q1;subst e;obtain⟨u1,u2,rfl,ru1,ru2⟩:=vals2 r1;cases ru1;cases ru2;obtain⟨Mn,rv1,o1,z1⟩:=I1.qX q2;obtain⟨bb,rv2,o2,z2⟩:=I1.qX q3;obtain⟨ob1,e1⟩:=o1.obj;obtain⟨ob2,e2⟩:=o2.obj;have g1:l1<s1.heap.objs.size:=Xe e1;have g2:l2<s1.heap.objs.size:=Xe e2;refine oq o1 o2 fun h' hz hTI hTO hi1 hi2 hk=>wpAny_pyIter_zip hz ?_
 refine⟨_,[s1.heap.objs.size+4,s1.heap.objs.size+2,s1.heap.objs.size+3,s1.heap.objs.size,s1.heap.objs.size+1],_,_,H1,rfl,I1.kept (t':=s1.toks) hk,FK _ _ _ _ _ l1 l2 ?_,⟨hz,hTI,⟨_,_,hTO⟩,hi1,hi2⟩,fun c hc=>?_,q⟩
 ·exact pB g1 g2
 ·have hc':s1.heap.objs.size<=c:=by
   simp only[QH,Xy,or_false]at hc;rcases hc with rfl|rfl|rfl|rfl|rfl <;> first|exact Nat.le_add_right _ _|exact Xa _
  exact I1.IF hc' (I1.hok.fresh hc')
variable{d:Addr}
theorem oB.other{q:Addr}{o:HO}(D:oB H d l)(h1:q≠d)(h2:q≠l):oB (upd H q o) d l:=by
 obtain⟨s,n,ls,D⟩:=D;exact⟨s,n,ls,by rw[ai h1.symm];exact D.hd,by rw[ai h2.symm];exact D.hl,D.s0,D.s1,D.n0,D.l0⟩
variable{es:List Expr}
theorem nT{K:W.Frag}{k:Nat}{pos:Pos}{t:TGs}(hK:X.K=K)(hc:X.calm=true)(h:PGs X es t)
  (hn:(assignEach es X.env).length=n:=by rfl) (hst:(assignEach es X.env).findIdx? (·.1)=none:=by rfl):PG X (.Tuple es k pos) (MC K n t):=hK▸Pd hc h hn hst
abbrev pA(h:Heap)(z TI TO:Addr)(a:Addr)(f:Bool):Prop :=
 h.get? z=some { cls:=.type "zip",dict:=none,data:=.fields #[rawInt a,.bool f,.bool false,.ref TI,.ref TO],slots:=#[] }
variable{oa:Obj}
section
variable{w:World}{s:Shared}
theorem yR{TI TO:Addr}{f:Bool}{Q:Bool->Shared->Prop}(hz:pA s.heap z TI TO a f)(ha:s.heap.get? a=some oa)
  (hQ:∀ h',pA h' z TI TO a true->X1 z s.heap h'->Q false { s with heap:=h' }):wpAny (model prog w) A (Builtin.SmallTypes.ownedTupleIsFree (.ref z)) Q E s:=by
 unfold Builtin.SmallTypes.ownedTupleIsFree;refine j2 (wpAny_field hz rfl (x:=rawInt a) rfl ?_);show wpAny _ _ (loadIfAlive ((a:Int).toNat) >>= _) _ _ _;rw[Y4];refine j2 (W.kdx_alive ha ?_);simp only[Option.isNone_some,X2,if_false];refine j2 (wpAny_field hz rfl (x:=.bool f) rfl ?_);cases f with
 | true =>
  rw[if_neg (show ¬((Value.bool true != Value.bool true)=true)from Xd)];exact TH (hQ _ hz (Heap.SameBut.refl _ _))
 | false =>
  rw[if_pos (show(Value.bool false != Value.bool true)=true from rfl)];refine j2 (wpAny_setField_rec hz (by simp) fun h₃ he₃ hs₃=>?_)
  exact TH (hQ _ he₃ hs₃)
theorem Ka{TI TO:Addr}{f:Bool}{xs:Array Value}{x y:Value}{Q:Option Value->Shared->Prop}(D:ZipApart z TI TO i1 i2 l1 l2)
  (hz:pA s.heap z TI TO a f) (ha:s.heap.get? a=some oa) (hTI:IsPair s.heap TI (.ref i1) (.ref i2))
  (h1:aL s.heap t1 i1 l1 k1) (h2:aL s.heap t2 i2 l2 k2) (hl1:aX s.heap t1 l1 xs) (hl2:aX s.heap t2 l2 ys) (hx:xs[k1]? = some x) (hy:ys[k2]? = some y)
  (hQ:∀ h',pA h' z TI TO a true->aL h' t1 i1 l1 (k1+1)->aL h' t2 i2 l2 (k2+1)->IsPair h' s.heap.objs.size x y->h'.objs.size=s.heap.objs.size+1 ->
   (∀ c o,c≠z->c≠i1->c≠i2->s.heap.get? c=some o->h'.get? c=some o)->Q (some (.ref s.heap.objs.size)) { s with heap:=h' }) :
  wpAny (model prog w) A (pyNext (.ref z)) Q E s:=by
 have hT:s.TypeIs (.ref z) "zip":=⟨_,hz,rfl⟩;unfold pyNext;refine j2 (Ya (wpAny_callSpecial?_slot (name:=Str.ofString "__next__") hT F.slot_zip_next
  (Xz F.slot_zip_next hT F.entry_zip_next ?_ (F.args_zip_next_1 _))))
 show wpAny _ _ (field (.ref z) 2 >>= _) _ _ _;refine j2 (wpAny_field hz rfl (x:=.bool false) rfl ?_);show wpAny _ _ (field (.ref z) 3 >>= _) _ _ _;refine j2 (wpAny_field hz rfl (x:=.ref TI) rfl ?_);refine j2 (wpAny_seqItems hTI rfl ?_);show wpAny _ _ (Builtin.SmallTypes.ownedTupleIsFree (.ref z) >>= _) _ _ _;refine j2 (yR hz ha fun h₁ hz₁ hs₁=>?_)
 simp only[X2,if_false];rw[<- ZD];simp only[YH,Y0];refine j2 (j2 (j2 (XJ ?_)));show wpAny _ _ (Builtin.SmallTypes.nextOf (.ref i1) >>= _) _ _ _;refine j2 (next_item (h1.at fun o e=>hs₁.extBut _ o D.i1z e) (hl1.at fun o e=>hs₁.extBut _ o D.l1z e) hx fun h₂ h1₂ hs₂=>TH (TH ?_))
 refine j2 (j2 (XJ ?_));show wpAny _ _ (Builtin.SmallTypes.nextOf (.ref i2) >>= _) _ _ _;refine j2 (next_item (h2.at fun o e=>hs₂.extBut _ o D.i12.symm (hs₁.extBut _ o D.i2z e)) (hl2.at fun o e=>hs₂.extBut _ o D.l2i1 (hs₁.extBut _ o D.l2z e)) hy fun h₃ h2₃ hs₃=>TH (TH ?_))
 refine TH ?_;show wpAny _ _ (newTuple [x,y] >>= _) _ _ _;refine j2 (wpAny_newTuple ?_);have hsz:h₃.objs.size=s.heap.objs.size:=by rw[hs₃.1,hs₂.1,hs₁.1]
 have up:∀ c o,c≠z->c≠i1->c≠i2->s.heap.get? c=some o ->(h₃.push { cls:=.type "tuple",data:=.seq #[x,y] }).get? c=some o:=fun c o c1 c2 c3 e =>
  j3 _ (hs₃.extBut _ _ c3 (hs₂.extBut _ _ c2 (hs₁.extBut _ _ c1 e)))
 refine TH ⟨_,rfl,TH ?_⟩;show Q (some (.ref h₃.objs.size)) _;rw[hsz];refine hQ _ (j3 _ (hs₃.extBut _ _ D.i2z.symm (hs₂.extBut _ _ D.i1z.symm hz₁))) ?_ ?_ ?_ ?_ up
 ·exact h1₂.at fun o e=>j3 _ (hs₃.extBut _ o D.i12 e)
 ·exact h2₃.at fun o e=>j3 _ e
 ·rw[<- hsz];exact W8 _ rfl
 ·rw[Xq,hsz]
theorem ya{TI TO:Addr}{f:Bool}{xs:Array Value}{Q:Option Value->Shared->Prop}(hh:A.handled=none)(D:ZipApart z TI TO i1 i2 l1 l2)
  (hz:pA s.heap z TI TO a f) (ha:s.heap.get? a=some oa) (hTI:IsPair s.heap TI (.ref i1) (.ref i2))
  (h1:aL s.heap t1 i1 l1 k1) (h2:aL s.heap t2 i2 l2 k2) (hl1:aX s.heap t1 l1 xs) (hl2:aX s.heap t2 l2 ys) (sR:xs[k1]? = none\/ys[k2]? = none)
  (hQ:∀ h',(∀ c o,c≠z->c≠i1->c≠i2->s.heap.get? c=some o->h'.get? c=some o)->Q none { s with heap:=h' }) :
  wpAny (model prog w) A (pyNext (.ref z)) Q E s:=by
 have hT:s.TypeIs (.ref z) "zip":=⟨_,hz,rfl⟩;have fin:∀ h' e,(∀ c o,c≠z->c≠i1->c≠i2->s.heap.get? c=some o->h'.get? c=some o) ->(∃ o,h'.get? e=some o/\o.cls = .type "StopIteration") ->
   wpAny (model prog w) A (do if <- isInstance (.ref e) (.type "StopIteration")then pure none else throw (.ref e)) Q E { s with heap:=h' }:=fun h' e hk he=>by
  obtain⟨o,ho,hc⟩:=he;refine j2 (X8 (T:="StopIteration") (b:=true) ⟨o,ho,hc⟩ isSubtype_stop ?_);exact TH (hQ _ hk)
 unfold pyNext;refine j2 (Ya (wpAny_callSpecial?_slot (name:=Str.ofString "__next__") hT F.slot_zip_next
  (Xz F.slot_zip_next hT F.entry_zip_next ?_ (F.args_zip_next_1 _))))
 show wpAny _ _ (field (.ref z) 2 >>= _) _ _ _;refine j2 (wpAny_field hz rfl (x:=.bool false) rfl ?_);show wpAny _ _ (field (.ref z) 3 >>= _) _ _ _;refine j2 (wpAny_field hz rfl (x:=.ref TI) rfl ?_);refine j2 (wpAny_seqItems hTI rfl ?_);show wpAny _ _ (Builtin.SmallTypes.ownedTupleIsFree (.ref z) >>= _) _ _ _;refine j2 (yR hz ha fun h₁ hz₁ hs₁=>?_)
 simp only[X2,if_false];rw[<- ZD];simp only[YH,Y0];refine j2 (j2 (j2 (XJ ?_)));show wpAny _ _ (Builtin.SmallTypes.nextOf (.ref i1) >>= _) _ _ _;cases hx:xs[k1]? with
 | none =>
  refine j2 (next_end hh (h1.at fun o e=>hs₁.extBut _ o D.i1z e) (hl1.at fun o e=>hs₁.extBut _ o D.l1z e) hx fun h₂ e hs₂ he=>?_)
  exact fin h₂ e (fun c o c1 c2 _ x=>hs₂ _ _ c2 (hs₁.extBut _ _ c1 x)) he
 | some x =>
  have hy:ys[k2]? = none:=by rcases sR with h|h;rw[hx]at h;cases h;exact h
  refine j2 (next_item (h1.at fun o e=>hs₁.extBut _ o D.i1z e) (hl1.at fun o e=>hs₁.extBut _ o D.l1z e) hx fun h₂ h1₂ hs₂=>TH (TH ?_))
  refine j2 (j2 (XJ ?_));show wpAny _ _ (Builtin.SmallTypes.nextOf (.ref i2) >>= _) _ _ _;refine j2 (next_end hh (h2.at fun o e=>hs₂.extBut _ o D.i12.symm (hs₁.extBut _ o D.i2z e)) (hl2.at fun o e=>hs₂.extBut _ o D.l2i1 (hs₁.extBut _ o D.l2z e)) hy fun h₃ e hs₃ he=>?_)
  exact fin h₃ e (fun c o c1 c2 c3 x=>hs₃ _ _ c3 (hs₂.extBut _ _ c2 (hs₁.extBut _ _ c1 x))) he
end
structure ZSt(h:Heap)(z TI TO i1 i2 l1 l2 S:Addr)(t1 t2:Bool)(i:Nat):Prop where
 ti:IsPair h TI (.ref i1) (.ref i2)
 s1:aL h t1 i1 l1 i
 s2:aL h t2 i2 l2 i
 st:(IsZip h z TI TO .none/\∃ a b,IsPair h TO a b)\/∃(a:Addr)(f:Bool)(oa:Obj),pA h z TI TO a f/\h.get? a=some oa/\a≠z/\a≠S/\a≠i1/\a≠i2
variable{S:Addr}
theorem ZSt.keep{h:Heap}{TI TO:Addr}{i:Nat}(x:ZSt h z TI TO i1 i2 l1 l2 S t1 t2 i)(k:∀ b o,b≠S->h.get? b=some o->h'.get? b=some o)(hz:z≠S)(hTI:TI≠S)(hTO:TO≠S)(h1:i1≠S)(h2:i2≠S):ZSt h' z TI TO i1 i2 l1 l2 S t1 t2 i :=
 ⟨k _ _ hTI x.ti,x.s1.at fun o e=>k _ o h1 e,x.s2.at fun o e=>k _ o h2 e,by
  rcases x.st with⟨e,a,b,e2⟩ |⟨a,f,oa,e,e2,n1,n2,n3⟩
  ·exact .inl ⟨k _ _ hz e,a,b,k _ _ hTO e2⟩
  ·exact .inr ⟨a,f,oa,k _ _ hz e,k _ _ n2 e2,n1,n2,n3⟩⟩
section
variable{w:World}{s:Shared}
theorem J8{E:Value->Shared->Prop}{TI TO:Addr}{k:Nat}{xs:Array Value}{x y:Value}{Q:Option Value->Shared->Prop}(D:ZipApart z TI TO i1 i2 l1 l2)
  (st:ZSt s.heap z TI TO i1 i2 l1 l2 S t1 t2 k) (hS:S<s.heap.objs.size) (hl1:aX s.heap t1 l1 xs) (hl2:aX s.heap t2 l2 ys) (hx:xs[k]? = some x) (hy:ys[k]? = some y)
  (hQ:∀ h',ZSt h' z TI TO i1 i2 l1 l2 S t1 t2 (k+1)->IsPair h' s.heap.objs.size x y->h'.objs.size=s.heap.objs.size+1 ->
   (∀ c o,c≠z->c≠TO->c≠i1->c≠i2->s.heap.get? c=some o->h'.get? c=some o)->Q (some (.ref s.heap.objs.size)) { s with heap:=h' }) :
  wpAny (model prog w) A (pyNext (.ref z)) Q E s:=by
 obtain⟨o1,g1,_⟩:=st.s1.obj;obtain⟨o2,g2,_⟩:=st.s2.obj;rcases st.st with⟨hz,a,b,hTO⟩ |⟨a,f,oa,hz,ha,n1,n2,n3,n4⟩
 ·refine yb D hz st.ti hTO st.s1 st.s2 hl1 hl2 hx hy fun h' hz' T5 e1 e2 hp hsz hk=>hQ h' ⟨hk _ _ D.TIz D.TITO D.TIi1 D.TIi2 st.ti,e1,e2,.inr ⟨s.heap.objs.size,false,_,hz',hp,?_,?_,?_,?_⟩⟩ hp hsz hk
  ·exact XY (Xe hz)
  ·exact XY hS
  ·exact XY (Xe g1)
  ·exact XY (Xe g2)
 ·exact Ka D hz ha st.ti st.s1 st.s2 hl1 hl2 hx hy fun h' hz' e1 e2 hp hsz hk=>hQ h' ⟨hk _ _ D.TIz D.TIi1 D.TIi2 st.ti,e1,e2,.inr ⟨a,true,oa,hz',hk a oa n1 n3 n4 ha,n1,n2,n3,n4⟩⟩ hp hsz fun c o c1 _ c3 c4 e=>hk c o c1 c3 c4 e
theorem J9{TI TO:Addr}{k:Nat}{xs:Array Value}{Q:Option Value->Shared->Prop}(hh:A.handled=none)(D:ZipApart z TI TO i1 i2 l1 l2)
  (st:ZSt s.heap z TI TO i1 i2 l1 l2 S t1 t2 k) (hl1:aX s.heap t1 l1 xs) (hl2:aX s.heap t2 l2 ys) (sR:xs[k]? = none\/ys[k]? = none)
  (hQ:∀ h',(∀ c o,c≠z->c≠TO->c≠i1->c≠i2->s.heap.get? c=some o->h'.get? c=some o)->Q none { s with heap:=h' }):wpAny (model prog w) A (pyNext (.ref z)) Q E s:=by
 rcases st.st with⟨hz,a,b,hTO⟩ |⟨a,f,oa,hz,ha,n1,n2,n3,n4⟩
 ·exact BL hh D hz st.ti hTO st.s1 st.s2 hl1 hl2 sR hQ
 ·exact ya hh D hz ha st.ti st.s1 st.s2 hl1 hl2 sR fun h' hk=>hQ h' fun c o c1 _ c3 c4 e=>hk c o c1 c3 c4 e
end
section
variable{w:World}{s:Shared}
theorem En{e:Addr}{i:Nat}{x old:Value}{Q:Option Value->Shared->Prop}
  (he:IsEnum s.heap e it i old) (hit:aL s.heap tp it l i) (hl:aX s.heap tp l items) (hx:items[i]? = some x) (hne:e≠it)
  (hQ:∀ h',IsEnumOut h' e it ((i:Int)+1) x s.heap.objs.size->aL h' tp it l (i+1)->h'.get? s.heap.objs.size=some { cls:=.type "tuple",data:=.seq #[.int i s.toks,x] }->h'.objs.size=s.heap.objs.size+1 ->
   (∀ b o,b≠e->b≠it->s.heap.get? b=some o->h'.get? b=some o)->Q (some (.ref s.heap.objs.size)) { s with heap:=h',toks:=s.toks+1 }):wpAny (model prog w) A (pyNext (.ref e)) Q E s:=by
 have hT:s.TypeIs (.ref e) "enumerate":=⟨_,he,rfl⟩;obtain⟨hp,g,d,tk,os⟩:=s;unfold pyNext;refine j2 (Ya (wpAny_callSpecial?_slot (name:=Str.ofString "__next__") hT F.slot_enumerate_next (Xz F.slot_enumerate_next hT F.entry_enumerate_next ?_ (F.args_enumerate_next_1 _))));show wpAny _ _ (field (.ref e) 2 >>= _) _ _ _;refine j2 (wpAny_field he rfl (x:=.ref it) rfl ?_);refine j2 (next_item hit hl hx fun h1 Wr hs1=>?_)
 have he1:IsEnum h1 e it i old:=(hs1.2 e hne).trans he;show wpAny _ _ (field (.ref e) 3 >>= _) _ _ ⟨h1,g,d,tk,os⟩;refine j2 (wpAny_field he1 rfl (x:=rawInt i) rfl ?_);show wpAny _ _ (field (.ref e) 4 >>= _) _ _ ⟨h1,g,d,tk,os⟩;refine j2 (wpAny_field he1 rfl (x:=.none) rfl ?_);show wpAny _ _ (mkInt i >>= _) _ _ ⟨h1,g,d,tk,os⟩;refine j2 (wpAny_mkInt ?_);show wpAny _ _ (setField (.ref e) 3 (rawInt ((i:Int)+1)) >>= _) _ _ ⟨h1,g,d,tk+1,os⟩;refine j2 (wpAny_setField_rec he1 (by simp) fun h2 he2 hs2=>?_)
 replace hs2:X1 e h1 h2:=hs2
 replace he2:IsEnum h2 e it ((i:Int)+1) old:=he2
 show wpAny _ _ (setField (.ref e) 4 .none >>= _) _ _ ⟨h2,g,d,tk+1,os⟩;refine j2 (wpAny_setField_rec he2 (by simp) fun h3 he3 hs3=>?_)
 replace hs3:X1 e h2 h3:=hs3
 replace he3:IsEnum h3 e it ((i:Int)+1) old:=he3
 show wpAny _ _ (newTuple [.int i tk,x] >>= _) _ _ ⟨h3,g,d,tk+1,os⟩;refine j2 (wpAny_newTuple ?_);have he4:IsEnum (h3.push { cls:=.type "tuple",data:=.seq #[.int i tk,x] }) e it ((i:Int)+1) old:=j3 _ he3;have hsz:h3.objs.size=hp.objs.size:=by rw[hs3.1,hs2.1,hs1.1]
 have hel:e<hp.objs.size:=Xe he;have ht4:(h3.push { cls:=.type "tuple",data:=.seq #[.int i tk,x] }).get? hp.objs.size=some { cls:=.type "tuple",data:=.seq #[.int i tk,x] }:=by rw[<- hsz];exact W8 _ rfl
 have hz4:(h3.push { cls:=.type "tuple",data:=.seq #[.int i tk,x] }).objs.size=hp.objs.size+1:=by rw[Xq,hsz]
 have hk4:∀ b o,b≠e->b≠it->hp.get? b=some o ->(h3.push { cls:=.type "tuple",data:=.seq #[.int i tk,x] }).get? b=some o:=fun b o hbe hbi hb=>j3 _ (hs3.extBut b o hbe (hs2.extBut b o hbe (hs1.extBut b o hbi hb)))
 have TX:aL (h3.push { cls:=.type "tuple",data:=.seq #[.int i tk,x] }) tp it l (i+1):=Wr.at fun o eo=>j3 _ (hs3.extBut _ o hne.symm (hs2.extBut _ o hne.symm eo))
 generalize h3.push { cls:=.type "tuple",data:=.seq #[.int i tk,x] }=h4 at he4 ht4 hz4 hk4 TX
 show wpAny _ _ (Builtin.SmallTypes.ownedTupleIsFree (.ref e) >>= _) _ _ ⟨h4,g,d,tk+1,os⟩;rw[hsz];refine j2 ?_;unfold Builtin.SmallTypes.ownedTupleIsFree;refine j2 (wpAny_field he4 rfl (x:=.none) rfl (TH ?_));simp only[if_true];refine j2 (Yu ?_);refine j2 (wpAny_field he4 rfl (x:=old) rfl ?_);refine j2 (wpAny_setField_rec he4 (by simp) fun h5 he5 hs5=>?_)
 replace hs5:X1 e h4 h5:=hs5
 replace he5:IsEnum h5 e it ((i:Int)+1) x:=he5
 show wpAny _ _ (Builtin.SmallTypes.ownedTupleHandOut (.ref e) (.ref hp.objs.size) >>= _) _ _ ⟨h5,g,d,tk+1,os⟩;refine j2 ?_;unfold Builtin.SmallTypes.ownedTupleHandOut;refine j2 (wpAny_setField_rec he5 (by simp) fun h6 he6 hs6=>?_)
 replace hs6:X1 e h5 h6:=hs6
 replace he6:IsEnumOut h6 e it ((i:Int)+1) x hp.objs.size:=he6
 refine wpAny_setField_rec he6 (by simp) fun h7 he7 hs7=>?_
 replace hs7:X1 e h6 h7:=hs7
 replace he7:IsEnumOut h7 e it ((i:Int)+1) x hp.objs.size:=he7
 have up:∀ c o,c≠e->h4.get? c=some o->h7.get? c=some o:=fun c o hc z=>hs7.extBut _ _ hc (hs6.extBut _ _ hc (hs5.extBut _ _ hc z))
 refine j2 (wpAny_letGo (TH ⟨_,rfl,TH (hQ h7 he7 (TX.at fun o eo=>up _ o hne.symm eo) (up _ _ (XY hel) ht4) ?_ fun b o hbe hbi hb=>up b o hbe (hk4 b o hbe hbi hb))⟩))
 rw[hs7.1,hs6.1,hs5.1,hz4]
theorem IK{e:Addr}{i:Nat}{old:Value}{Q:Option Value->Shared->Prop}(hh:A.handled=none)
  (he:IsEnum s.heap e it i old) (hit:aL s.heap tp it l i) (hl:aX s.heap tp l items) (hx:items[i]? = none) (hQ:∀ h',Zp it s.heap h'->Q none { s with heap:=h' }):wpAny (model prog w) A (pyNext (.ref e)) Q E s:=by
 have hT:s.TypeIs (.ref e) "enumerate":=⟨_,he,rfl⟩;unfold pyNext;refine j2 (Ya (wpAny_callSpecial?_slot (name:=Str.ofString "__next__") hT F.slot_enumerate_next (Xz F.slot_enumerate_next hT F.entry_enumerate_next ?_ (F.args_enumerate_next_1 _))));show wpAny _ _ (field (.ref e) 2 >>= _) _ _ _;refine j2 (wpAny_field he rfl (x:=.ref it) rfl ?_);refine j2 (next_end hh hit hl hx fun h' x he' hx'=>?_)
 obtain⟨o,ho,hc⟩:=hx';refine j2 (X8 (T:="StopIteration") (b:=true) ⟨o,ho,hc⟩ isSubtype_stop ?_);exact TH (hQ _ he')
abbrev eH1(tp:Bool)(h:Heap)(l:Addr):Heap:=h.push { cls:=.type (itc tp),data:=.fields #[.ref l,.int 0 0] }
abbrev eH2(tp:Bool)(h:Heap)(l:Addr):Heap:=(eH1 tp h l).push { cls:=.type "enumerate",data:=.fields #[.none,.bool false,.ref h.objs.size,rawInt 0,.none,.none] }
theorem so(tp:Bool)(l:Addr)(xs:Array Value) :
  Meets (Builtin.«enumerate.__new__» ⟨[.type "enumerate",.ref l],[]⟩) (fun _ R s=>aX s.heap tp l xs/\R (.ok (.ret (.ref (eH1 tp s.heap l).objs.size))) { s with heap:=eH2 tp s.heap l }) :=
 .of_wp fun prog w A R s h=>by
  obtain⟨hp,g,d,tk,os⟩:=s;obtain⟨hl,h⟩:=h;have TR:=sub_enumerate;have hL:aX (Shared.heap ⟨hp,g,d,tk,os⟩) tp l xs:=hl
  wp_walk
  refine wpAny_stack_any fun st=>TH ?_
  split
  ·rename_i c _ _ _ _ _
   cases(c==Value.type "enumerate")
   ·wp_walk using kQ hL
    exact⟨_,rfl,h⟩
   ·wp_walk using kQ hL
    exact⟨_,rfl,h⟩
  ·wp_walk using kQ hL
   exact⟨_,rfl,h⟩
theorem uz{xs:Array Value}(hl:aX s.heap tp l xs)
  (h:∀ h',IsEnum h' (s.heap.objs.size+1) s.heap.objs.size 0 .none->aL h' tp s.heap.objs.size l 0 ->(∀ b o,s.heap.get? b=some o->h'.get? b=some o)->Q (.ref (s.heap.objs.size+1)) { s with heap:=h' }) :
  wpAny (model prog w) A (call (.type "enumerate") [.ref l]) Q E s:=by
 refine callType_new F.called_enumerate (by decide) (F.typeCall_enumerate_1 _) (F.newCall_enumerate_1 _) (fun obj=>F.args_object_init_2 obj _) F.entry_enumerate_new (so tp l xs) ⟨hl,?_⟩
 have z1:(eH1 tp s.heap l).objs.size=s.heap.objs.size+1:=Xq ..;have g2:(eH2 tp s.heap l).get? (eH1 tp s.heap l).objs.size=some _:=W8 _ rfl;have g1:(eH2 tp s.heap l).get? s.heap.objs.size=some _:=j3 _ (W8 _ rfl);show _/\_;rw[z1]at g2 ⊢;exact⟨⟨_,g2,rfl⟩,h _ g2 (ke g1) fun c o x=>j3 _ (j3 _ x)⟩
end
def Ite(K:W.Frag)(tp:Bool)(l:Addr):It :=
 ⟨fun i H=>∃ xs x,SqB K tp H l xs/\xs[i]? = some x,
   fun i H v H'=>∃(p:Addr)(x:V),H p=none/\v = .ref p/\H'=upd H p (.tup [.int i,x])/\∀ xs,SqB K tp H l xs->xs[i]? = some x,
   fun i H=>∃ xs,SqB K tp H l xs/\xs.length<=i⟩
theorem Dh{w:World}{K:W.Frag}{x1}(e it l:Addr)(hne:e≠it) :
  Turn P w K (.Tuple elts x1 pos) (Ite K tp l) [e,it] e (fun i h=>(∃ old,IsEnum h e it i old)/\aL h tp it l i) where
 mem:=by simp
 obj:=by
  rintro i h ⟨⟨old,h1⟩,h2⟩ c hc
  simp only[QH,Xy,or_false]at hc;rcases hc with rfl|rfl
  ·exact⟨_,h1,fun v e=>by cases e⟩
  ·exact h2.obj
 keep:=by
  rintro i h h' ⟨⟨old,h1⟩,h2⟩ k
  exact⟨⟨old,k e (by simp) _ h1⟩,h2.at fun o z=>k it (by simp) o z⟩
 item:=by
  intro X hP hw hK hc i j0 s σ H E I hf st hg;subst hP hw hK;obtain⟨⟨old,h1⟩,h2⟩:=st;obtain⟨xs,x,q1,e1⟩:=hg;obtain⟨its,rv,o1,z1⟩:=I.qX q1;obtain⟨u1,hu1,ru1⟩:=rv.get e1;refine En h1 h2 o1 (x:=u1) (by simpa using hu1) hne fun h' ho' hi' hT' Wf hk'=>⟨_,rfl,?_⟩
  refine wpAny_letOwnedTupleGo_enum ho' fun h'' Wv P4=>?_
  have hn:=I.hok.fresh (Xa s.heap.objs.size);have le:e<s.heap.objs.size:=Xe h1;obtain⟨oi,goi,_⟩:=h2.obj;have li:it<s.heap.objs.size:=Xe goi;have PC:∀ b ∈ [e,it],b≠s.heap.objs.size:=fun b hb=>by
   simp only[QH,Xy,or_false]at hb;rcases hb with rfl|rfl
   ·exact Xo le
   ·exact Xo li
  have up:∀ c o,c≠e->h'.get? c=some o->h''.get? c=some o:=fun c o hc z=>P4.extBut _ _ hc z
  have I1:Inv X j0 σ (upd H s.heap.objs.size (.tup [.int i,x])) { s with heap:=s.heap.push { cls:=.type "tuple",data:=.seq #[.int i s.toks,u1] },toks:=s.toks+1 } :=
   I.laid (t':=s.toks+1) (fun b u z=>j3 _ z) (Xa _) ⟨by show 2<=WT;decide,[.int i s.toks,u1],.cons ⟨_,rfl⟩ (.cons ru1 .nil),⟨⟨_,W8 _ rfl,rfl,_,rfl⟩,_,W8 _ rfl,rfl⟩⟩
  have hf':∀ b ∈ [e,it],tR X j0 (upd H s.heap.objs.size (.tup [.int i,x])) b:=fun b hb=>by
   obtain⟨f0,r⟩:=hf b hb;exact⟨by rw[ai (PC b hb)];exact f0,r⟩
  have I2:Inv X j0 σ (upd H s.heap.objs.size (.tup [.int i,x])) { s with heap:=h'',toks:=s.toks+1 }:=by
   refine I1.qm (h':=h'') (t':=s.toks+1) (fun b o hb z=>?_) hf'
   simp only[QH,Xy,or_false,not_or]at hb;obtain⟨b1,b2⟩:=hb;rcases Zq z with⟨rfl,rfl⟩|z'
   ·exact up _ _ b1 hT'
   ·exact up _ _ b1 (hk' b o b1 b2 z')
  refine⟨.ref s.heap.objs.size,upd H s.heap.objs.size (.tup [.int i,x]),I2,rfl,⟨_,x,hn,rfl,rfl,fun zs hz=>by rw[I.qW hz q1];exact e1⟩,?_,fun b hb=>(hf' b hb).1⟩
  exact⟨⟨_,by simpa using Wv⟩,hi'.at fun o z=>up _ _ hne.symm z⟩
 done:=by
  intro X hP hw hK hc i j0 s σ H E I hf st hg;subst hP hw hK;obtain⟨⟨old,h1⟩,h2⟩:=st;obtain⟨xs,q1,sR⟩:=hg;obtain⟨its,rv,o1,z1⟩:=I.qX q1;have g1:=rv.length;refine IK (I.ok.hd hc) h1 h2 o1 (by simp;omega) fun h' k=>⟨rfl,I.qm (t':=s.toks) (fun b o hb z=>?_) hf⟩
  simp only[QH,Xy,or_false,not_or]at hb;exact k b o hb.2 z
 self:=fun _ _ _ _ _ st h=>let⟨⟨_,z⟩,_⟩:=st;wpAny_pyIter_enum z h
def Ip(K:W.Frag)(tp:Bool)(ta:TA):TI:=fun σ H R=>ta σ H fun vs H1=>∃ l,vs = [.ref l]/\(∃ xs,SqB K tp H1 l xs)/\R (Ite K tp l) H1
theorem Lz{x1}{a:Expr}{ta:TA}(hg:Gl X "enumerate")(hm:X.mg "enumerate" = none)(kS:bootBuiltins "enumerate" = some (.type "enumerate"))(ha:PA X [a] ta)(hs:QX [a] X.env = [(false,eval a X.env)]:=by rfl) :
  PI X (.Tuple elts x1 pos') (.Call (.Name "enumerate" p) [a] [] pos) (Ip X.K tp ta):=by
 intro j0 s σ H R I h;refine Call_ (fO I hg hm kS (PyProof.Rows.callWith_type1 (thn (ha pos j0 s σ H _ I h) fun us s1 ⟨vs,H1,I1,r1,q1⟩=>?_) hs rfl))
 obtain⟨l,e,⟨xs,q2⟩,q⟩:=q1;subst e;obtain⟨u1,rfl,ru1⟩:=vals1 r1;cases ru1;obtain⟨its,rv,o1,z1⟩:=I1.qX q2;refine uz o1 fun h' he hi hk=>wpAny_pyIter_enum he ?_
 refine⟨_,[s1.heap.objs.size+1,s1.heap.objs.size],_,_,H1,rfl,I1.kept (t':=s1.toks) hk,Dh _ _ l (fun z=>absurd (show @Eq Nat _ _ from z) (by omega)),⟨⟨_,he⟩,hi⟩,fun c hc=>?_,q⟩
 have hc':s1.heap.objs.size<=c:=by
  simp only[QH,Xy,or_false]at hc;rcases hc with rfl|rfl <;> first|exact Nat.le_add_right _ _|exact Xa _
 exact I1.IF hc' (I1.hok.fresh hc')
end L2
namespace PySem
open Sem (wp)
theorem Gu:mroOf (.type "reversed")=pure [.type "reversed",.type "object"]:=by rw[mroOf_type];kernel_rfl
theorem OD:typeLookup (.type "reversed") "__new__" = pure (some (.builtin "reversed.__new__")):=by rw[typeLookup_type,builtinLookup_eq_fast];kernel_rfl
theorem vQ:Slot "reversed" "__init__" "object.__init__" :=
 .of (owner:="object") (n:="__init__") (by rw[typeLookup_type,builtinLookup_eq_fast];kernel_rfl) (by decide +kernel) (by decide +kernel) (by decide +kernel) (by first|exact .inl (by decide +kernel)|exact .inr (by decide +kernel)) (by rw[Yh];kernel_rfl)
theorem Gs:isSubtype (.type "reversed") (.type "reversed")=pure true:=by rw[Yh];kernel_rfl
theorem Dz:TypeCalled "reversed" "reversed.__new__" "object.__init__" :=
 ⟨by decide +kernel,by decide +kernel,⟨_,_,Gu⟩,madeBy_type Gu OD (by decide +kernel),by decide +kernel,by rw[Yh];kernel_rfl,vQ⟩
theorem yo(a:Value):checkTypeCall "reversed" ⟨[a],[]⟩=pure ():=by kernel_rfl
theorem Ak(a:Value):checkBuiltinCall "reversed.__new__" ⟨[.type "reversed",a],[]⟩=pure ():=by kernel_rfl
theorem vR:entryFor table "reversed.__new__" = some Builtin.«reversed.__new__»:=entryFor_of_tree (by kernel_rfl)
theorem rA:Manifest.owners.lookup (String.ofList ['d','e','s','r','e','v','e','r'].reverse)=some Manifest.sig_reversed:=by kernel_rfl
theorem dH:Slot "reversed" "__next__" "reversed.__next__" :=
 .of (owner:="reversed") (n:="__next__") (by rw[typeLookup_type,builtinLookup_eq_fast];kernel_rfl) (by decide +kernel) (by decide +kernel) (by decide +kernel) (by first|exact .inl (by decide +kernel)|exact .inr (by decide +kernel)) (by rw[Yh];kernel_rfl)
theorem mq:entryFor table "reversed.__next__" = some Builtin.«reversed.__next__»:=entryFor_of_tree (by kernel_rfl)
theorem nH(a:Value):argsOk "reversed.__next__" ⟨[a],[]⟩:=by
 unfold argsOk;rw[signature?_of (id:="reversed.__next__") (n:=['_','_','t','x','e','n','_','_']) (o:=['d','e','s','r','e','v','e','r']) (by kernel_rfl) rA]
 kernel_rfl
theorem nF:Slot "reversed" "__iter__" "reversed.__iter__" :=
 .of (owner:="reversed") (n:="__iter__") (by rw[typeLookup_type,builtinLookup_eq_fast];kernel_rfl) (by decide +kernel) (by decide +kernel) (by decide +kernel) (by first|exact .inl (by decide +kernel)|exact .inr (by decide +kernel)) (by rw[Yh];kernel_rfl)
theorem vS(a:Value):argsOk "reversed.__iter__" ⟨[a],[]⟩:=by
 unfold argsOk;rw[signature?_of (id:="reversed.__iter__") (n:=['_','_','r','e','t','i','_','_']) (o:=['d','e','s','r','e','v','e','r']) (by kernel_rfl) rA]
 kernel_rfl
theorem t8:entryFor table "reversed.__iter__" = some Builtin.«dict_keyiterator.__iter__» :=
 entryFor_alias (id':="dict_keyiterator.__iter__") (by kernel_rfl) (by first|rfl|decide +kernel |(unfold String.splitOn;simp +decide [String.splitOnAux])) (by decide +kernel) (by kernel_rfl)
theorem ji:Slot "reversed" "__length_hint__" "reversed.__length_hint__" :=
 .of (owner:="reversed") (n:="__length_hint__") (by rw[typeLookup_type,builtinLookup_eq_fast];kernel_rfl) (by decide +kernel) (by decide +kernel) (by decide +kernel) (by first|exact .inl (by decide +kernel)|exact .inr (by decide +kernel)) (by rw[Yh];kernel_rfl)
theorem t9:entryFor table "reversed.__length_hint__" = some Builtin.«reversed.__length_hint__»:=entryFor_of_tree (by kernel_rfl)
theorem vT(a:Value):argsOk "reversed.__length_hint__" ⟨[a],[]⟩:=by
 unfold argsOk;rw[signature?_of (id:="reversed.__length_hint__") (n:=['_','_','t','n','i','h','_','h','t','g','n','e','l','_','_']) (o:=['d','e','s','r','e','v','e','r']) (by kernel_rfl) rA]
 kernel_rfl
theorem Dy:typeLookup (.type "reversed") "__len__" = pure none:=by rw[typeLookup_type,builtinLookup_eq_fast];kernel_rfl
theorem z5:typeLookup (.type "tuple") "__reversed__" = pure none:=by rw[typeLookup_type,builtinLookup_eq_fast];kernel_rfl
theorem vx:isSubtype (.type "tuple") (.type "dict")=pure false:=by rw[Yh];kernel_rfl
section
variable{prog:Program}{w:World}{A:Around}{E:Value->Shared->Prop}{s:Shared}
def BZ(l:Addr)(i:Int):Obj:={ cls:=.type "reversed",data:=.fields #[.ref l,rawInt i] }
abbrev BF(h:Heap)(a l:Addr)(i:Int):Prop:=h.get? a=some { cls:=.type "reversed",dict:=none,data:=.fields #[.ref l,rawInt i],slots:=#[] }
theorem Gv(l:Addr)(items:Array Value)(uo:(items.size:Int)<2 ^ 63) :
  Meets (Builtin.«reversed.__new__» ⟨[.type "reversed",.ref l],[]⟩) (fun _ R s=>s.heap.IsTuple l items /\
   R (.ok (.ret (.ref s.heap.objs.size))) { s with heap:=s.heap.push (BZ l ((items.size:Int) - 1)),toks:=s.toks+1+1 }) :=
 .of_wp fun prog w A R s h=>by
  obtain⟨hp,g,d,tk,os⟩:=s;obtain⟨hl,h⟩:=h;have hT:(⟨hp,g,d,tk,os⟩:Shared).TypeIs (.ref l) "tuple":=by obtain⟨o,ho,hc,_⟩:=id hl;exact⟨o,ho,hc⟩
  unfold Builtin.«reversed.__new__»;refine j2 (Yp (a:=(Value.type "reversed",[Value.ref l])) ?_ ?_)
  ·unfold Builtin.SmallTypes.newClass;simp only[isType,Gs,pure_bind,Bool.not_true,X2,if_false]
  refine j2 (Yp (a:=()) (by first|rfl|kernel_rfl) ?_)
  refine j2 (Yp (a:=()) (by first|rfl|kernel_rfl) ?_)
  refine j2 (X6 hT z5 ?_);refine j2 ?_;show wpAny _ _ (isInstance (.ref l) (.type "dict") >>= _) _ _ _;refine j2 (X8 hT vx ?_);show wpAny _ _ (specialOf (.ref l) "__getitem__" >>= _) _ _ _;refine j2 (X6 hT F.slot_tuple_getitem.lookup ?_);show wpAny _ _ (if(_:List String).contains "tuple.__getitem__" = true then _ else _) _ _ _
  rw[if_pos (by decide)]
  refine TH ?_;rw[if_neg (by decide)]
  show wpAny _ _ (call (.builtin "len") [.ref l] >>= _) _ _ _;refine j2 (PyProof.Rows.len_tuple hl (by omega) ?_)
  refine j2 (Yp (a:=some (items.size:Int)) rfl ?_);refine j2 ?_;unfold Builtin.SmallTypes.newRecord;exact XI (TH ⟨_,rfl,h⟩)
theorem KN{l:Addr}{items:Array Value}{Q:Value->Shared->Prop}(uo:(items.size:Int)<2 ^ 63)(hl:s.heap.IsTuple l items)
  (h:Q (.ref s.heap.objs.size) { s with heap:=s.heap.push (BZ l ((items.size:Int) - 1)),toks:=s.toks+1+1 }):wpAny (model prog w) A (call (.type "reversed") [.ref l]) Q E s :=
 callType_new Dz (by decide) (yo _) (Ak _) (fun obj=>F.args_object_init_2 obj _) vR (Gv l items uo) ⟨hl,⟨_,W8 _ rfl,rfl⟩,h⟩
theorem KJ{a l:Addr}{i:Nat}{items:Array Value}{x:Value}{Q:Option Value->Shared->Prop}(uo:(items.size:Int)<2 ^ 63)(hr:BF s.heap a l (i:Int))(hl:s.heap.IsTuple l items)(hx:items[i]? = some x)
  (hQ:∀ h',BF h' a l ((i:Int) - 1)->X1 a s.heap h'->Q (some x) { s with heap:=h',toks:=s.toks+1 }):wpAny (model prog w) A (pyNext (.ref a)) Q E s:=by
 have hT:s.TypeIs (.ref a) "reversed":=⟨_,hr,rfl⟩;have hTl:s.TypeIs (.ref l) "tuple":=by obtain⟨o,ho,hc,_⟩:=id hl;exact⟨o,ho,hc⟩
 have hlt:i<items.size:=(Array.getElem?_eq_some_iff.mp hx).1;unfold pyNext;refine j2 (Ya (wpAny_callSpecial?_slot (name:=Str.ofString "__next__") hT dH (Xz dH hT mq ?_ (nH _))));show wpAny _ _ (field (.ref a) 0 >>= _) _ _ _;refine j2 (wpAny_field hr rfl (x:=.ref l) rfl ?_);show wpAny _ _ (field (.ref a) 1 >>= _) _ _ _;refine j2 (wpAny_field hr rfl (x:=rawInt (i:Int)) rfl ?_);show wpAny _ _ (if(i:Int)<0 then _ else _) _ _ s
 rw[if_neg (by omega)]
 show wpAny _ _ (specialOf (.ref l) "__getitem__" >>= _) _ _ _;refine j2 (X6 hTl F.slot_tuple_getitem.lookup ?_);rw[if_neg (by decide)]
 show wpAny _ _ (mkInt i >>= _) _ _ _;refine j2 (wpAny_mkInt ?_);refine j2 (Ya (PyProof.Rows.getItem_tuple (j:=i) (x:=x) hl (by omega) (by omega) ?_ hx ?_))
 ·unfold seqIndex?;simp;omega
 show wpAny _ _ (field (.ref a) 1 >>= _) _ _ _;refine j2 (wpAny_field hr rfl (x:=rawInt (i:Int)) rfl ?_);show wpAny _ _ (setField (.ref a) 1 (rawInt ((i:Int) - 1)) >>= _) _ _ _;refine j2 (wpAny_setField_rec hr (by simp) fun h' hr' hs'=>?_)
 exact TH ⟨_,rfl,TH (hQ h' hr' hs')⟩
theorem OE{a l:Addr}{Q:Option Value->Shared->Prop}(hh:A.handled=none)(hr:BF s.heap a l (-1))(hQ:∀ h',Zp a s.heap h'->Q none { s with heap:=h' }):wpAny (model prog w) A (pyNext (.ref a)) Q E s:=by
 have hT:s.TypeIs (.ref a) "reversed":=⟨_,hr,rfl⟩;unfold pyNext;refine j2 (Ya (wpAny_callSpecial?_slot (name:=Str.ofString "__next__") hT dH (Xz dH hT mq ?_ (nH _))));show wpAny _ _ (field (.ref a) 0 >>= _) _ _ _;refine j2 (wpAny_field hr rfl (x:=.ref l) rfl ?_);show wpAny _ _ (field (.ref a) 1 >>= _) _ _ _;refine j2 (wpAny_field hr rfl (x:=rawInt (-1)) rfl ?_);show wpAny _ _ (if(-1:Int)<0 then _ else _) _ _ s
 rw[if_pos (by decide)]
 refine j2 (Yu ?_);refine j2 ?_;show wpAny _ _ (setField (.ref a) 1 (rawInt (-1)) >>= _) _ _ _;refine j2 (wpAny_setField_rec hr (by simp) fun h1 hr1 hs1=>?_)
 replace hr1:BF h1 a l (-1):=hr1
 refine wpAny_setField_rec hr1 (by simp) fun h2 hr2 hs2=>?_
 refine j2 ?_;show wpAny _ _ (newExc (.type "StopIteration") [] >>= _) _ _ _;refine j2 ?_;simp only[newExc,newTuple];refine j2 (XI ?_ (by size_fits))
 refine j2 (m:=firstArgMember _ _) (Yp (a:=Value.none) (by first|rfl |(simp only[firstArgMember];rfl)) ?_)
 refine XI ?_ (by size_fits)
 simp only[raiseNew];refine j2 (wpAny_handled ?_)
 first|rw[show A.in1.handled=none from hh]|rw[hh]
 refine j2 (TH (wpAny_throw ?_));refine j2 (X8 (T:="StopIteration") (b:=true) ⟨_,W8 _ rfl,rfl⟩ isSubtype_stop ?_);exact TH (hQ _ (fun b o hb e=>j3 _ (j3 _ (hs2.extBut b o hb (hs1.extBut b o hb e)))))
theorem KH{a l:Addr}{i:Int}{Q:Value->Shared->Prop}(hr:BF s.heap a l i)(h:Q (.ref a) s):wpAny (model prog w) A (pyIter (.ref a)) Q E s:=by
 have hT:s.TypeIs (.ref a) "reversed":=⟨_,hr,rfl⟩;refine wpAny_pyIter_slot hT nF (Xz nF hT t8 ?_ (vS _));show wpAny _ _ (ret (.ref a)) _ _ s;exact TH ⟨_,rfl,"reversed",_,hT,dH.lookup,h⟩
end
section
variable{prog:Program}{w:World}{A:Around}{E:Value->Shared->Prop}{s:Shared}
theorem KL{I l:Addr}{items:Array Value}{i:Nat}{Q:Bool->Shared->Prop}(hz:items.size<=WT)(uo:(items.size:Int)<2 ^ 63)(hi:i<=items.size)(hr:BF s.heap I l ((i:Int) - 1))(hl:s.heap.IsTuple l items)(hQ:∀ b tk,s.toks<=tk->Q b { s with toks:=tk }) :
  wpAny (model prog w) A (Builtin.List.listLengthHint (.ref I)) Q E s:=by
 have hT:s.TypeIs (.ref I) "reversed":=⟨_,hr,rfl⟩;unfold Builtin.List.listLengthHint;refine j2 (X6 hT Dy ?_);show wpAny _ _ (specialOf (Value.ref I) (Str.ofString "__length_hint__") >>= _) _ _ _;refine j2 (X6 hT ji.lookup ?_)
 generalize hid:("reversed.__length_hint__":String)=id0
 wp_delta
 rw[show splitId id0=some ("reversed","__length_hint__")from by subst hid;decide +kernel]
 subst hid;refine j2 (X8 (b:=true) hT Gs ?_);rw[if_neg (by decide)]
 rw[if_neg (by decide +kernel)]
 show wpAny _ _ (rule "list.length-hint.hint" >>= _) _ _ _;refine j2 (Yu ?_);refine j2 (Yp (ji.bind _) ?_);refine j2 (Ya (Xz ji hT t9 ?_ (vT _)));show wpAny _ _ (field (.ref I) 0 >>= _) _ _ _;refine j2 (wpAny_field hr rfl (x:=.ref l) rfl ?_);show wpAny _ _ (call (.builtin "len") [.ref l] >>= _) _ _ _;refine j2 (PyProof.Rows.len_tuple hl (by omega) ?_)
 refine j2 (Yp (a:=some (items.size:Int)) rfl ?_);show wpAny _ _ (field (.ref I) 1 >>= _) _ _ _;refine j2 (wpAny_field hr rfl (x:=rawInt ((i:Int) - 1)) rfl ?_);show wpAny _ _ (if(items.size:Int)<(i:Int) - 1+1 then _ else _) _ _ _
 rw[if_neg (by omega)]
 refine j2 (wpAny_mkInt (TH ⟨_,rfl,?_⟩));show wpAny _ _ (asInt? _ >>= _) _ _ _;refine j2 (Yp (a:=some ((i:Int) - 1+1)) rfl ?_);have f1:Builtin.List.listFitsIndex ((i:Int) - 1+1)=true:=by unfold Builtin.List.listFitsIndex;simp;omega
 have f2:¬((i:Int) - 1+1)<0:=by omega
 have f3:Builtin.List.listTooLong ((i:Int) - 1+1).toNat=false:=by unfold Builtin.List.listTooLong;simp;omega
 dsimp only;rw[if_neg (by rw[f1];decide),if_neg f2,if_neg (by rw[f3];decide)]
 exact TH (hQ _ _ (by show s.toks<=s.toks+1+1+1;omega))
theorem Walks.rv(hh:A.handled=none)(I l:Addr)(hne:l≠I)(items:Array Value)(uo:(items.size:Int)<2 ^ 63) :
  Walks prog w A I [I,l] [I] items.size (fun i v=>items[items.size - 1 - i]? = some v) (fun i h=>i<=items.size/\BF h I l (((items.size - i:Nat):Int) - 1)/\h.IsTuple l items) where
 sub:=fun b hb=>by simp at hb;simp[hb]
 frame:=fun _ _ _ x hk=>⟨x.1,hk I (by simp) _ x.2.1,let⟨o,ho,r⟩:=x.2.2;⟨o,hk l (by simp) o ho,r⟩⟩
 item:=fun i s Q E hi x hQ=>by
  have e:((items.size - i:Nat):Int) - 1 =((items.size - 1 - i:Nat):Int):=by omega
  have hit:=x.2.1;rw[e]at hit;have hx:items[items.size - 1 - i]? = some (items[items.size - 1 - i]'(by omega)):=Array.getElem?_eq_getElem (by omega)
  refine KJ uo hit x.2.2 hx fun h' TY hs'=>?_
  have e2:((items.size - 1 - i:Nat):Int) - 1 =((items.size - (i+1):Nat):Int) - 1:=by omega
  rw[e2]at TY;exact hQ _ h' _ hx ⟨hi,TY,let⟨o,ho,r⟩:=x.2.2;⟨o,hs'.extBut _ _ hne ho,r⟩⟩ fun b o hb eo=>hs'.extBut b o (fun h=>hb (by simp[h])) eo
 done:=fun s Q E x hQ=>by
  have hit:=x.2.1;rw[Ze]at hit;exact OE hh hit fun h' he'=>hQ h' s.toks fun b o hb eo=>he' b o (fun h=>hb (by simp[h])) eo
 self:=fun _ _ _ _ x hQ=>KH x.2.1 hQ
theorem zc{R:Result->Shared->Prop}{I:Addr}{fp wr:List Addr}{n:Nat}{P:Nat->Value->Prop}{St:Nat->Heap->Prop}{ty:String}(W:Walks prog w A.in1 I fp wr n P St)(hT:∀ i (s:Shared),St i s.heap->s.TypeIs (.ref I) ty)
  (ht1:(Value.type ty == .type "list" || Value.type ty == .type "tuple")=false) (ht2:∀ x ∈ ["set","frozenset","dict","dict_keys","dict_values","dict_items"],(Value.type ty == .type x)=false)
  (hint:∀(s:Shared)(Q:Bool->Shared->Prop)(E:Value->Shared->Prop),St 0 s.heap ->(∀ b tk,s.toks<=tk->Q b { s with toks:=tk })->wpAny (model prog w) A.in1 (Builtin.List.listLengthHint (.ref I)) Q E s)
  (S:Addr) (res:Value) (c₀:Nat) (hst:St 0 s.heap) (hSf:S ∉ fp) (hI:I∈fp) (hS:s.heap.get? S=some { cls:=.type "list",data:=.seq #[] c₀ })
  (hR:∀ s' dF c',Moved (S::wr) (fun g g'=>g'=g) s s'->s'.heap.get? S=some { cls:=.type "list",dict:=none,data:=.seq dF c',slots:=#[] }->ItemsOf P dF n->R (.ok (.ret res)) s') (hn:n<=WT) :
  wpAny (model prog w) A.in1 (Builtin.List.listExtendWith (.ref S) (.ref I) res)
   (fun fin s'=>match fin with | .done f=>R (.ok f) s' | .again c'=>c'.quiet=true/\codeAny (model prog w) A c' R s') (fun e s'=>R (.error e) s') s:=by
 have hSI:S≠I:=fun e=>hSf (e▸hI)
 have h1:Builtin.List.listSameRef (.ref S) (.ref I)=false:=by simp[Builtin.List.listSameRef,hSI]
 unfold Builtin.List.listExtendWith;refine j2 (Yg (hT 0 _ hst) ?_);rw[if_neg (by rw[Bool.or_assoc,h1,ht1];decide)]
 refine j2 (W.self 0 _ _ _ hst ?_);refine j2 (XJ (hint _ _ _ hst fun b tk htk=>?_))
 have tail:∀(h':Heap)(tk':Nat)(c:Nat),s.toks<=tk' ->(∀ b o,b≠S->s.heap.get? b=some o->h'.get? b=some o)->h'.get? S=some { cls:=.type "list",dict:=none,data:=.seq #[] c,slots:=#[] } ->
   wpAny (model prog w) A.in1 (again (.builtin "list.extend.loop" ⟨[.ref S,.ref I,res],[]⟩)) (fun fin s'=>match fin with | .done f=>R (.ok f) s' | .again c'=>c'.quiet=true/\codeAny (model prog w) A c' R s') (fun e s'=>R (.error e) s') { s with heap:=h',toks:=tk' }:=by
  intro h' tk' c ht hk hS';refine TH ⟨Yt F.plain_extend_loop _,codeAny_extend_loopS W.toS hn _ hSf _ n 0 _ _ _ rfl (XU _) (W.frame 0 s.heap _ hst fun b hb o e=>hk b o (fun z=>hSf (z▸hb)) e) hS' (ItemsOf.nil P) fun s' dF c' hm MA mU=>hR s' dF c' ?_ MA mU⟩
  exact⟨fun b o hb e=>hm.heap b o hb (hk b o (fun z=>hb (by rw[z];exact j5)) e),hm.gens,hm.drawn,hm.os,Xw ht hm.toks⟩
 cases b with
 | false =>
  dsimp only;rw[if_neg ?_]
  ·exact tail _ _ _ htk (fun _ _ _ e=>e) hS
  ·intro z;rw[YT,YB]at z;obtain⟨x,hx,hz⟩:=z;rw[ht2 x hx]at hz;cases hz
 | true =>
  dsimp only;rw[if_pos (by rw[ZH])]
  refine j2 (Yu ?_);refine j2 ?_;show wpAny _ A.in1 (updateSeq S (·.push .none) >>= fun _=>updateSeq S (·.pop)) _ _ _
  refine j2 (Yj hS rfl ?_);have hS2:=XR (Yr (·.push Value.none)) hS rfl;refine Yj (hz:=by seq_fits) hS2 rfl ?_
  have hS3:=XR (Yr (·.pop)) hS2 rfl;exact tail _ _ _ htk (fun b o hb e=>(Xx _ _ (Ne.symm hb)).trans ((Xx _ _ (Ne.symm hb)).trans e)) hS3
theorem sZ{Q:Value->Shared->Prop}{I:Addr}{fp wr:List Addr}{n:Nat}{P:Nat->Value->Prop}{St:Nat->Heap->Prop}{ty:String}(W:Walks prog w A.in1.in1 I fp wr n P St)(hT:∀ i (s:Shared),St i s.heap->s.TypeIs (.ref I) ty)
  (ht1:(Value.type ty == .type "list" || Value.type ty == .type "tuple")=false) (ht2:∀ x ∈ ["set","frozenset","dict","dict_keys","dict_values","dict_items"],(Value.type ty == .type x)=false)
  (hint:∀(s:Shared)(Q:Bool->Shared->Prop)(E:Value->Shared->Prop),St 0 s.heap ->(∀ b tk,s.toks<=tk->Q b { s with toks:=tk })->wpAny (model prog w) A.in1.in1 (Builtin.List.listLengthHint (.ref I)) Q E s)
  (hst:St 0 s.heap) (hfp:∀ b∈fp,b<s.heap.objs.size) (hI:I∈fp)
  (hQ:∀ s' dF c',Moved (s.heap.objs.size::wr) (fun g g'=>g'=g) { s with heap:=s.heap.push { cls:=.type "list",data:=.seq #[] } } s' ->
   s'.heap.get? s.heap.objs.size=some { cls:=.type "list",dict:=none,data:=.seq dF c',slots:=#[] }->ItemsOf P dF n->Q (.ref s.heap.objs.size) s') (hn:n<=WT) :
  wpAny (model prog w) A (call (.type "list") [.ref I]) Q E s:=by
 have hSf:s.heap.objs.size ∉ fp:=fun hm=>Yq _ (hfp _ hm)
 refine callType_codes (Q₁:=fun obj s₁=>obj = .ref s.heap.objs.size/\s₁ ={ s with heap:=s.heap.push { cls:=.type "list",data:=.seq #[] } }) F.called_list (F.typeCall_list_1 _) F.entry_list_init (code_list_new _ ⟨rfl,rfl⟩) fun obj s₁ h₁=>?_
 obtain⟨rfl,rfl⟩:=h₁;have hS:(s.heap.push { cls:=.type "list",data:=.seq #[] }).get? s.heap.objs.size=some { cls:=.type "list",data:=.seq #[] }:=W8 _ rfl;refine⟨⟨_,hS,rfl⟩,F.args_list_init_2 _ _,?_⟩;show wpAny _ _ (do let old <- Builtin.List.listItems (.ref s.heap.objs.size);Builtin.List.listUpdate (.ref s.heap.objs.size) (fun _=>#[]);letGo old.toList.reverse;Builtin.List.listExtendWith (.ref s.heap.objs.size) (.ref I) .none) _ _ _
 refine j2 ?_;unfold Builtin.List.listItems;refine j2 (wpAny_seqItems hS rfl (TH ?_));show wpAny _ _ (updateSeq s.heap.objs.size (fun _=>#[]) >>= fun _=>letGo (#[]:Array Value).toList.reverse >>= fun _=>Builtin.List.listExtendWith (.ref s.heap.objs.size) (.ref I) .none) _ _ _
 refine j2 (Yj hS rfl ?_);have hS2:=XR (Yr (fun _=>(#[]:Array Value))) hS rfl
 have oth:∀ b o,b≠s.heap.objs.size ->(s.heap.push { cls:=.type "list",data:=.seq #[] }).get? b=some o ->((s.heap.push { cls:=.type "list",data:=.seq #[] }).update s.heap.objs.size (Yr (fun _=>(#[]:Array Value)))).get? b=some o :=
  fun b o hb e=>(Xx _ _ (Ne.symm hb)).trans e
 refine j2 (wpAny_letGo ?_);refine zc (hn:=hn) W hT ht1 ht2 hint s.heap.objs.size .none _ (W.frame 0 s.heap _ hst fun b hb o e=>oth b o (fun z=>hSf (z▸hb)) (j3 _ e)) hSf hI hS2 fun s' dF c' hm hS' mU=>?_
 exact⟨rfl,hQ s' dF c' ⟨fun b o hb e=>hm.heap b o hb (oth b o (fun z=>hb (by rw[z];exact j5)) e),hm.gens,hm.drawn,hm.os,hm.toks⟩ hS' mU⟩
end
end PySem
namespace L2
open PySem PySem.Spec PyProof.Rows
def oG(K:W.Frag)(te:TE):TE:=fun σ H Q=>te σ H fun x H1=>∃ l ys,x = .ref l/\SqT K H1 l ys/\∀ q,H1 q=none->Q (.ref q) (upd H1 q (.lst ys.reverse))
variable{X:Cx}{e:Expr}{te:TE}
theorem yM{p1 p2 b7 pos:Pos}(hc:X.calm=true)(hg1:Gl X "list")(hm1:X.mg "list" = none)(hg2:Gl X "reversed")(hm2:X.mg "reversed" = none)(he:PE X e te)
  (hs1:QX [e] X.env = [(false,eval e X.env)]:=by rfl) (hs2:QX [.Call (.Name "reversed" p2) [e] [] b7] X.env = [(false,eval (.Call (.Name "reversed" p2) [e] [] b7) X.env)]:=by rfl) :
  PE X (.Call (.Name "list" p1) [.Call (.Name "reversed" p2) [e] [] b7] [] pos) (oG X.K te):=by
 intro j0 s σ H Q I h;refine XQ (fO I hg1 hm1 boot_list ?_);refine PyProof.Rows.callWith_type1 ?_ hs2 rfl;rw[hs2];show wpAny _ _ (spliced ((false,eval (.Call (.Name "reversed" p2) [e] [] b7) X.env)::backTo pos (QX [] X.env))) _ _ s;refine Calls.spliced_cons ?_;refine XQ (fO I hg2 hm2 boot_reversed ?_);refine PyProof.Rows.callWith_type1 ?_ hs1 rfl;rw[hs1];show wpAny _ _ (spliced ((false,eval e X.env)::backTo b7 (QX [] X.env))) _ _ s;refine Calls.spliced_cons (thn (he j0 s σ H _ I h) fun u s1 hPP=>?_)
 obtain⟨x,H1,I1,r1,l,ys,ex,hl,q⟩:=hPP;subst ex;cases r1;refine Calls.spliced_nil ?_;obtain⟨its,rv,pl,hz⟩:=I1.tuple hl;have pl:s1.heap.IsTuple l its.toArray:=pl;have hlen:=rv.length;have h63:=jH;have uo:(its.toArray.size:Int)<2 ^ 63:=by rw[Wc];omega
 have hlt:l<s1.heap.objs.size:=by obtain⟨_,e,_⟩:=id pl;exact Xe e
 refine KN uo pl (Calls.spliced_nil ?_);have W:=Walks.rv (prog:=X.prog) (w:=X.w) (A:=X.A.in1.in1) (show X.A.in1.in1.handled=none from I.ok.hd hc) s1.heap.objs.size l (Xo hlt) its.toArray uo;refine sZ (s:={ s1 with heap:=s1.heap.push (BZ l ((its.toArray.size:Int) - 1)),toks:=s1.toks+1+1 }) W (fun i s' st=>⟨_,st.2.1,rfl⟩) (by decide) (by decide)
  (fun s' Q' E' st hq=>KL (i:=its.toArray.size) (by rw[Wc];omega) uo (Xa _) (by simpa using st.2.1) st.2.2 hq)
  ⟨XU _,by rw[Nat.sub_zero];exact W8 _ rfl,let⟨o,ho,r⟩:=pl;⟨o,j3 _ ho,r⟩⟩ (fun b hb=>?_) (by simp) (fun s' dF c' hm hS' mU=>?_) ?_
 ·show b<(s1.heap.push _).objs.size;rw[Xq];rcases QH.mp hb with z|z
  ·rw[z];exact XE _
  ·rw[qr.mp z];exact XS hlt
 ·rw[Moved.eq_with hm];have kp:∀ b o,s1.heap.get? b=some o->s'.heap.get? b=some o:=fun b o e=>hm.heap b o (fun z=>by
   have hb:@LT.lt Nat _ b s1.heap.objs.size:=Xe e;rcases QH.mp z with z|z
   ·rw[z]at hb;simp only[Xq]at hb;omega
   ·rw[qr.mp z]at hb;omega) (j3 _ (j3 _ e))
  have hv:Vals ys.reverse dF.toList:=yc (its:=its.toArray) (by simpa using rv) mU
  have hf:H1 ((s1.heap.push (BZ l ((its.toArray.size:Int) - 1))).objs.size)=none:=I1.hok.fresh (by rw[Xq];omega)
  refine⟨.ref _,_,I1.laid (t':=s'.toks) (h':=s'.heap) (o:=.lst ys.reverse) kp (by rw[Xq];omega) ⟨by rw[YW];exact hz,dF.toList,c',hv,by simpa using hS'⟩,rfl,q _ hf⟩
 ·rw[Wc];omega
section
variable{j0:List (Addr×Obj)}{σ:St}{H:Hp}{s:Shared}{a:Addr}{u u':HO}
theorem Inv.NA(I:Inv X j0 σ H s)(ha:H a=some u)(h1:∀ xs,u ≠ .tup xs)(h2:∀ c,u ≠ .own c)(h3:∀ ps,u ≠ .tbl ps)(hz:∀ o v,X.H₀ a≠some (.frz o v))(new:bH X.prog X.w (upd H a u') s.heap a u'):Inv X j0 σ (upd H a u') s:=by
 have ne:∀{b:Addr},H b=none->b≠a:=fun{b} e z=>by rw[z,ha]at e;cases e
 refine⟨I.ok,I.os,I.bare,⟨I.base.keep,I.base.slot,fun b o e n hx=>?_,I.base.there,fun b xs e=>?_,fun b o v e=>?_,fun b ps e=>?_⟩,I.loc,I.cell,?_,fun x c e=>?_,fun p hp=>?_,fun b o e=>?_,I.len⟩
 ·have:=I.base.free b o e n hx
  rw[ai (ne this)];exact this
 ·have:=I.base.qO b xs e
  rw[ai fun z=>by rw[z,ha]at this;exact h1 xs (Option.some.inj this)]
  exact this
 ·have:=I.base.n8 b o v e
  rw[ai fun z=>by rw[z]at e;exact hz o v e]
  exact this
 ·obtain⟨more,this⟩:=I.base.qP b ps e;refine⟨more,?_⟩;rw[ai fun z=>by rw[z,ha]at this;exact h3 _ (Option.some.inj this)]
  exact this
 ·rw[ai (ne I.free)];exact I.free
 ·rw[ai (ne (I.gW x c e))];exact I.gW x c e
 ·obtain⟨p1,p2,p3⟩:=I.pin p hp;exact⟨p1,by rw[ai (ne p2)];exact p2,p3⟩
 ·by_cases hb:b=a
  ·subst hb;rw[aw]at e;cases e;exact new
  ·rw[ai hb]at e;refine(I.hok b o e).b6 (fun _ _ _ q=>q) (fun c q=>?_) fun c xs q=>?_
   ·rw[ai fun z=>by rw[z,ha]at q;exact h2 _ (Option.some.inj q)];exact q
   ·rw[ai fun z=>by rw[z,ha]at q;exact h1 _ (Option.some.inj q)];exact q
theorem Inv.freeze{kvs:List (Key×V)}(I:Inv X j0 σ H s)(ha:H a=some (.dK kvs)):(∀ o v,X.H₀ a≠some (.frz o v))/\∃ o,Inv X j0 σ (upd H a (.frz o (.dK kvs))) s:=by
 have hz:∀ o v,X.H₀ a≠some (.frz o v):=fun o v e=>by
  have:=I.base.n8 a o v e
  rw[ha]at this;cases this
 obtain⟨z,hs,vs,r,o,es,ep,e,c⟩:=(show bH X.prog X.w H s.heap a (.dK kvs)from I.hok a _ ha);exact⟨hz,o,I.NA ha (fun _ z=>nomatch z) (fun _ z=>nomatch z) (fun _ z=>nomatch z) hz ⟨e,z,hs,vs,r,o,es,ep,e,c⟩⟩
end
end L2
namespace PySem
open Sem (wp)
end PySem
namespace PySem
open Sem (wp)
open Builtin Builtin.ObjectAttr
section
variable{M:Model}{prog:Program}{w:World}{A:Around}{E:Value->Shared->Prop}{h:Heap}{g:Array GenState}{d:Drawn}{t:Nat}{os:OsState}
variable{nm q:Str}{C N x:Addr}{bs bm bmB:List Value}{sn:List Str}{sub:List Value}{ab P7:Bool}{col:Option Bool}{dd:Option Addr}{k0 k1 k2 k3 k5:Option Value}{B newId sa owner:String}
 {mN mA:Str->Option Value} {name:Str} {v:Value} {S:List Str}
end
end PySem
namespace PySem
open Sem (wp)
open Builtin Builtin.ObjectAttr
section
variable{prog:Program}{w:World}{A:Around}{E:Value->Shared->Prop}{h:Heap}{g:Array GenState}{d:Drawn}{t:Nat}{os:OsState}
variable{nm q:Str}{C N x:Addr}{bs bm bmB:List Value}{sn:List Str}{sub:List Value}{ab P7:Bool}{col:Option Bool}{dd:Option Addr}{k0 k1 k2 k3 k5:Option Value}{B newId:String}
 {mN mA:Str->Option Value} {name:Str} {v:Value} {S:List Str} {o:Obj}
end
end PySem
namespace PySem
open Sem (wp)
def Qw(h:Heap)(e:Addr)(cls:Value)(dx:Option Addr)(y:Value):Prop :=
 ∃ o vs a0,h.get? e=some o/\o.cls=cls/\o.dict=dx/\o.data = .fields vs/\vs[0]? = some a0/\vs[1]? = some y
end PySem
namespace L2
open PySem PySem.Spec PyProof.Rows
theorem any_some{α:Type}{o:Option α}{f:α->Bool}(h:o.any f=true):∃ a,o=some a/\f a=true:=by
 cases o with
 | none=>cases h
 | some a=>exact⟨a,rfl,h⟩
def XAt(a C:Addr)(dx:Option Addr)(b:Bool)(h:Heap):Prop:=∃ y,Qw h a (.ref C) dx y/\(b=true->y = .none)
def XD(dx:Addr)(fs:List (Str×V))(h:Heap):Prop:=∃ mA,h.Ns1 dx mA/\(∀ f,j7 (fs.lookup f) (mA f))/\PySem.Within mA (fs.map (·.1))
def ExH(H:Hp)(a C:Addr)(b:Bool)(fs:List (Str×V)):Prop:=(fs = []/\H a=some (.ext (XAt a C none b)))\/∃ dx,dx≠a/\H a=some (.ext (XAt a C (some dx) b))/\H dx=some (.ext (XD dx fs))
section
variable{P:Program}{w:World}{H H':Hp}{h h':Heap}{a C d:Addr}{dx:Option Addr}{b:Bool}{fs:List (Str×V)}
theorem XD.ok(x:XD d fs h):bH P w H h d (.ext (XD d fs)):=by
 refine⟨x,?_,fun h1 h2 ⟨mA,⟨o,es,ep,e,r⟩,z⟩ k=>⟨mA,⟨o,es,ep,k o e,r⟩,z⟩⟩
 obtain⟨mA,⟨o,es,ep,e,r⟩,z⟩:=x;exact⟨o,e⟩
end
end L2
namespace PySem
open Sem (wp)
end PySem
namespace L2
open PySem PySem.Spec PyProof.Rows
theorem len0{P:List Value->Prop}(h:P [])(us:List Value)(e:us.length=0):P us:=by rw[Yx.mp e];exact h
theorem Tw{P:List Value->Prop}(h:∀ a,P [a])(us:List Value)(e:us.length=1):P us:=by
 cases us with
 | nil=>cases e
 | cons a r=>exact len0 (P:=fun r=>P (a::r)) (h a) r (Nat.succ.inj e)
theorem Tv{P:List Value->Prop}(h:∀ a b,P [a,b])(us:List Value)(e:us.length=2):P us:=by
 cases us with
 | nil=>cases e
 | cons a r=>exact Tw (P:=fun r=>P (a::r)) (h a) r (Nat.succ.inj e)
theorem Tt{P:List Value->Prop}(h:∀ a b c,P [a,b,c])(us:List Value)(e:us.length=3):P us:=by
 cases us with
 | nil=>cases e
 | cons a r=>exact Tv (P:=fun r=>P (a::r)) (h a) r (Nat.succ.inj e)
theorem Ts{P:List Value->Prop}(h:∀ a b c d,P [a,b,c,d])(us:List Value)(e:us.length=4):P us:=by
 cases us with
 | nil=>cases e
 | cons a r=>exact Tt (P:=fun r=>P (a::r)) (h a) r (Nat.succ.inj e)
theorem V7{P:List Value->Prop}(h:∀ a b c d e,P [a,b,c,d,e])(us:List Value)(e:us.length=5):P us:=by
 cases us with
 | nil=>cases e
 | cons a r=>exact Ts (P:=fun r=>P (a::r)) (h a) r (Nat.succ.inj e)
inductive T where
 | n|b (x:Bool)|i (x:Int)|s (x:Str)|t (xs:List T)|l (xs:List T)|d (ks:List (Key×T))|og|z (ns:List Int)|ty (x:String)|k (ws:List Str)|q|fd (o:Obj) (vs:List (Key×V)) (ks:List (Key×T))|xc (C:Addr) (ns:List Str) (ts:List T)|rm (u:Int)|ob (C:Addr) (ns:List Str) (ts:List T)|dp (a:Addr) (ks:List (Key×T))|lp (a:Addr) (xs:List T)|zl (xs:List T)|rf (a:Addr)|om (a C:Addr) (ns:List Str) (ts:List T)
abbrev Dl:=List (Addr×Addr)
def FzL(K:W.Frag)(H:Hp)(a:Addr)(xs:List V):Prop:=(∃ o,H a=some (.frz o (.lst xs))) \/
  ∃(o:Obj)(its:Array Value)(n:Nat),K.lookup a=some o/\o.cls = .type "list" /\ o.dict=none/\o.data = .seq its n/\its.size<=WT/\Vals xs its.toList
variable{H:Hp}{a:Addr}{xs:List V}
theorem FzL.sq{K:W.Frag}(h:FzL K H a xs):SqL K H a xs:=by
 rcases h with h|h
 ·exact .inl (.inr h)
 ·exact .inr h
def uF(a C dx:Addr)(h:Heap):Prop:=h.get? a=some (W.instObj C dx)
def ObH(H:Hp)(a C:Addr)(fs:List (Str×V)):Prop:=∃ dx,dx≠a/\H a=some (.ext (uF a C dx))/\H dx=some (.ext (XD dx fs))
mutual
inductive ax(K:W.Frag)(dl:Dl)(H:Hp):V->T->List Addr->Prop where
 | n:ax K dl H .non .n []
 | b(x:Bool):ax K dl H (.bl x) (.b x) []
 | i(x:Int):ax K dl H (.int x) (.i x) []
 | s(x:Str):ax K dl H (.str x) (.s x) []
 | ty(x:String):ax K dl H (.ty x) (.ty x) []
 | t{a:Addr}{vs:List V}{ts:List T}{F:List Addr}:H a=some (.tup vs)->ak K dl H vs ts F->ax K dl H (.ref a) (.t ts) F
 | l{a:Addr}{vs:List V}{ts:List T}{F:List Addr}:H a=some (.lst vs)->ak K dl H vs ts F->ax K dl H (.ref a) (.l ts) (a::F)
 | d{a:Addr}{vs:List (Key×V)}{ts:List (Key×T)}{F:List Addr}:H a=some (.dK vs)->aG K dl H vs ts F->ax K dl H (.ref a) (.d ts) (a::F)
 | x{a l:Addr}:(a,l)∈dl->ax K dl H (.ref a) .og []
 | z{a:Addr}{ns:List Int}:FzL K H a (ns.map V.int)->ax K dl H (.ref a) (.z ns) []
 | q{a:Addr}{xs:List V}:H a=some (.lst xs)->ax K dl H (.ref a) .q []
 | fd{a:Addr}{o:Obj}{vs:List (Key×V)}{ts:List (Key×T)}:H a=some (.frz o (.dK vs))->aG K dl H vs ts []->ax K dl H (.ref a) (.fd o vs ts) []
 | k{a:Addr}{ws:List Str}:(∀ H':Hp,SqT K H' a (ws.map V.str))->ax K dl H (.ref a) (.k ws) []
 | e{a C:Addr}{b:Bool}{ns:List Str}{vs:List V}{ts:List T}:ExH H a C b (ns.zip vs)->ak K dl H vs ts []->ax K dl H (.ref a) (.xc C ns ts) []
 | rm{a:Addr}{x u:Int}:H a=some (.room x)->x<=u->ax K dl H (.ref a) (.rm u) []
 | ob{a C:Addr}{ns:List Str}{vs:List V}{ts:List T}:ObH H a C (ns.zip vs)->ak K dl H vs ts []->ax K dl H (.ref a) (.ob C ns ts) []
 | dp{a:Addr}{vs:List (Key×V)}{ts:List (Key×T)}{F:List Addr}:H a=some (.dK vs)->aG K dl H vs ts F->ax K dl H (.ref a) (.dp a ts) (a::F)
 | lp{a:Addr}{vs:List V}{ts:List T}{F:List Addr}:H a=some (.lst vs)->ak K dl H vs ts F->ax K dl H (.ref a) (.lp a ts) (a::F)
 | zl{a:Addr}{o:Obj}{vs:List V}{ts:List T}:H a=some (.frz o (.lst vs))->ak K dl H vs ts []->ax K dl H (.ref a) (.zl ts) []
 | rf(a:Addr):ax K dl H (.ref a) (.rf a) []
 | om{a C dx:Addr}{ns:List Str}{vs:List V}{ts:List T}{F:List Addr}:H a=some (.ins C dx (ns.zip vs))->H dx=some (.own a)->ns.length=ts.length->ak K dl H vs ts F->ax K dl H (.ref a) (.om a C ns ts) (a::dx::F)
inductive ak(K:W.Frag)(dl:Dl)(H:Hp):List V->List T->List Addr->Prop where
 | nil:ak K dl H [] [] []
 | cons{v:V}{x:T}{vs:List V}{ts:List T}{F G:List Addr}:ax K dl H v x F->ak K dl H vs ts G->ak K dl H (v::vs) (x::ts) (F++G)
inductive aG(K:W.Frag)(dl:Dl)(H:Hp):List (Key×V)->List (Key×T)->List Addr->Prop where
 | nil:aG K dl H [] [] []
 | cons{k:Key}{v:V}{x:T}{vs:List (Key×V)}{ts:List (Key×T)}{F G:List Addr}:ax K dl H v x F->aG K dl H vs ts G->aG K dl H ((k,v)::vs) ((k,x)::ts) (F++G)
end
def HO.mt:HO->Bool
 | .lst _=>true
 | .dK _=>true
 | .ins _ _ _=>true
 | .own _=>true
 | _=>false
def cI(H:Hp)(b:Addr):Prop:=∃ o,H b=some o/\o.mt=true
theorem cI.no{b:Addr}(h:cI H b)(e:H b=none):False:=by
 obtain⟨_,h,_⟩:=h;rw[e]at h;cases h
structure TF(H H':Hp):Prop where
 t:∀ a vs,H a=some (.tup vs)->H' a=some (.tup vs)
 f:∀ a o u,H a=some (.frz o u)->H' a=some (.frz o u)
 x:∀ a φ,H a=some (.ext φ)->H' a=some (.ext φ)
 q:∀ a xs,H a=some (.lst xs)->∃ ys,H' a=some (.lst ys)
 r:∀ a x,H a=some (.room x)->∃ y,y<=x/\H' a=some (.room y)
variable{H':Hp}{C:Addr}
theorem ObH.tf{fs:List (Str×V)}(h:ObH H a C fs)(k:TF H H'):ObH H' a C fs:=by
 obtain⟨d,h1,h2,h3⟩:=h;exact⟨d,h1,k.x _ _ h2,k.x _ _ h3⟩
theorem ExH.tf{b:Bool}{fs:List (Str×V)}(h:ExH H a C b fs)(k:TF H H'):ExH H' a C b fs:=by
 rcases h with⟨h1,h2⟩ |⟨d,h1,h2,h3⟩
 ·exact .inl ⟨h1,k.x _ _ h2⟩
 ·exact .inr ⟨d,h1,k.x _ _ h2,k.x _ _ h3⟩
theorem FzL.tf{K:W.Frag}{vs:List V}(h:FzL K H a vs)(k:TF H H'):FzL K H' a vs:=by
 rcases h with⟨o,h⟩|h
 ·exact .inl ⟨o,k.f _ _ _ h⟩
 ·exact .inr h
theorem bE{α:Type}{p:α->Prop}:∀ b∈([]:List α),p b:=fun _ h=>absurd h Xy
variable{dl':Dl}
theorem ax.b6{K:W.Frag}{dl:Dl}(k:TF H H')(hd:∀ p∈dl,p∈dl'){v:V}{t:T}{F:List Addr}(h:ax K dl H v t F):(∀ b∈F,∀ o,H b=some o->H' b=some o)->ax K dl' H' v t F :=
 ax.rec (motive_1:=fun v t F _=>(∀ b∈F,∀ o,H b=some o->H' b=some o)->ax K dl' H' v t F) (motive_2:=fun v t F _=>(∀ b∈F,∀ o,H b=some o->H' b=some o)->ak K dl' H' v t F) (motive_3:=fun v t F _=>(∀ b∈F,∀ o,H b=some o->H' b=some o)->aG K dl' H' v t F)
  (fun _=>.n) (fun x _=>.b x) (fun x _=>.i x) (fun x _=>.s x) (fun x _=>.ty x) (fun h _ ih q=>.t (k.t _ _ h) (ih q))
  (fun h _ ih q=>.l (q _ j5 _ h) (ih fun b hb=>q b (Es _ hb))) (fun h _ ih q=>.d (q _ j5 _ h) (ih fun b hb=>q b (Es _ hb)))
  (fun h _=>.x (hd _ h)) (fun h _=>.z (h.tf k)) (fun h _=>Exists.elim (k.q _ _ h) fun _ e=>.q e) (fun h _ ih _=>.fd (k.f _ _ _ h) (ih bE)) (fun h _=>.k h) (fun h _ ih _=>.e (h.tf k) (ih bE))
  (fun h hx _=>Exists.elim (k.r _ _ h) fun _ e=>.rm e.2 (X9 e.1 hx)) (fun h _ ih _=>.ob (h.tf k) (ih bE)) (fun h _ ih q=>.dp (q _ j5 _ h) (ih fun b hb=>q b (Es _ hb))) (fun h _ ih q=>.lp (q _ j5 _ h) (ih fun b hb=>q b (Es _ hb))) (fun h _ ih _=>.zl (k.f _ _ _ h) (ih bE)) (fun a _=>.rf a) (fun h1 h2 h3 _ ih q=>.om (q _ j5 _ h1) (q _ (Es _ j5) _ h2) h3 (ih fun b hb=>q b (Es _ (Es _ hb))))
  (fun _=>.nil) (fun _ _ i1 i2 q=>.cons (i1 fun b hb=>q b (Xf _ hb)) (i2 fun b hb=>q b (W7 _ hb)))
  (fun _=>.nil) (fun _ _ i1 i2 q=>.cons (i1 fun b hb=>q b (Xf _ hb)) (i2 fun b hb=>q b (W7 _ hb))) h
theorem ak.ind{K:W.Frag}{dl:Dl}{M:List V->List T->List Addr->Prop}(nil:M [] [] [])(cons:∀ v x vs ts F G,ax K dl H v x F->ak K dl H vs ts G->M vs ts G->M (v::vs) (x::ts) (F++G)){vs:List V}{ts:List T}{F:List Addr}(h:ak K dl H vs ts F):M vs ts F :=
 ak.rec (motive_1:=fun _ _ _ _=>True) (motive_2:=fun v t F _=>M v t F) (motive_3:=fun _ _ _ _=>True) trivial (fun _=>trivial) (fun _=>trivial) (fun _=>trivial) (fun _=>trivial) (fun _ _ _=>trivial) (fun _ _ _=>trivial) (fun _ _ _=>trivial)
  (fun _=>trivial) (fun _=>trivial) (fun _=>trivial) (fun _ _ _=>trivial) (fun _=>trivial) (fun _ _ _=>trivial) (fun _ _=>trivial) (fun _ _ _=>trivial) (fun _ _ _=>trivial) (fun _ _ _=>trivial) (fun _ _ _=>trivial) (fun _=>trivial) (fun _ _ _ _ _=>trivial) nil (fun h r _ ih=>cons _ _ _ _ _ _ h r ih) trivial (fun _ _ _ _=>trivial) h
theorem aG.ind{K:W.Frag}{dl:Dl}{M:List (Key×V)->List (Key×T)->List Addr->Prop}(nil:M [] [] [])(cons:∀ k v x vs ts F G,ax K dl H v x F->aG K dl H vs ts G->M vs ts G->M ((k,v)::vs) ((k,x)::ts) (F++G)){vs:List (Key×V)}{ts:List (Key×T)}{F:List Addr}(h:aG K dl H vs ts F):M vs ts F :=
 aG.rec (motive_1:=fun _ _ _ _=>True) (motive_2:=fun _ _ _ _=>True) (motive_3:=fun v t F _=>M v t F) trivial (fun _=>trivial) (fun _=>trivial) (fun _=>trivial) (fun _=>trivial) (fun _ _ _=>trivial) (fun _ _ _=>trivial) (fun _ _ _=>trivial)
  (fun _=>trivial) (fun _=>trivial) (fun _=>trivial) (fun _ _ _=>trivial) (fun _=>trivial) (fun _ _ _=>trivial) (fun _ _=>trivial) (fun _ _ _=>trivial) (fun _ _ _=>trivial) (fun _ _ _=>trivial) (fun _ _ _=>trivial) (fun _=>trivial) (fun _ _ _ _ _=>trivial) trivial (fun _ _ _ _=>trivial) nil (fun h r _ ih=>cons _ _ _ _ _ _ _ h r ih) h
theorem ak.b6{K:W.Frag}{dl dl':Dl}{H H':Hp}(k:TF H H')(hd:∀ p∈dl,p∈dl'){vs:List V}{ts:List T}{F:List Addr}(h:ak K dl H vs ts F):(∀ b∈F,∀ o,H b=some o->H' b=some o)->ak K dl' H' vs ts F :=
 h.ind (M:=fun vs ts F=>(∀ b∈F,∀ o,H b=some o->H' b=some o)->ak K dl' H' vs ts F) (fun _=>.nil) (fun _ _ _ _ _ _ h _ ih q=>.cons (h.b6 k hd fun b hb=>q b (Xf _ hb)) (ih fun b hb=>q b (W7 _ hb)))
theorem aG.b6{K:W.Frag}{dl dl':Dl}{H H':Hp}(k:TF H H')(hd:∀ p∈dl,p∈dl'){vs:List (Key×V)}{ts:List (Key×T)}{F:List Addr}(h:aG K dl H vs ts F):(∀ b∈F,∀ o,H b=some o->H' b=some o)->aG K dl' H' vs ts F :=
 h.ind (M:=fun vs ts F=>(∀ b∈F,∀ o,H b=some o->H' b=some o)->aG K dl' H' vs ts F) (fun _=>.nil) (fun _ _ _ _ _ _ _ h _ ih q=>.cons (h.b6 k hd fun b hb=>q b (Xf _ hb)) (ih fun b hb=>q b (W7 _ hb)))
variable{G:List Addr}
theorem oF{F:List Addr}(h:∀ b∈F,cI H b)(r:∀ b∈G,cI H b):∀ b∈F++G,cI H b:=fun b hb=>(Xj.mp hb).elim (h b) (r b)
theorem ax.there{K:W.Frag}{dl:Dl}{v:V}{t:T}{F:List Addr}(h:ax K dl H v t F):∀ b∈F,cI H b :=
 ax.rec (motive_1:=fun _ _ F _=>∀ b∈F,cI H b) (motive_2:=fun _ _ F _=>∀ b∈F,cI H b) (motive_3:=fun _ _ F _=>∀ b∈F,cI H b)
  bE (fun _=>bE) (fun _=>bE) (fun _=>bE) (fun _=>bE) (fun _ _ ih=>ih)
  (fun h _ ih b hb=>(QH.mp hb).elim (fun e=>by rw[e];exact⟨_,h,rfl⟩) (ih b)) (fun h _ ih b hb=>(QH.mp hb).elim (fun e=>by rw[e];exact⟨_,h,rfl⟩) (ih b))
  (fun _=>bE) (fun _=>bE) (fun _=>bE) (fun _ _ _=>bE) (fun _=>bE) (fun _ _ _=>bE)
  (fun _ _=>bE) (fun _ _ _=>bE) (fun h _ ih b hb=>(QH.mp hb).elim (fun e=>by rw[e];exact⟨_,h,rfl⟩) (ih b)) (fun h _ ih b hb=>(QH.mp hb).elim (fun e=>by rw[e];exact⟨_,h,rfl⟩) (ih b)) (fun _ _ _=>bE) (fun _=>bE) (fun h1 h2 _ _ ih b hb=>(QH.mp hb).elim (fun e=>by rw[e];exact⟨_,h1,rfl⟩) fun hb=>(QH.mp hb).elim (fun e=>by rw[e];exact⟨_,h2,rfl⟩) (ih b))
  bE (fun _ _ i1 i2=>oF i1 i2) bE (fun _ _ i1 i2=>oF i1 i2) h
theorem ak.there{K:W.Frag}{dl:Dl}{H:Hp}{vs:List V}{ts:List T}{F:List Addr}(h:ak K dl H vs ts F):∀ b∈F,cI H b:=h.ind (M:=fun _ _ F=>∀ b∈F,cI H b) bE (fun _ _ _ _ _ _ h _ ih=>oF h.there ih)
def Nd(dl:Dl)(b:Addr):Prop:=∀ p∈dl,b≠p.1/\b≠p.2
def Dls(dl:Dl)(H:Hp):Prop:=∀ p∈dl,oB H p.1 p.2
theorem Dls.nd{dl:Dl}(D:Dls dl H){b:Addr}{o:HO}(h:H b=some o)(h1:∀ xs,o ≠ .lst xs)(h2:∀ ks,o ≠ .dK ks):Nd dl b:=fun p hp=>by
 obtain⟨s,n,ls,Q⟩:=D p hp;exact⟨jS h Q.hd (h2 _),jS h Q.hl (h1 _)⟩
theorem Dls.nd0{dl:Dl}(D:Dls dl H){b:Addr}(h:H b=none):Nd dl b:=fun p hp=>by
 obtain⟨s,n,ls,Q⟩:=D p hp;exact⟨(aQ Q.hd h).symm,(aQ Q.hl h).symm⟩
def NR(o:HO):Prop:=∀ x,o ≠ .room x
structure Evo(dl:Dl)(H H':Hp):Prop where
 k:∀ b o,H b=some o->Nd dl b->NR o->H' b=some o
 d:Dls dl H'
 r:∀ a x,H a=some (.room x)->∃ y,y<=x/\H' a=some (.room y)
theorem NR.of{b:Addr}{o:HO}(h:cI H b)(e:H b=some o):NR o:=fun x z=>by
 obtain⟨_,h,m⟩:=h;rw[e,z]at h;cases h;cases m
theorem Evo.refl{dl:Dl}(D:Dls dl H):Evo dl H H:=⟨fun _ _ h _ _=>h,D,fun _ x h=>⟨x,X0 _,h⟩⟩
variable{H1:Hp}
theorem Evo.trans{dl:Dl}{H2:Hp}(a:Evo dl H H1)(b:Evo dl H1 H2):Evo dl H H2:=⟨fun c o h n r=>b.k c o (a.k c o h n r) n r,b.d,fun c x h=>let⟨y,hy,e⟩:=a.r c x h;let⟨z,hz,e'⟩:=b.r c y e;⟨z,X9 hz hy,e'⟩⟩
theorem Evo.tf{dl:Dl}(e:Evo dl H H')(D:Dls dl H):TF H H' :=
 ⟨fun a vs h=>e.k a _ h (D.nd h (fun _ z=>nomatch z) fun _ z=>nomatch z) (fun _ z=>nomatch z),fun a o u h=>e.k a _ h (D.nd h (fun _ z=>nomatch z) fun _ z=>nomatch z) (fun _ z=>nomatch z),fun a φ h=>e.k a _ h (D.nd h (fun _ z=>nomatch z) fun _ z=>nomatch z) (fun _ z=>nomatch z),fun a xs h=>(by
  by_cases hn:Nd dl a
  ·exact⟨xs,e.k a _ h hn (fun _ z=>nomatch z)⟩
  ·unfold Nd at hn;obtain⟨p,hp,z⟩:∃ p∈dl,¬(a≠p.1/\a≠p.2):=Classical.byContradiction fun c=>hn fun p hp=>Classical.byContradiction fun z=>c ⟨p,hp,z⟩
   obtain⟨s,n,ls,Q⟩:=D p hp;obtain⟨s',n',ls',Q'⟩:=e.d p hp;have h1:a≠p.1:=jS h Q.hd (fun z=>nomatch z)
   have h2:a=p.2:=Classical.byContradiction fun z'=>z ⟨h1,z'⟩
   exact⟨_,by rw[h2];exact Q'.hl⟩),e.r⟩
theorem Evo.new{dl:Dl}{p:Addr}{o:HO}(e:Evo dl H H1)(hp:H1 p=none):Evo dl H (upd H1 p o) :=
 ⟨fun c u h n r=>by rw[ai (aQ (e.k c u h n r) hp)];exact e.k c u h n r,fun q hq=>(e.d q hq).new hp,fun c x h=>let⟨y,hy,e'⟩:=e.r c x h;⟨y,hy,by rw[ai (aQ e' hp)];exact e'⟩⟩
theorem Evo.free{dl:Dl}(e:Evo dl H H'){p:Addr}(hp:H' p=none):H p=none:=by
 cases q:H p with
 | none=>rfl
 | some o =>
  by_cases hn:NR o
  ·rw[e.k p o q (e.d.nd0 hp) hn]at hp;cases hp
  ·obtain⟨x,hx⟩:∃ x,o = .room x:=Classical.byContradiction fun c=>hn fun x z=>c ⟨x,z⟩
   subst hx;obtain⟨y,_,e'⟩:=e.r p x q;rw[e']at hp;cases hp
structure Rp(K:W.Frag)(dl:Dl)(H:Hp)(v:V)(t:T)(F:List Addr):Prop where
 r:ax K dl H v t F
 n:∀ b∈F,Nd dl b
structure Rps(K:W.Frag)(dl:Dl)(H:Hp)(vs:List V)(ts:List T)(F:List Addr):Prop where
 r:ak K dl H vs ts F
 n:∀ b∈F,Nd dl b
theorem Rp.evo{K:W.Frag}{dl:Dl}{v:V}{t:T}{F:List Addr}(h:Rp K dl H v t F)(D:Dls dl H)(e:Evo dl H H'):Rp K dl H' v t F :=
 ⟨h.r.b6 (e.tf D) (fun _ q=>q) fun b hb o q=>e.k b o q (h.n b hb) (.of (h.r.there b hb) q),h.n⟩
theorem Rps.evo{K:W.Frag}{dl:Dl}{v:List V}{t:List T}{F:List Addr}(h:Rps K dl H v t F)(D:Dls dl H)(e:Evo dl H H'):Rps K dl H' v t F :=
 ⟨h.r.b6 (e.tf D) (fun _ q=>q) fun b hb o q=>e.k b o q (h.n b hb) (.of (h.r.there b hb) q),h.n⟩
inductive Sl where
 | no|o (t:T)|r (t:T)
abbrev Sq:=List Sl
def Sl.get:Sl->Option T
 | .no=>none
 | .o t=>some t
 | .r t=>some t
structure RdR(K:W.Frag)(dl:Dl)(H:Hp)(σ:St)(q:Sq):Prop where
 d:Dls dl H
 g:∀(i:Nat)(x:Sl)(t:T),q[i]? = some x->x.get=some t->∃ v F,σ[i]? = some (some v)/\Rp K dl H v t F
theorem RdR.evo{K:W.Frag}{dl:Dl}{H H':Hp}{σ:St}{q:Sq}(h:RdR K dl H σ q)(e:Evo dl H H'):RdR K dl H' σ q :=
 ⟨e.d,fun i x t h1 h2=>let⟨v,F,h3,h4⟩:=h.g i x t h1 h2;⟨v,F,h3,h4.evo h.d e⟩⟩
abbrev QE:=Sq ->(T->Prop)->Prop
abbrev QT:=Sq ->(Bool->Prop)->Prop
abbrev QA:=Sq ->(List T->Prop)->Prop
def j6(K:W.Frag)(te:TE)(tq:QE):Prop:=∀(dl:Dl)(H:Hp)(σ:St)(q:Sq)(Q:T->Prop)(R:V->Hp->Prop),RdR K dl H σ q->tq q Q ->
 (∀ v t F H',Evo dl H H'->Rp K dl H' v t F->Q t->R v H')->te σ H R
def m5(K:W.Frag)(te:TE)(tq:QE):Prop:=∀(dl:Dl)(H:Hp)(σ:St)(q:Sq)(Q:T->Prop)(R:V->Hp->Prop),RdR K dl H σ q->tq q Q ->
 (∀ v t F H',Evo dl H H'->Rp K dl H' v t F ->(∀ b∈F,H b=none)->F.Nodup->Q t->R v H')->te σ H R
def px(K:W.Frag)(te:TT)(tq:QT):Prop:=∀(dl:Dl)(H:Hp)(σ:St)(q:Sq)(Q:Bool->Prop)(R:Bool->Hp->Prop),RdR K dl H σ q->tq q Q ->
 (∀ b H',Evo dl H H'->Q b->R b H')->te σ H R
def BD(K:W.Frag)(n:Nat)(te:TA)(tq:QA):Prop:=∀(dl:Dl)(H:Hp)(σ:St)(q:Sq)(Q:List T->Prop)(R:List V->Hp->Prop),RdR K dl H σ q->tq q Q ->
 (∀ vs ts F H',Evo dl H H'->Rps K dl H' vs ts F->vs.length=n->Q ts->R vs H')->te σ H R
def UM(K:W.Frag)(n:Nat)(te:TA)(tq:QA):Prop:=∀(dl:Dl)(H:Hp)(σ:St)(q:Sq)(Q:List T->Prop)(R:List V->Hp->Prop),RdR K dl H σ q->tq q Q ->
 (∀ vs ts F H',Evo dl H H'->Rps K dl H' vs ts F->vs.length=n ->(∀ b∈F,H b=none)->F.Nodup->Q ts->R vs H')->te σ H R
structure QPE(X:Cx)(K:W.Frag)(e:Expr)(te:TE)(tq:QE):Prop where
 h:PE X e te
 s:j6 K te tq
structure QPF(X:Cx)(K:W.Frag)(e:Expr)(te:TE)(tq:QE):Prop where
 h:PE X e te
 s:m5 K te tq
structure QPT(X:Cx)(K:W.Frag)(e:Expr)(te:TT)(tq:QT):Prop where
 h:PT X e te
 s:px K te tq
structure QPW(X:Cx)(K:W.Frag)(e:Expr)(te:TT)(tq:QT):Prop where
 h:PW X e te
 s:px K te tq
structure QPA(X:Cx)(K:W.Frag)(es:List Expr)(te:TA)(tq:QA):Prop where
 h:PA X es te
 s:BD K es.length te tq
structure xR(X:Cx)(K:W.Frag)(es:List Expr)(te:TA)(tq:QA):Prop where
 h:PA X es te
 s:UM K es.length te tq
variable{x:Str}
section
variable{X:Cx}{K:W.Frag}{a b c e:Expr}{es rest:List Expr}{ta tb tc te:TE}{qa qb qc qe:QE}{tA tB:TT}{qA qB:QT}{tl:TA}{ql:QA}{pos:Pos}
theorem QPF.w(h:QPF X K e te qe):QPE X K e te qe:=⟨h.h,fun dl H σ q Q R rd hq k=>h.s dl H σ q Q R rd hq fun v t F H' e r _ _ z=>k v t F H' e r z⟩
mutual
def T.im:T->Bool
 | .t xs=>T.ims xs
 | .l _=>false
 | .d _=>false
 | .dp _ _=>false
 | .lp _ _=>false
 | .om _ _ _ _=>false
 | _=>true
def T.ims:List T->Bool
 | []=>true
 | x::r=>x.im&&T.ims r
end
theorem sP{F:List Addr}{x y:Bool}(h:x=true->F = [])(r:y=true->G = [])(q:(x&&y)=true):F++G = []:=by rw[h (Xi _ _▸q).1,r (Xi _ _▸q).2];rfl
theorem ax.im{dl:Dl}{H:Hp}{v:V}{t:T}{F:List Addr}(h:ax K dl H v t F):t.im=true->F = [] :=
 ax.rec (motive_1:=fun _ t F _=>t.im=true->F = []) (motive_2:=fun _ t F _=>T.ims t=true->F = []) (motive_3:=fun _ _ _ _=>True)
  (fun _=>rfl) (fun _ _=>rfl) (fun _ _=>rfl) (fun _ _=>rfl) (fun _ _=>rfl) (fun _ _ ih=>ih) (fun _ _ _ h=>absurd h Xd) (fun _ _ _ h=>absurd h Xd)
  (fun _ _=>rfl) (fun _ _=>rfl) (fun _ _=>rfl) (fun _ _ _ _=>rfl) (fun _ _=>rfl) (fun _ _ _ _=>rfl) (fun _ _ _=>rfl) (fun _ _ _ _=>rfl) (fun _ _ _ h=>absurd h Xd) (fun _ _ _ h=>absurd h Xd) (fun _ _ _ _=>rfl) (fun _ _=>rfl) (fun _ _ _ _ _ h=>absurd h Xd) (fun _=>rfl) (fun _ _ i1 i2=>sP i1 i2) trivial (fun _ _ _ _=>trivial) h
theorem ak.im{dl:Dl}{H:Hp}{v:List V}{t:List T}{F:List Addr}(h:ak K dl H v t F):T.ims t=true->F = []:=h.ind (M:=fun _ t F=>T.ims t=true->F = []) (fun _=>rfl) (fun _ _ _ _ _ _ h _ ih=>sP h.im ih)
def qIm(qe:QE):QE:=fun q Q=>qe q fun t=>t.im=true/\Q t
theorem QPE.f(h:QPE X K e te qe):QPF X K e te (qIm qe):=⟨h.h,fun dl H σ q Q R rd hq k=>h.s dl H σ q _ R rd hq fun v t F H' e r ⟨z1,z2⟩=>by
 have f:=r.r.im z1;subst f;exact k v t [] H' e r (fun _ z=>nomatch z) W2 z2⟩
def eC(i:Nat):QE:=fun q Q=>match q[i]? with
 | some (.o t)=>Q t
 | some (.r t)=>Q t
 | _=>False
theorem Kr(i:Nat):j6 K (cm i) (eC i):=by
 intro dl H σ q Q R rd hq k;unfold eC at hq
 split at hq
 ·rename_i t e;obtain⟨v,F,h1,h2⟩:=rd.g i _ t e rfl;exact⟨v,h1,k v t F H (.refl rd.d) h2 hq⟩
 ·rename_i t e;obtain⟨v,F,h1,h2⟩:=rd.g i _ t e rfl;exact⟨v,h1,k v t F H (.refl rd.d) h2 hq⟩
 ·exact hq.elim
theorem qv(i:Nat){pos:Pos}(hN:X.N[i]? = some x:=by rfl)(hv:Vis X.env.scope x:=by first|exact Or.inl rfl|exact Or.inr (Or.inl rfl)|exact Or.inr (Or.inr rfl))(hd:(x ==("__debug__":Str))=false:=by decide)
  (hcd:(x ==("__classdict__":Str))=false:=by decide):QPE X K (.Name x pos) (cm i) (eC i):=⟨wb hN hv hd hcd,Kr i⟩
def qC(t:T):QE:=fun _ Q=>Q t
theorem yj{v:V}{t:T}(h:∀ dl H,ax K dl H v t []):m5 K (tC v) (qC t):=fun dl H σ q Q R rd hq k=>k v t [] H (.refl rd.d) ⟨h dl H,fun _ z=>nomatch z⟩ (fun _ z=>nomatch z) W2 hq
theorem jl{i j pos}:QPF X K (.Constant (.int i) j pos) (tC (.int i)) (qC (.i i)):=⟨bu,yj fun _ _=>.i i⟩
theorem yD{b j pos}:QPF X K (.Constant (.bool b) j pos) (tC (.bl b)) (qC (.b b)):=⟨SV,yj fun _ _=>.b b⟩
theorem dJ{j pos}:QPF X K (.Constant .none j pos) (tC .non) (qC .n):=⟨Ph,yj fun _ _=>.n⟩
theorem ay{x j pos}:QPF X K (.Constant (.str x) j pos) (tC (.str x)) (qC (.s x)):=⟨dm,yj fun _ _=>.s x⟩
theorem yC{y:Int}(hg:Gl X x)(hm:∃ t,X.mg x=some (.int y t))(hd:(x ==("__debug__":Str))=false:=by decide):QPF X K (.Name x pos) (tC (.int y)) (qC (.i y)):=⟨Hy hg hm hd,yj fun _ _=>.i y⟩
theorem mF{dl:Dl}{H:Hp}:∀(ws:List Str),ak K dl H (ws.map V.str) (ws.map T.s) []
 | []=>.nil
 | w::r=>.cons (F:=[]) (.s w) (mF r)
theorem rB{dl:Dl}{H:Hp}:∀(ws:List Int),ak K dl H (ws.map V.int) (ws.map T.i) []
 | []=>.nil
 | w::r=>.cons (F:=[]) (.i w) (rB r)
abbrev Q2:=T->T ->(T->Prop)->Prop
def Na(K:W.Frag)(r:R2)(rq:Q2):Prop:=∀(dl:Dl)(H:Hp)(x y:V)(t u:T)(F G:List Addr)(Q:T->Prop)(R:V->Hp->Prop),Dls dl H->Rp K dl H x t F->Rp K dl H y u G->rq t u Q ->
 (∀ v z F' H',Evo dl H H'->Rp K dl H' v z F'->Q z->R v H')->r x y H R
def cN(K:W.Frag)(r:R2)(rq:Q2):Prop:=∀(dl:Dl)(H:Hp)(x y:V)(t u:T)(F G:List Addr)(Q:T->Prop)(R:V->Hp->Prop),Dls dl H->Rp K dl H x t F->Rp K dl H y u G->rq t u Q ->
 (∀ v z F' H',Evo dl H H'->Rp K dl H' v z F' ->(∀ b∈F',H b=none)->F'.Nodup->Q z->R v H')->r x y H R
variable{rq:Q2}
theorem cN.w{r:R2}(h:cN K r rq):Na K r rq:=fun dl H x y t u F G Q R d a b hq k=>h dl H x y t u F G Q R d a b hq fun v z F' H' e r _ _ z'=>k v z F' H' e r z'
def qOp(rq:Q2)(qa qb:QE):QE:=fun q Q=>qa q fun t=>qb q fun u=>rq t u Q
theorem z9{r:R2}(ho:Na K r rq)(ha:j6 K ta qa)(hb:j6 K tb qb):j6 K (tOp r ta tb) (qOp rq qa qb):=by
 intro dl H σ q Q R rd hq k;refine ha dl H σ q _ _ rd hq fun v t F H1 e1 r1 hq1=>?_
 refine hb dl H1 σ q _ _ (rd.evo e1) hq1 fun w u G H2 e2 r2 hq2=>?_
 exact ho dl H2 v w t u F G Q R e2.d (r1.evo e1.d e2) r2 hq2 fun v' z F' H3 e3 r3 hz=>k v' z F' H3 ((e1.trans e2).trans e3) r3 hz
theorem vD{r:R2}(ho:cN K r rq)(ha:j6 K ta qa)(hb:j6 K tb qb):m5 K (tOp r ta tb) (qOp rq qa qb):=by
 intro dl H σ q Q R rd hq k;refine ha dl H σ q _ _ rd hq fun v t F H1 e1 r1 hq1=>?_
 refine hb dl H1 σ q _ _ (rd.evo e1) hq1 fun w u G H2 e2 r2 hq2=>?_
 exact ho dl H2 v w t u F G Q R e2.d (r1.evo e1.d e2) r2 hq2 fun v' z F' H3 e3 r3 f3 n3 hz=>k v' z F' H3 ((e1.trans e2).trans e3) r3 (fun b hb=>(e1.trans e2).free (f3 b hb)) n3 hz
theorem mG{op:Operator}{r:R2}(ho:OpR X (binaryOp op) r)(hs:cN K r rq)(ha:QPE X K a ta qa)(hb:QPE X K b tb qb):QPF X K (.BinOp a op b pos) (tOp r ta tb) (qOp rq qa qb):=⟨cx ho ha.h hb.h,vD hs ha.s hb.s⟩
end
end L2
namespace L2
open PySem PySem.Spec PyProof.Rows
variable{x:Str}{C:Addr}{a:Addr}{ns:List Int}{ws:List Str}{G:List Addr}
section
variable{X:Cx}{K:W.Frag}{dl:Dl}{H:Hp}{v:V}{F:List Addr}
def UP(K:W.Frag)(dl:Dl)(H:Hp)(v:V)(F:List Addr):T->Prop
 | .n=>v = .non/\F = []
 | .b x=>v = .bl x/\F = []
 | .i x=>v = .int x/\F = []
 | .s x=>v = .str x/\F = []
 | .ty x=>v = .ty x
 | .t ts=>∃ a vs,v = .ref a/\H a=some (.tup vs)/\ak K dl H vs ts F
 | .l ts=>∃ a vs G,v = .ref a/\F=a::G/\H a=some (.lst vs)/\ak K dl H vs ts G
 | .d ts=>∃ a vs G,v = .ref a/\F=a::G/\H a=some (.dK vs)/\aG K dl H vs ts G
 | .og=>∃ a l,v = .ref a/\(a,l)∈dl/\F = []
 | .z ns=>∃ a,v = .ref a/\FzL K H a (ns.map V.int)/\F = []
 | .k ws=>∃ a,v = .ref a/\(∀ H',SqT K H' a (ws.map V.str))/\F = []
 | .xc C ns ts=>∃ a b vs,v = .ref a/\F = []/\ExH H a C b (ns.zip vs)/\ak K dl H vs ts []
 | .q=>True
 | .fd _ _ _=>True
 | .rm u=>∃ a x,v = .ref a/\H a=some (.room x)/\x<=u/\F = []
 | .ob C ns ts=>∃ a vs,v = .ref a/\F = []/\ObH H a C (ns.zip vs)/\ak K dl H vs ts []
 | .dp a ts=>∃ vs G,v = .ref a/\F=a::G/\H a=some (.dK vs)/\aG K dl H vs ts G
 | .lp a ts=>∃ vs G,v = .ref a/\F=a::G/\H a=some (.lst vs)/\ak K dl H vs ts G
 | .zl ts=>∃ a o vs,v = .ref a/\F = []/\H a=some (.frz o (.lst vs))/\ak K dl H vs ts []
 | .rf a=>v = .ref a/\F = []
 | .om a C ns ts=>∃ dx vs G,v = .ref a/\F=a::dx::G/\H a=some (.ins C dx (ns.zip vs))/\H dx=some (.own a)/\ns.length=ts.length/\ak K dl H vs ts G
theorem ax.inv{t:T}(h:ax K dl H v t F):UP K dl H v F t :=
 ax.rec (motive_1:=fun v t F _=>UP K dl H v F t) (motive_2:=fun _ _ _ _=>True) (motive_3:=fun _ _ _ _=>True) ⟨rfl,rfl⟩ (fun _=>⟨rfl,rfl⟩) (fun _=>⟨rfl,rfl⟩) (fun _=>⟨rfl,rfl⟩) (fun _=>rfl)
  (fun h r _=>⟨_,_,rfl,h,r⟩) (fun h r _=>⟨_,_,_,rfl,rfl,h,r⟩) (fun h r _=>⟨_,_,_,rfl,rfl,h,r⟩) (fun h=>⟨_,_,rfl,h,rfl⟩) (fun h=>⟨_,rfl,h,rfl⟩) (fun _=>trivial) (fun _ _ _=>trivial) (fun h=>⟨_,rfl,h,rfl⟩) (fun h r _=>⟨_,_,_,rfl,rfl,h,r⟩) (fun h hx=>⟨_,_,rfl,h,hx,rfl⟩) (fun h r _=>⟨_,_,rfl,rfl,h,r⟩) (fun h r _=>⟨_,_,rfl,rfl,h,r⟩) (fun h r _=>⟨_,_,rfl,rfl,h,r⟩) (fun h r _=>⟨_,_,_,rfl,rfl,h,r⟩) (fun _=>⟨rfl,rfl⟩) (fun h1 h2 h3 r _=>⟨_,_,_,rfl,rfl,h1,h2,h3,r⟩)
  trivial (fun _ _ _ _=>trivial) trivial (fun _ _ _ _=>trivial) h
theorem ax.int{x:Int}(h:ax K dl H v (.i x) F):v = .int x/\F = []:=h.inv
theorem ax.str(h:ax K dl H v (.s x) F):v = .str x/\F = []:=h.inv
theorem ax.bl{x:Bool}(h:ax K dl H v (.b x) F):v = .bl x/\F = []:=h.inv
theorem ax.non(h:ax K dl H v .n F):v = .non/\F = []:=h.inv
theorem ax.tup{ts:List T}(h:ax K dl H v (.t ts) F):∃ a vs,v = .ref a/\H a=some (.tup vs)/\ak K dl H vs ts F:=h.inv
theorem ax.lst{ts:List T}(h:ax K dl H v (.l ts) F):∃ a vs G,v = .ref a/\F=a::G/\H a=some (.lst vs)/\ak K dl H vs ts G:=h.inv
theorem ax.dic{ts:List (Key×T)}(h:ax K dl H v (.d ts) F):∃ a vs G,v = .ref a/\F=a::G/\H a=some (.dK vs)/\aG K dl H vs ts G:=h.inv
theorem ax.obj{ns:List Str}{ts:List T}(h:ax K dl H v (.ob C ns ts) F):∃ a vs,v = .ref a/\F = []/\ObH H a C (ns.zip vs)/\ak K dl H vs ts []:=h.inv
theorem ax.dpp{ts:List (Key×T)}(h:ax K dl H v (.dp a ts) F):∃ vs G,v = .ref a/\F=a::G/\H a=some (.dK vs)/\aG K dl H vs ts G:=h.inv
theorem ax.lpp{ts:List T}(h:ax K dl H v (.lp a ts) F):∃ vs G,v = .ref a/\F=a::G/\H a=some (.lst vs)/\ak K dl H vs ts G:=h.inv
theorem ax.zls{ts:List T}(h:ax K dl H v (.zl ts) F):∃ a o vs,v = .ref a/\F = []/\H a=some (.frz o (.lst vs))/\ak K dl H vs ts []:=h.inv
theorem ax.rff(h:ax K dl H v (.rf a) F):v = .ref a/\F = []:=h.inv
theorem ax.omm{ns:List Str}{ts:List T}(h:ax K dl H v (.om a C ns ts) F):∃ dx vs G,v = .ref a/\F=a::dx::G/\H a=some (.ins C dx (ns.zip vs))/\H dx=some (.own a)/\ns.length=ts.length/\ak K dl H vs ts G:=h.inv
theorem ax.dea(h:ax K dl H v .og F):∃ a l,v = .ref a/\(a,l)∈dl/\F = []:=h.inv
theorem ax.scr(h:ax K dl H v (.z ns) F):∃ a,v = .ref a/\FzL K H a (ns.map V.int)/\F = []:=h.inv
theorem ax.kst(h:ax K dl H v (.k ws) F):∃ a,v = .ref a/\(∀ H',SqT K H' a (ws.map V.str))/\F = []:=h.inv
theorem ak.len{vs:List V}{ts:List T}{F:List Addr}(h:ak K dl H vs ts F):vs.length=ts.length:=h.ind (M:=fun vs ts _=>vs.length=ts.length) rfl fun _ _ _ _ _ _ _ _ ih=>congrArg (· + 1) ih
theorem aG.len{vs:List (Key×V)}{ts:List (Key×T)}{F:List Addr}(h:aG K dl H vs ts F):vs.length=ts.length:=h.ind (M:=fun vs ts _=>vs.length=ts.length) rfl fun _ _ _ _ _ _ _ _ _ ih=>congrArg (· + 1) ih
theorem ak.Qa{vs:List V}{ts:List T}{F:List Addr}{i:Nat}{t:T}(h:ak K dl H vs ts F)(e:ts[i]? = some t):∃ v G,vs[i]? = some v/\ax K dl H v t G/\G.Sublist F :=
 h.ind (M:=fun vs ts F=>∀(i:Nat)(t:T),ts[i]? = some t->∃ v G,vs[i]? = some v/\ax K dl H v t G/\G.Sublist F) (fun _ _ e=>nomatch e) (fun v x vs ts F G h _ ih i t e=>by
  cases i with
  | zero=>cases e;exact⟨v,F,rfl,h,List.sublist_append_left _ _⟩
  | succ i =>
   obtain⟨w,G',h1,h2,h3⟩:=ih i t e;exact⟨w,G',h1,h2,h3.trans (Y2 _ _)⟩) i t e
theorem ak.get{vs:List V}{ts:List T}{F:List Addr}{i:Nat}{t:T}(h:ak K dl H vs ts F)(e:ts[i]? = some t):∃ v G,vs[i]? = some v/\ax K dl H v t G/\∀ b∈G,b∈F :=
 Exists.elim (h.Qa e) fun v z=>Exists.elim z fun G z=>⟨v,G,z.1,z.2.1,fun _ hb=>z.2.2.subset hb⟩
theorem ak.append{vs ws:List V}{ts us:List T}{F:List Addr}(h:ak K dl H vs ts F)(h2:ak K dl H ws us G):ak K dl H (vs++ws) (ts++us) (F++G) :=
 h.ind (M:=fun vs ts F=>ak K dl H (vs++ws) (ts++us) (F++G)) h2 fun _ _ _ _ _ _ h _ ih=>by rw[Yl];exact .cons h ih
theorem ak.gj{vs:List V}{ts:List T}(h:ak K dl H vs ts F):vs = [] ↔ ts = []:=by
 cases h with
 | nil=>simp
 | cons _ _=>simp
theorem ak.drop:∀{vs:List V}{ts:List T}{F:List Addr}(n:Nat),ak K dl H vs ts F->∃ G,ak K dl H (vs.drop n) (ts.drop n) G/\G.Sublist F
 | _,_,F,0,h=>⟨F,h,List.Sublist.refl _⟩
 | _,_,_,_+1,.nil=>⟨[],.nil,List.Sublist.refl _⟩
 | _,_,_,n+1,.cons (F:=F1) h r=>by
  obtain⟨G,h1,h2⟩:=ak.drop n r;exact⟨G,h1,h2.trans (Y2 _ _)⟩
theorem ak.take:∀{vs:List V}{ts:List T}{F:List Addr}(n:Nat),ak K dl H vs ts F->∃ G,ak K dl H (vs.take n) (ts.take n) G/\G.Sublist F
 | _,_,F,0,h=>⟨[],.nil,List.nil_sublist _⟩
 | _,_,_,_+1,.nil=>⟨[],.nil,List.Sublist.refl _⟩
 | _,_,_,n+1,.cons (F:=F1) h r=>by
  obtain⟨G,h1,h2⟩:=ak.take n r;exact⟨_,.cons h h1,h2.append_left _⟩
theorem Rp.sub{t:T}{F:List Addr}(r:ax K dl H v t G)(n:∀ b∈F,Nd dl b)(h:∀ b∈G,b∈F):Rp K dl H v t G:=⟨r,fun b hb=>n b (h b hb)⟩
theorem Rp.c{t:T}(r:ax K dl H v t []):Rp K dl H v t []:=⟨r,fun _ z=>nomatch z⟩
theorem Rps.tup{vs:List V}{ts:List T}{p:Addr}(h:Rps K dl H vs ts F)(D:Dls dl H)(hp:H p=none):Rp K dl (upd H p (.tup vs)) (.ref p) (.t ts) F :=
 have h2:=h.evo D ((Evo.refl D).new (o:=.tup vs) hp)
 ⟨.t aw h2.r,h2.n⟩
theorem Rps.lst{vs:List V}{ts:List T}{p:Addr}(h:Rps K dl H vs ts F)(D:Dls dl H)(hp:H p=none):Rp K dl (upd H p (.lst vs)) (.ref p) (.l ts) (p::F) :=
 have h2:=h.evo D ((Evo.refl D).new (o:=.lst vs) hp)
 ⟨.l aw h2.r,fun b hb=>by
  rcases QH.mp hb with e|hb
  ·rw[e];exact D.nd0 hp
  ·exact h2.n b hb⟩
theorem Rps.fresh{vs:List V}{ts:List T}{p:Addr}(h:Rps K dl H vs ts F)(hp:H p=none)(hn:F.Nodup):(p::F).Nodup:=Xm.mpr ⟨fun z=>(h.r.there p z).no hp,hn⟩
def qII(C:Int->Int->Prop)(g:Int->Int->T):Q2:=fun t u Q=>match t,u with
 | .i a,.i b=>C a b/\Q (g a b)
 | _,_=>False
theorem Gp{C:Int->Int->Prop}{g:Int->Int->V}{g':Int->Int->T}(hg:∀ a b dl H,ax K dl H (g a b) (g' a b) []):cN K (rI C g) (qII C g'):=by
 intro dl H x y t u F G Q R D r1 r2 hq k;unfold qII at hq
 split at hq
 ·obtain⟨rfl,rfl⟩:=r1.r.int;obtain⟨rfl,rfl⟩:=r2.r.int;exact⟨_,_,rfl,rfl,hq.1,k _ _ [] H (.refl D) (.c (hg _ _ _ _)) (fun _ z=>nomatch z) W2 hq.2⟩
 ·exact hq.elim
def qI0(g:Int->Int->T):Q2:=fun t u Q=>match t,u with
 | .i a,.i b=>Q (g a b)
 | _,_=>False
theorem vG{g:Int->Int->V}{g':Int->Int->T}(hg:∀ a b dl H,ax K dl H (g a b) (g' a b) []):cN K (rI0 g) (qI0 g'):=by
 intro dl H x y t u F G Q R D r1 r2 hq k;unfold qI0 at hq
 split at hq
 ·obtain⟨rfl,rfl⟩:=r1.r.int;obtain⟨rfl,rfl⟩:=r2.r.int;exact⟨_,_,rfl,rfl,k _ _ [] H (.refl D) (.c (hg _ _ _ _)) (fun _ z=>nomatch z) W2 hq⟩
 ·exact hq.elim
theorem LM:OpR X (binaryOp .Add) (fun x y H Q=>∃ a b xs ys,x = .ref a/\y = .ref b/\SqT X.K H a xs/\SqT X.K H b ys/\xs.length+ys.length<=WT /\
  (xs = []->Q (.ref b) H)/\(xs ≠ []->ys = []->Q (.ref a) H)/\(xs ≠ []->ys ≠ []->∀ p,H p=none->Q (.ref p) (upd H p (.tup (xs++ys))))):=by
 intro j0 s σ H x y v u Q I rx ry h;obtain⟨a,b,xs,ys,rfl,rfl,ha,hb,hz,q0,q1,q2⟩:=h;by_cases hx:xs = []
 ·cases rx;cases ry;obtain⟨its,r1,p1,_⟩:=I.tuple ha;obtain⟨bb,r2,p2,_⟩:=I.tuple hb;have e:its = []:=r1.gj.mpr hx;subst e;obtain⟨⟨cls,dd,data,sl⟩,ho,hc,n,hd⟩:=id p1;obtain⟨⟨WK,dd2,data2,sl2⟩,ho2,hc2,n2,hd2⟩:=id p2;simp only at hc hd hc2 hd2;subst hc hd hc2 hd2;exact concat_meets ⟨_,ho,rfl⟩ ⟨_,ho2,rfl⟩ noFill_tuple_add seq_tuple_add PySem.F.slot_tuple_add PySem.F.entry_tuple_add (PySem.F.args_tuple_add_2 _ _)
   (tuple_addW0 a b ([]:List Value).toArray bb.toArray n n2 dd dd2 sl sl2 (by simp)) ⟨ho,ho2,⟨.ref b,H,I,rfl,q0 hx⟩⟩
 ·exact LN j0 s σ H _ _ v u Q I rx ry ⟨a,b,xs,ys,rfl,rfl,ha,hb,hx,hz,q1 hx,q2 hx⟩
def GK(K:W.Frag):R2:=fun x y H Q=>rI0 (fun i j=>.int (i+j)) x y H Q\/(∃ i j,x = .str i/\y = .str j/\i.length+j.length<=WT/\Q (.str (i++j)) H)\/R4 x y H Q \/
 (∃ a b xs ys,x = .ref a/\y = .ref b/\SqT K H a xs/\SqT K H b ys/\xs.length+ys.length<=WT /\
  (xs = []->Q (.ref b) H)/\(xs ≠ []->ys = []->Q (.ref a) H)/\(xs ≠ []->ys ≠ []->∀ p,H p=none->Q (.ref p) (upd H p (.tup (xs++ys)))))
theorem LP(hK:X.K=K):OpR X (binaryOp .Add) (GK K):=by subst hK;exact oO.or (AI.or (Pm.or LM))
def Lg:Q2:=fun t u Q=>match t,u with
 | .i a,.i b=>Q (.i (a+b))
 | .s a,.s b=>a.length+b.length<=WT/\Q (.s (a++b))
 | .l a,.l b=>a.length+b.length<=WT/\T.ims a=true/\T.ims b=true/\Q (.l (a++b))
 | .t a,.t b=>a.length+b.length<=WT/\T.ims a=true/\T.ims b=true/\Q (.t (a++b))
 | _,_=>False
theorem KA:cN K (GK K) Lg:=by
 intro dl H x y t u F G Q R D r1 r2 hq k;have no:∀ b:Addr,b∈([]:List Addr)->H b=none:=fun _ z=>nomatch z
 unfold Lg at hq
 split at hq
 ·obtain⟨rfl,rfl⟩:=r1.r.int;obtain⟨rfl,rfl⟩:=r2.r.int;exact .inl ⟨_,_,rfl,rfl,k _ _ [] H (.refl D) (.c (.i _)) no W2 hq⟩
 ·obtain⟨rfl,rfl⟩:=r1.r.str;obtain⟨rfl,rfl⟩:=r2.r.str;exact .inr (.inl ⟨_,_,rfl,rfl,hq.1,k _ _ [] H (.refl D) (.c (.s _)) no W2 hq.2⟩)
 ·obtain⟨a,vs,F1,rfl,rfl,h1,s1⟩:=r1.r.lst;obtain⟨b,ws,G1,rfl,rfl,h2,s2⟩:=r2.r.lst;obtain rfl:=s1.im hq.2.1;obtain rfl:=s2.im hq.2.2.1;refine .inr (.inr (.inl ⟨a,b,vs,ws,rfl,rfl,h1,h2,by rw[s1.len,s2.len];exact hq.1,fun p hp=>?_⟩))
  have rs:Rps K dl H (vs++ws) _ ([] ++ []):=⟨s1.append s2,fun c hc=>nomatch hc⟩
  exact k _ _ _ _ ((Evo.refl D).new hp) (rs.lst D hp) (fun b hb=>by rw[qr.mp hb];exact hp) (by simp) hq.2.2.2
 ·obtain⟨a,vs,rfl,h1,s1⟩:=r1.r.tup;obtain⟨b,ws,rfl,h2,s2⟩:=r2.r.tup;obtain rfl:=s1.im hq.2.1;obtain rfl:=s2.im hq.2.2.1;refine .inr (.inr (.inr ⟨a,b,vs,ws,rfl,rfl,SqT.of h1,SqT.of h2,by rw[s1.len,s2.len];exact hq.1,fun e=>?_,fun e1 e2=>?_,fun _ _ p hp=>?_⟩))
  ·refine k _ _ [] H (.refl D) r2 no W2 ?_;have z:=s1.gj.mp e;subst z;exact hq.2.2.2
  ·refine k _ _ [] H (.refl D) r1 no W2 ?_;have z:=s2.gj.mp e2;subst z;have hq2:=hq.2.2.2;rw[Xh]at hq2;exact hq2
  ·have rs:Rps K dl H (vs++ws) _ ([] ++ []):=⟨s1.append s2,fun c hc=>nomatch hc⟩
   exact k _ _ _ _ ((Evo.refl D).new hp) (rs.tup D hp) no W2 hq.2.2.2
 ·exact hq.elim
def OV:Q2:=fun t u Q=>match t,u with
 | .i a,.i b=>JH a b/\Q (.i (a*b))
 | .s a,.i b=>0<=b/\b<=1000/\a.length<=1000/\Q (.s (ki a b.toNat))
 | _,_=>False
def GF:R2:=fun x y H Q=>rI JH (fun i j=>.int (i*j)) x y H Q\/(∃ z n,x = .str z/\y = .int n/\0<=n/\n<=1000/\z.length<=1000/\Q (.str (ki z n.toNat)) H)
theorem LJ:OpR X (binaryOp .Mult) GF:=mP.or AG
theorem Kx:cN K GF OV:=by
 intro dl H x y t u F G Q R D r1 r2 hq k;unfold OV at hq
 split at hq
 ·obtain⟨rfl,rfl⟩:=r1.r.int;obtain⟨rfl,rfl⟩:=r2.r.int;exact .inl ⟨_,_,rfl,rfl,hq.1,k _ _ [] H (.refl D) (.c (.i _)) (fun _ z=>nomatch z) W2 hq.2⟩
 ·obtain⟨rfl,rfl⟩:=r1.r.str;obtain⟨rfl,rfl⟩:=r2.r.int;exact .inr ⟨_,_,rfl,rfl,hq.1,hq.2.1,hq.2.2.1,k _ _ [] H (.refl D) (.c (.s _)) (fun _ z=>nomatch z) W2 hq.2.2.2⟩
 ·exact hq.elim
end
section
variable{X:Cx}{K:W.Frag}{a b:Expr}{ta tb:TE}{qa qb:QE}{pos:Pos}
theorem bh(ha:QPE X K a ta qa)(hb:QPE X K b tb qb)(hK:X.K=K:=by rfl):QPF X K (.BinOp a .Add b pos) (tOp (GK K) ta tb) (qOp Lg qa qb):=mG (LP hK) KA ha hb
theorem rG(ha:QPE X K a ta qa)(hb:QPE X K b tb qb):QPF X K (.BinOp a .Sub b pos) (tOp (rI0 fun i j=>.int (i - j)) ta tb) (qOp (qI0 fun i j=>.i (i - j)) qa qb):=mG HB (vG fun _ _ _ _=>.i _) ha hb
theorem rJ(ha:QPE X K a ta qa)(hb:QPE X K b tb qb):QPF X K (.BinOp a .Mult b pos) (tOp GF ta tb) (qOp OV qa qb):=mG LJ Kx ha hb
theorem GR(ha:QPE X K a ta qa)(hb:QPE X K b tb qb):QPF X K (.BinOp a .Mod b pos) (tOp (rI (fun _ j=>0<j) fun i j=>.int (i % j)) ta tb) (qOp (qII (fun _ j=>0<j) fun i j=>.i (i % j)) qa qb):=mG jD (Gp fun _ _ _ _=>.i _) ha hb
theorem Lc(ha:QPE X K a ta qa)(hb:QPE X K b tb qb):QPF X K (.BinOp a .FloorDiv b pos) (tOp (rI JI fun i j=>.int (i / j)) ta tb) (qOp (qII JI fun i j=>.i (i / j)) qa qb):=mG yP (Gp fun _ _ _ _=>.i _) ha hb
theorem rH(ha:QPE X K a ta qa)(hb:QPE X K b tb qb):QPF X K (.BinOp a .Pow b pos) (tOp (rI Nn fun i j=>.int (i ^ j.toNat)) ta tb) (qOp (qII Nn fun i j=>.i (i ^ j.toNat)) qa qb):=mG HC (Gp fun _ _ _ _=>.i _) ha hb
end
variable{op:CmpOp}{rq:Q2}{j:Nat}
section
variable{X:Cx}{K:W.Frag}{a b c e:Expr}{es rest:List Expr}{ta tb tc te:TE}{qa qb qc qe:QE}{tA tB:TT}{qA qB:QT}{tl:TA}{ql:QA}{pos:Pos}
def T.v:T->V
 | .n=>.non | .b x=>.bl x | .i x=>.int x | .s x=>.str x | _=>.ty ""
def T.fl:T->Bool
 | .n=>true | .b _=>true | .i _=>true | .s _=>true | _=>false
theorem ax.v{dl:Dl}{H:Hp}{v:V}{t:T}{F:List Addr}(h:ax K dl H v t F)(f:t.fl=true):v=t.v/\F = []:=by
 cases h <;> first|exact⟨rfl,rfl⟩|exact absurd (show false=true from f) Xd
def qEq:Q2:=fun t u Q=>(t.fl&&u.fl&&KD t.v u.v)=true/\Q (.b (decide (t.v=u.v)))
def qNe:Q2:=fun t u Q=>(t.fl&&u.fl&&KD t.v u.v)=true/\Q (.b (!decide (t.v=u.v)))
theorem OA:cN K rEq qEq:=by
 intro dl H x y t u F G Q R D r1 r2 hq k;obtain⟨h,hq⟩:=hq;rw[Xi,Xi]at h;obtain⟨rfl,rfl⟩:=r1.r.v h.1.1;obtain⟨rfl,rfl⟩:=r2.r.v h.1.2;exact⟨h.2,k _ _ [] H (.refl D) (.c (.b _)) (fun _ z=>nomatch z) W2 hq⟩
theorem qU:cN K rNe qNe:=by
 intro dl H x y t u F G Q R D r1 r2 hq k;obtain⟨h,hq⟩:=hq;rw[Xi,Xi]at h;obtain⟨rfl,rfl⟩:=r1.r.v h.1.1;obtain⟨rfl,rfl⟩:=r2.r.v h.1.2;exact⟨h.2,k _ _ [] H (.refl D) (.c (.b _)) (fun _ z=>nomatch z) W2 hq⟩
def So(neg:Bool):Q2:=fun t u Q=>match u with
 | .n=>Q (.b (match t with | .n=>!neg | _=>neg))
 | _=>False
theorem hX:cN K (fun x y H Q=>y = .non/\Q (.bl (decide (x = .non))) H) (So false):=by
 intro dl H x y t u F G Q R D r1 r2 hq k;unfold So at hq
 split at hq
 ·obtain⟨rfl,rfl⟩:=r2.r.non;refine⟨rfl,k _ _ [] H (.refl D) (.c (.b _)) (fun _ z=>nomatch z) W2 ?_⟩
  cases r1.r <;> exact hq
 ·exact hq.elim
def inT(x:T)(xs:List T):Bool:=xs.any fun y=>eqV y.v x.v
def fls(xs:List T):Bool:=xs.all T.fl
theorem ak.vs{dl:Dl}{H:Hp}{vs:List V}{ts:List T}{F:List Addr}(h:ak K dl H vs ts F):fls ts=true->vs=ts.map T.v/\F = [] :=
 h.ind (M:=fun vs ts F=>fls ts=true->vs=ts.map T.v/\F = []) (fun _=>⟨rfl,rfl⟩) fun _ _ _ _ _ _ h _ ih f=>by
  have f:(_&&_)=true:=f;rw[Xi]at f;obtain⟨rfl,rfl⟩:=h.v f.1;obtain⟨rfl,rfl⟩:=ih f.2;exact⟨rfl,rfl⟩
theorem sT{ts:List T}(f:fls ts=true):(ts.map T.v).all dX=true:=by
 rw[XH];intro x hx;obtain⟨t,ht,rfl⟩:=XC.mp hx
 have:=XH.mp f t ht
 cases t <;> first|rfl|exact absurd this Xd
theorem xn{t:T}(f:t.fl=true):dX t.v=true:=by cases t <;> first|rfl|exact absurd f Xd
def KQ(K:W.Frag)(neg:Bool):R2:=fun x y H Q=>rIn K neg x y H Q\/∃ i j,x = .str i/\y = .str j/\Q (.bl (if neg then !(!(Builtin.Str.occurrences j i 0 j.length 1).isEmpty)else !(Builtin.Str.occurrences j i 0 j.length 1).isEmpty)) H
theorem HE(hK:X.K=K):OpR X (compareOp .In) (KQ K false):=by subst hK;exact DP.or DO
theorem DN(hK:X.K=K):OpR X (compareOp .NotIn) (KQ K true):=by subst hK;exact wH.or wG
def qIn(neg:Bool):Q2:=fun t u Q=>match u with
 | .l xs=>(t.fl&&fls xs)=true/\Q (.b (if neg then !inT t xs else inT t xs))
 | .t xs=>(t.fl&&fls xs)=true/\Q (.b (if neg then !inT t xs else inT t xs))
 | .k ws=>match t with
  | .s y=>Q (.b (if neg then !inT (.s y) (ws.map T.s)else inT (.s y) (ws.map T.s)))
  | _=>False
 | .s z=>match t with
  | .s y=>Q (.b (if neg then !(!(Builtin.Str.occurrences z y 0 z.length 1).isEmpty)else !(Builtin.Str.occurrences z y 0 z.length 1).isEmpty))
  | _=>False
 | _=>False
theorem Aa{neg:Bool}:cN K (KQ K neg) (qIn neg):=by
 intro dl H x y t u F G Q R D r1 r2 hq k;have go:∀(xs:List T)(p:Addr)(vs:List V),y = .ref p ->(SqL K H p vs\/SqT K H p vs) ->(∃ G,ak K dl H vs xs G) ->(t.fl&&fls xs)=true/\Q (.b (if neg then !inT t xs else inT t xs))->KQ K neg x y H R:=by
  rintro xs p vs rfl hs ⟨G,rs⟩ ⟨f,hq⟩
  rw[Xi]at f;obtain⟨rfl,rfl⟩:=r1.r.v f.1;obtain⟨rfl,_⟩:=rs.vs f.2;refine .inl ⟨p,_,rfl,hs,xn f.1,sT f.2,k _ (.b _) [] H (.refl D) (.c (.b _)) (fun _ z=>nomatch z) W2 ?_⟩
  have e:inV t.v (xs.map T.v)=inT t xs:=by unfold inV inT;rw[ZJ];rfl
  rw[e];exact hq
 unfold qIn at hq
 split at hq
 ·obtain⟨p,vs,G,rfl,_,h1,h2⟩:=r2.r.lst;exact go _ p vs rfl (.inl (SqL.of h1)) ⟨_,h2⟩ hq
 ·obtain⟨p,vs,rfl,h1,h2⟩:=r2.r.tup;exact go _ p vs rfl (.inr (SqT.of h1)) ⟨_,h2⟩ hq
 ·split at hq
  ·obtain⟨p,rfl,h1,_⟩:=r2.r.kst;refine go _ p _ rfl (.inr (h1 H)) ⟨_,mF _⟩ ⟨?_,hq⟩;rw[Xi];refine⟨rfl,?_⟩;unfold fls;rw[ZK,XH];exact fun _ _=>rfl
  ·exact hq.elim
 ·split at hq
  ·obtain⟨rfl,rfl⟩:=r1.r.str;obtain⟨rfl,rfl⟩:=r2.r.str;exact .inr ⟨_,_,rfl,rfl,k _ _ [] H (.refl D) (.c (.b _)) (fun _ z=>nomatch z) W2 hq⟩
  ·exact hq.elim
 ·exact hq.elim
theorem kn{r:R2}(ho:OpR X (compareOp op) r)(hs:cN K r rq)(hm:behindInMarks op b=false)(ha:QPE X K a ta qa)(hb:QPE X K b tb qb):QPF X K (.Compare a [op] [b] pos) (tOp r ta tb) (qOp rq qa qb) :=
 ⟨LG ho ha.h hb.h hm,vD hs ha.s hb.s⟩
def B6(qe:QE):QT:=fun q Q=>qe q fun t=>match t with
 | .b x=>Q x
 | _=>False
theorem F8(h:j6 K te qe):px K (yf te) (B6 qe):=by
 intro dl H σ q Q R rd hq k;refine h dl H σ q _ _ rd hq fun v t F H' e r hz=>?_
 split at hz
 ·obtain⟨rfl,rfl⟩:=r.r.bl;exact⟨_,rfl,k _ H' e hz⟩
 ·exact hz.elim
theorem b9{r:R2}(ho:OpR X (compareOp op) r)(hs:cN K r rq)(hm:behindInMarks op b=false)(ha:QPE X K a ta qa)(hb:QPE X K b tb qb):QPT X K (.Compare a [op] [b] pos) (yf (tOp r ta tb)) (B6 (qOp rq qa qb)) :=
 ⟨lN ho ha.h hb.h hm,F8 (z9 hs.w ha.s hb.s)⟩
def R9(qe:QE):QT:=fun q Q=>qe q fun t=>match t with
 | .b x=>Q x
 | .n=>Q false
 | .i x=>Q (x != 0)
 | .s x=>x.length<=WT/\Q ((x.length:Int) != 0)
 | .l xs=>Q (!xs.isEmpty)
 | .t xs=>Q (!xs.isEmpty)
 | .d xs=>Q (!xs.isEmpty)
 | _=>False
theorem Kt(h:j6 K te qe):px K (fun σ H Q=>te σ H fun x H'=>∃ k,M9 K x H' k/\Q k H') (R9 qe):=by
 intro dl H σ q Q R rd hq k;refine h dl H σ q _ _ rd hq fun v t F H' e r hz=>?_
 have emp:∀{α β:Type}{xs:List α}{ys:List β},xs.length=ys.length ->(!xs.isEmpty) = !ys.isEmpty:=fun{α β xs ys} h=>by
  cases xs <;> cases ys <;> first|rfl |(simp at h)
 split at hz
 ·obtain⟨rfl,rfl⟩:=r.r.bl;exact⟨_,rfl,k _ H' e hz⟩
 ·obtain⟨rfl,rfl⟩:=r.r.non;exact⟨_,rfl,k _ H' e hz⟩
 ·obtain⟨rfl,rfl⟩:=r.r.int;exact⟨_,rfl,k _ H' e hz⟩
 ·obtain⟨rfl,rfl⟩:=r.r.str;exact⟨_,⟨hz.1,rfl⟩,k _ H' e hz.2⟩
 ·obtain⟨p,vs,G,rfl,_,h1,h2⟩:=r.r.lst;exact⟨_,.inl ⟨vs,SqL.of h1,rfl⟩,k _ H' e (by rw[emp h2.len];exact hz)⟩
 ·obtain⟨p,vs,rfl,h1,h2⟩:=r.r.tup;exact⟨_,.inr (.inl ⟨vs,SqT.of h1,rfl⟩),k _ H' e (by rw[emp h2.len];exact hz)⟩
 ·obtain⟨p,vs,G,rfl,_,h1,h2⟩:=r.r.dic;exact⟨_,.inr (.inr ⟨vs,h1,rfl⟩),k _ H' e (by rw[emp h2.len];exact hz)⟩
 ·exact hz.elim
theorem rE(h:QPE X K e te qe)(he:∀ whole,isTrue e X.env whole =(do let v <- whole;standAt e.pos;holding [v] (truthy v)):=by intro _;rfl)(hK:X.K=K:=by rfl) :
  QPT X K e (fun σ H Q=>te σ H fun x H'=>∃ k,M9 K x H' k/\Q k H') (R9 qe):=⟨by subst hK;exact He h.h he,Kt h.s⟩
def SF(t u:QT):QT:=fun q Q=>t q fun c=>if c=true then u q Q else Q false
def qOr(t u:QT):QT:=fun q Q=>t q fun c=>if c=true then Q true else u q Q
theorem Kz(h:px K tA qA)(h2:px K tB qB):px K (Kf tA tB) (SF qA qB):=fun dl H σ q Q R rd hq k=>h dl H σ q _ _ rd hq fun b H' e hz=>by
 cases b with
 | false=>exact k _ H' e hz
 | true=>exact h2 dl H' σ q Q R (rd.evo e) hz fun c H2 e2 z=>k c H2 (e.trans e2) z
theorem Oy(h:px K tA qA)(h2:px K tB qB):px K (tOr tA tB) (qOr qA qB):=fun dl H σ q Q R rd hq k=>h dl H σ q _ _ rd hq fun b H' e hz=>by
 cases b with
 | true=>exact k _ H' e hz
 | false=>exact h2 dl H' σ q Q R (rd.evo e) hz fun c H2 e2 z=>k c H2 (e.trans e2) z
theorem nL(h:QPT X K a tA qA):QPW X K (.BoolOp .And [a] pos) tA qA:=⟨v8 h.h,h.s⟩
theorem vV(h:QPT X K a tA qA):QPW X K (.BoolOp .Or [a] pos) tA qA:=⟨Hb h.h,h.s⟩
theorem rD(h:QPT X K a tA qA)(h2:QPW X K (.BoolOp .And (b::rest) pos) tB qB):QPW X K (.BoolOp .And (a::b::rest) pos) (Kf tA tB) (SF qA qB):=⟨As h.h h2.h,Kz h.s h2.s⟩
theorem B2(h:QPT X K a tA qA)(h2:QPW X K (.BoolOp .Or (b::rest) pos) tB qB):QPW X K (.BoolOp .Or (a::b::rest) pos) (tOr tA tB) (qOr qA qB):=⟨NM h.h h2.h,Oy h.s h2.s⟩
theorem QPW.pt(h:QPW X K e tA qA):QPT X K e tA qA:=⟨h.h.pt,h.s⟩
def NL(qa qb:QE):QE:=fun q Q=>qa q fun t=>match t with
 | .b c=>if c=true then qb q Q else Q (.b false)
 | _=>False
theorem Gn(h:j6 K ta qa)(h2:m5 K tb qb):m5 K (FV ta tb) (NL qa qb):=fun dl H σ q Q R rd hq k=>h dl H σ q _ _ rd hq fun v t F H' e r hz=>by
 split at hz
 ·rename_i c;obtain⟨rfl,rfl⟩:=r.r.bl;refine⟨c,rfl,?_⟩;cases c with
  | false=>exact k _ _ [] H' e r (fun _ z=>nomatch z) W2 hz
  | true=>exact h2 dl H' σ q Q R (rd.evo e) hz fun w u G H2 e2 r2 f2 n2 z=>k w u G H2 (e.trans e2) r2 (fun b hb=>e.free (f2 b hb)) n2 z
 ·exact hz.elim
theorem OQ{op}(h:QPF X K a ta qa):QPF X K (.BoolOp op [a] pos) ta qa:=⟨Pg h.h,h.s⟩
theorem OR(ha:QPE X K a ta qa)(hb:QPF X K (.BoolOp .And (b::rest) pos) tb qb):QPF X K (.BoolOp .And (a::b::rest) pos) (FV ta tb) (NL qa qb):=⟨Pk ha.h hb.h,Gn ha.s hb.s⟩
def qIf(t:QT)(qa qb:QE):QE:=fun q Q=>t q fun c=>if c=true then qa q Q else qb q Q
theorem ND(hc:QPT X K c tA qA)(ha:QPF X K a ta qa)(hb:QPF X K b tb qb):QPF X K (.IfExp c a b pos) (tIf tA ta tb) (qIf qA qa qb):=⟨Hx hc.h ha.h hb.h,fun dl H σ q Q R rd hq k=>hc.s dl H σ q _ _ rd hq fun d H' e hz=>by
 cases d with
 | true=>exact ha.s dl H' σ q Q R (rd.evo e) hz fun w u G H2 e2 r2 f2 n2 z=>k w u G H2 (e.trans e2) r2 (fun b hb=>e.free (f2 b hb)) n2 z
 | false=>exact hb.s dl H' σ q Q R (rd.evo e) hz fun w u G H2 e2 r2 f2 n2 z=>k w u G H2 (e.trans e2) r2 (fun b hb=>e.free (f2 b hb)) n2 z⟩
theorem kl(ha:QPE X K a ta qa):QPF X K (.UnaryOp .USub a pos) (tUn (rU fun i=>.int (-i)) ta) (fun q Q=>qa q fun t=>match t with | .i x=>Q (.i (-x)) | _=>False):=⟨NP FI ha.h,fun dl H σ q Q R rd hq k=>ha.s dl H σ q _ _ rd hq fun v t F H' e r hz=>by
 split at hz
 ·obtain⟨rfl,rfl⟩:=r.r.int;exact⟨_,rfl,k _ _ [] H' e (.c (.i _)) (fun _ z=>nomatch z) W2 hz⟩
 ·exact hz.elim⟩
def ko:QA:=fun _ Q=>Q []
def a9(qa:QE)(ql:QA):QA:=fun q Q=>qa q fun t=>ql q fun ts=>Q (t::ts)
theorem au:xR X K [] iS ko:=⟨gN,fun dl H σ q Q R rd hq k=>k [] [] [] H (.refl rd.d) ⟨.nil,fun _ z=>nomatch z⟩ rfl (fun _ z=>nomatch z) W2 hq⟩
theorem xR.w(h:xR X K es tl ql):QPA X K es tl ql:=⟨h.h,fun dl H σ q Q R rd hq k=>h.s dl H σ q Q R rd hq fun vs ts F H' e r l _ _ z=>k vs ts F H' e r l z⟩
theorem Rps.cons{dl:Dl}{H:Hp}{v:V}{t:T}{vs:List V}{ts:List T}{F G:List Addr}(h:Rp K dl H v t F)(r:Rps K dl H vs ts G):Rps K dl H (v::vs) (t::ts) (F++G):=⟨.cons h.r r.r,fun b hb=>(Xj.mp hb).elim (h.n b) (r.n b)⟩
theorem ae(ha:QPE X K e te qe)(hr:QPA X K es tl ql)(hs:QX (e::es) X.env =(false,eval e X.env)::QX es X.env:=by rfl):QPA X K (e::es) (fY te tl) (a9 qe ql) :=
 ⟨bV ha.h hr.h hs,fun dl H σ q Q R rd hq k=>ha.s dl H σ q _ _ rd hq fun v t F H1 e1 r1 hz=>hr.s dl H1 σ q _ _ (rd.evo e1) hz fun vs ts G H2 e2 r2 l2 z=>k _ _ _ H2 (e1.trans e2) (.cons (r1.evo e1.d e2) r2) (by simp[l2]) z⟩
theorem af(ha:QPF X K e te qe)(hr:xR X K es tl ql)(hs:QX (e::es) X.env =(false,eval e X.env)::QX es X.env:=by rfl):xR X K (e::es) (fY te tl) (a9 qe ql) :=
 ⟨bV ha.h hr.h hs,fun dl H σ q Q R rd hq k=>ha.s dl H σ q _ _ rd hq fun v t F H1 e1 r1 f1 n1 hz=>hr.s dl H1 σ q _ _ (rd.evo e1) hz fun vs ts G H2 e2 r2 l2 f2 n2 z =>
  k _ _ _ H2 (e1.trans e2) (.cons (r1.evo e1.d e2) r2) (by simp[l2]) (fun b hb=>(Xj.mp hb).elim (f1 b) fun hb=>e1.free (f2 b hb)) (XT.mpr ⟨n1,n2,fun x hx y hy exy=>by
   subst exy;exact(r1.r.there x hx).no (f2 x hy)⟩) z⟩
def rM(ql:QA):QE:=fun q Q=>ql q fun ts=>Q (.t ts)
def Sj(ql:QA):QE:=fun q Q=>ql q fun ts=>Q (.l ts)
theorem aE{x1}(h:xR X K es tl ql)(hz:es.length<=1000:=by decide):QPF X K (.Tuple es x1 pos) (RB tl) (rM ql):=⟨Pf h.h,fun dl H σ q Q R rd hq k=>h.s dl H σ q _ _ rd hq fun vs ts F H1 e1 r1 l1 f1 n1 z =>
 ⟨XO (dv (by omega)),fun p hp=>k _ _ F _ (e1.new hp) (r1.tup e1.d hp) f1 n1 z⟩⟩
theorem aY(h:xR X K es tl ql)(hz:es.length<=1000:=by decide):QPF X K (.List es pos) (RD tl) (Sj ql):=⟨Pj h.h,fun dl H σ q Q R rd hq k=>h.s dl H σ q _ _ rd hq fun vs ts F H1 e1 r1 l1 f1 n1 z =>
 ⟨XO (dv (by omega)),fun p hp=>k _ _ (p::F) _ (e1.new hp) (r1.lst e1.d hp) (fun b hb=>by
  rcases QH.mp hb with e|hb
  ·rw[e];exact e1.free hp
  ·exact f1 b hb) (r1.fresh hp n1) z⟩⟩
theorem jm(h:strsOf es=some ws)(hl:es.length=ws.length:=by rfl):xR X K es (fun _ H Q=>Q (ws.map V.str) H) (fun _ Q=>Q (ws.map T.s)) :=
 ⟨Cj h,fun dl H σ q Q R rd hq k=>k _ _ [] H (.refl rd.d) ⟨mF ws,fun _ z=>nomatch z⟩ (by rw[PZ];exact hl.symm) (fun _ z=>nomatch z) W2 hq⟩
def qIx:Q2:=fun t u Q=>match u with
 | .i k=>match t with
  | .l xs=>∃ x,atI xs k=some x/\Q x
  | .t xs=>∃ x,atI xs k=some x/\Q x
  | .z ns=>∃ x,atI ns k=some x/\Q (.i x)
  | .zl xs=>∃ x,atI xs k=some x/\Q x
  | .s z=>z.length<=WT/\∃ c,atI z.cps.toList k=some c/\Q (.s ⟨#[c]⟩)
  | _=>False
 | _=>False
theorem ow{α β:Type}{xs:List α}{ys:List β}{k:Int}{x:α}(h:atI xs k=some x)(hl:xs.length=ys.length):∃ j:Nat,xs[j]? = some x/\ixN ys.length k=some j:=by
 unfold atI at h;cases e:ixN xs.length k with
 | none=>rw[e]at h;cases h
 | some j=>rw[e]at h;exact⟨j,h,by rw[<- hl];exact e⟩
theorem pw{α:Type}{xs:List α}{k:Int}{x:α}(h:ixN xs.length k=some j)(hx:xs[j]? = some x):atI xs k=some x:=by unfold atI;rw[h];exact hx
theorem Oz:Na K (rIx K) qIx:=by
 intro dl H x y t u F G Q R D r1 r2 hq k;unfold qIx at hq
 split at hq
 ·rename_i k0;obtain⟨rfl,rfl⟩:=r2.r.int
  split at hq
  ·obtain⟨p,vs,G,rfl,rfl,h1,h2⟩:=r1.r.lst;obtain⟨z,hz,hq⟩:=hq;obtain⟨j,hj,hi⟩:=ow hz h2.len.symm;obtain⟨v,G',hv,rv,hs⟩:=h2.get hj;exact .inl ⟨p,vs,k0,v,rfl,rfl,SqL.of h1,pw hi hv,k v z G' H (.refl D) (Rp.sub rv r1.n fun b hb=>Es _ (hs b hb)) hq⟩
  ·obtain⟨p,vs,rfl,h1,h2⟩:=r1.r.tup;obtain⟨z,hz,hq⟩:=hq;obtain⟨j,hj,hi⟩:=ow hz h2.len.symm;obtain⟨v,G',hv,rv,hs⟩:=h2.get hj;exact .inr (.inl ⟨p,vs,k0,v,rfl,rfl,SqT.of h1,pw hi hv,k v z G' H (.refl D) (Rp.sub rv r1.n hs) hq⟩)
  ·obtain⟨p,rfl,h1,_⟩:=r1.r.scr;obtain⟨z,hz,hq⟩:=hq;refine .inl ⟨p,_,k0,.int z,rfl,rfl,h1.sq,?_,k _ _ [] H (.refl D) (.c (.i _)) hq⟩;obtain⟨j,hj,hi⟩:=ow (ys:=(_:List Int).map V.int) hz (by rw[PZ])
   exact pw hi (by rw[Xc,hj];rfl)
  ·obtain⟨p,o,vs,rfl,rfl,h1,h2⟩:=r1.r.zls;obtain⟨z,hz,hq⟩:=hq;obtain⟨j,hj,hi⟩:=ow hz h2.len.symm;obtain⟨v,G',hv,rv,hs⟩:=h2.get hj;exact .inl ⟨p,vs,k0,v,rfl,rfl,.inl (.inr ⟨o,h1⟩),pw hi hv,k v z G' H (.refl D) (Rp.sub rv r1.n hs) hq⟩
  ·obtain⟨rfl,rfl⟩:=r1.r.str;obtain⟨hl,c,hc,hq⟩:=hq;exact .inr (.inr ⟨_,k0,c,rfl,rfl,hl,hc,k _ _ [] H (.refl D) (.c (.s _)) hq⟩)
  ·exact hq.elim
 ·exact hq.elim
theorem aq(ha:QPE X K a ta qa)(hb:QPE X K b tb qb)(hs:oy b:=by intro _ _;rfl)(hK:X.K=K:=by rfl):QPE X K (.Subscript a b pos) (tOp (rIx K) ta tb) (qOp qIx qa qb):=⟨by subst hK;exact Cf Ba ha.h hb.h hs,z9 Oz ha.s hb.s⟩
end
variable{H:Hp}{prog:Program}{A:Around}{E:Value->Shared->Prop}{items:Array Value}{Q:Value->Shared->Prop}{p2:Pos}{n:Nat}{r:List V->Hp->VK->Prop}{us:List Value}
section
variable{X:Cx}{K:W.Frag}{a b c e:Expr}{es rest:List Expr}{ta tb tc te:TE}{qa qb qc qe:QE}{tA tB:TT}{qA qB:QT}{tl:TA}{ql:QA}{pos p:Pos}
abbrev QO:=Sq ->(Option Int->Prop)->Prop
def WR(K:W.Frag)(t:TO)(tq:QO):Prop:=∀(dl:Dl)(H:Hp)(σ:St)(q:Sq)(Q:Option Int->Prop)(R:Option Int->Hp->Prop),RdR K dl H σ q->tq q Q ->(∀ o H',Evo dl H H'->Q o->R o H')->t σ H R
structure QPO(X:Cx)(K:W.Frag)(e:Option Expr)(t:TO)(tq:QO):Prop where
 h:PO X e t
 s:WR K t tq
theorem qE:QPO X K none BP (fun _ Q=>Q none):=⟨Lo,fun _ _ _ _ _ _ rd hq k=>k none _ (.refl rd.d) hq⟩
theorem qD(h:QPE X K e te qe):QPO X K (some e) (Nr te) (fun q Q=>qe q fun t=>match t with | .i x=>Q (some x) | _=>False):=⟨wa h.h,fun dl H σ q Q R rd hq k=>h.s dl H σ q _ _ rd hq fun v t F H' e r hz=>by
 split at hz
 ·obtain⟨rfl,rfl⟩:=r.r.int;exact⟨_,rfl,k _ H' e hz⟩
 ·exact hz.elim⟩
def jZ{α:Type}(xs:List α)(lo hi:Option Int):List α:=(xs.drop (HT.sIx xs.length 0 lo)).take (HT.sIx xs.length xs.length hi - HT.sIx xs.length 0 lo)
theorem ak.cut{dl:Dl}{vs:List V}{ts:List T}{F:List Addr}(lo hi:Option Int)(h:ak K dl H vs ts F):∃ G,ak K dl H (mf vs lo hi) (jZ ts lo hi) G/\G.Sublist F:=by
 unfold mf jZ;rw[h.len];obtain⟨G,h1,s1⟩:=h.drop (HT.sIx ts.length 0 lo);obtain⟨G2,h2,s2⟩:=h1.take (HT.sIx ts.length ts.length hi - HT.sIx ts.length 0 lo);exact⟨G2,h2,s2.trans s1⟩
theorem me{w:World}{s:Shared}{t sl:Addr}{vl vu:Value}{lo hi:Option Int}(ht:IsTup s.heap t items)(hs:s.heap.IsSliceOf sl vl vu .none)(pl:IsPart vl lo)(pu:IsPart vu hi)
  (hw:HT.sIx items.size 0 lo=0/\HT.sIx items.size items.size hi=items.size)
  (h:Q (.ref t) s):wpAny (model prog w) A (getItem (.ref t) (.ref sl)) Q E s:=by
 obtain⟨os,hos,hcs,hds⟩:=id hs;have hTs:s.TypeIs (.ref sl) "slice":=⟨os,hos,hcs⟩;have hT:=ht.typeIs;unfold getItem
 try with_reducible refine XJ ?_
 first|refine j2 (TH ?_)|skip
 refine j2 (wpAny_sequenceKey ht.typeIs (by decide) ?_)
 refine j2 (wpAny_callSpecial?_slot (name:=Str.ofString "__getitem__") ht.typeIs PyProof.Rows.slot_tuple_getitem
  (Xz PyProof.Rows.slot_tuple_getitem ht.typeIs entry_tuple_getitem ?_ (args_tuple_getitem _ _)))
 show wpAny _ _ (Builtin.Tuple.tupleItemsOf (.ref t) >>= _) _ _ s;refine j2 (tupleItemsOf_ ht ?_);refine j2 (Yg hTs ?_);rw[if_pos (by decide)]
 refine j2 (HT.iT hs pl pu ?_);have hy:(((HT.sIx items.size 0 lo:Nat):Int)==0&&(1:Int)==1&&(HT.sIx items.size items.size hi - HT.sIx items.size 0 lo)==items.size)=true:=by
  rw[hw.1,hw.2];simp
 show wpAny _ _ (if(((HT.sIx items.size 0 lo:Nat):Int)==0&&(1:Int)==1&&(HT.sIx items.size items.size hi - HT.sIx items.size 0 lo)==items.size)=true then _ else _) _ _ s
 rw[if_pos hy];unfold Builtin.Tuple.tupleIsExact
 first
  | exact j2 (j2 (Yg hT (TH (by rw[if_pos (by decide)];exact j2 (Yu (TH ⟨_,rfl,TH h⟩))))))
  | exact j2 (Yg hT (by rw[if_pos (by decide)];exact j2 (Yu (TH ⟨_,rfl,TH h⟩))))
def RS(K:W.Frag):V->Option Int->Option Int->Hp->VK->Prop:=fun x lo hi H Q=>∃ a xs,x = .ref a/\SqT K H a xs /\
 ((HT.sIx xs.length 0 lo=0/\HT.sIx xs.length xs.length hi=xs.length)->Q (.ref a) H)/\(¬(HT.sIx xs.length 0 lo=0/\HT.sIx xs.length xs.length hi=xs.length)->∀ p,H p=none->Q (.ref p) (upd H p (.tup (mf xs lo hi))))
theorem Kj:SlR X (RS X.K):=by
 intro j0 s σ H x v vl vu lo hi sl Q I rx hs pl pu h;obtain⟨a,xs,rfl,hx,q1,q2⟩:=h;by_cases hw:HT.sIx xs.length 0 lo=0/\HT.sIx xs.length xs.length hi=xs.length
 ·cases rx;obtain⟨its,r,ht,hz⟩:=I.tuple hx;have hlen:its.toArray.size=xs.length:=by rw[Wc];exact r.length.symm
  exact⟨"tuple",_,PyProof.Rows.slot_tuple_getitem.lookup,ht.typeIs,me ht hs pl pu (by rw[hlen];exact hw) ⟨.ref a,H,I,rfl,q1 hw⟩⟩
 ·exact Ov j0 s σ H _ v vl vu lo hi sl Q I rx hs pl pu ⟨a,xs,rfl,hx,hw,q2 hw⟩
theorem Ex{α:Type}{xs:List α}{lo hi:Option Int}(h:HT.sIx xs.length 0 lo=0/\HT.sIx xs.length xs.length hi=xs.length):jZ xs lo hi=xs:=by
 unfold jZ;rw[h.1,h.2];simp
def RV(K:W.Frag):V->Option Int->Option Int->Hp->VK->Prop:=fun x lo hi H Q=>RU K x lo hi H Q\/RS K x lo hi H Q\/RT x lo hi H Q
theorem VE(hK:X.K=K):SlR X (RV K):=by subst hK;exact BU.or (Kj.or Ow)
def qSl(qe:QE)(l u:QO):QE:=fun q Q=>qe q fun t=>l q fun lo=>u q fun hi=>match t with
 | .l xs=>T.ims xs=true/\Q (.l (jZ xs lo hi))
 | .t xs=>T.ims xs=true/\Q (.t (jZ xs lo hi))
 | .z ns=>Q (.l ((jZ ns lo hi).map T.i))
 | .zl xs=>Q (.l (jZ xs lo hi))
 | .s z=>z.length<=WT/\Q (.s (Txt.slice z lo hi))
 | _=>False
theorem nO{l u:Option Expr}{tlo thi:TO}{qlo qhi:QO}(he:QPE X K e te qe)(hl:QPO X K l tlo qlo)(hu:QPO X K u thi qhi)(hK:X.K=K:=by rfl):QPF X K (.Subscript e (.Slice l u none p2) pos) (tSl (RV K) te tlo thi) (qSl qe qlo qhi) :=
 ⟨yL (VE hK) he.h hl.h hu.h,fun dl H σ q Q R rd hq k=>he.s dl H σ q _ _ rd hq fun v t F H1 e1 r1 hz=>hl.s dl H1 σ q _ _ (rd.evo e1) hz fun lo H2 e2 hz=>hu.s dl H2 σ q _ _ ((rd.evo e1).evo e2) hz fun hi H3 e3 hz=>by
  have r3:=(r1.evo e1.d e2).evo e2.d e3;have E3:=(e1.trans e2).trans e3;have no:∀ b:Addr,b∈([]:List Addr)->H b=none:=fun _ z=>nomatch z
  split at hz
  ·obtain⟨p,vs,G,rfl,rfl,h1,h2⟩:=r3.r.lst;obtain rfl:=h2.im hz.1;obtain⟨G,h3,s3⟩:=h2.cut lo hi;obtain rfl:G = []:=YR.mp s3;refine .inl ⟨p,vs,rfl,SqL.of h1,fun p hp=>?_⟩
   have rs:Rps K dl H3 (mf vs lo hi) _ []:=⟨h3,fun c hc=>nomatch hc⟩
   exact k _ _ _ _ (E3.new hp) (rs.lst e3.d hp) (fun b hb=>by rw[qr.mp hb];exact E3.free hp) (by simp) hz.2
  ·obtain⟨p,vs,rfl,h1,h2⟩:=r3.r.tup;obtain rfl:=h2.im hz.1;obtain⟨G,h3,s3⟩:=h2.cut lo hi;obtain rfl:G = []:=YR.mp s3;refine .inr (.inl ⟨p,vs,rfl,SqT.of h1,fun hw=>?_,fun _ p hp=>?_⟩)
   ·refine k _ _ _ _ E3 r3 no W2 ?_;rw[h2.len]at hw;have hq2:=hz.2;rw[Ex hw]at hq2;exact hq2
   ·have rs:Rps K dl H3 (mf vs lo hi) _ []:=⟨h3,fun c hc=>nomatch hc⟩
    exact k _ _ _ _ (E3.new hp) (rs.tup e3.d hp) no W2 hz.2
  ·rename_i ns _ _;obtain⟨p,rfl,h1,_⟩:=r3.r.scr;refine .inl ⟨p,_,rfl,h1.sq,fun p hp=>?_⟩
   have e:mf (ns.map V.int) lo hi =(jZ ns lo hi).map V.int:=by unfold mf jZ;rw[PZ,<- List.map_drop,<- List.map_take]
   rw[e];have rs:Rps K dl H3 ((jZ ns lo hi).map V.int) ((jZ ns lo hi).map T.i) []:=⟨rB _,fun c hc=>nomatch hc⟩
   exact k _ _ _ _ (E3.new hp) (rs.lst e3.d hp) (fun b hb=>by rw[qr.mp hb];exact E3.free hp) (by simp) hz
  ·obtain⟨p,o,vs,rfl,rfl,h1,h2⟩:=r3.r.zls;obtain⟨G,h3,s3⟩:=h2.cut lo hi;obtain rfl:G = []:=YR.mp s3;refine .inl ⟨p,vs,rfl,.inl (.inr ⟨o,h1⟩),fun p hp=>?_⟩
   have rs:Rps K dl H3 (mf vs lo hi) _ []:=⟨h3,fun c hc=>nomatch hc⟩
   exact k _ _ _ _ (E3.new hp) (rs.lst e3.d hp) (fun b hb=>by rw[qr.mp hb];exact E3.free hp) (by simp) hz
  ·obtain⟨rfl,rfl⟩:=r3.r.str;exact .inr (.inr ⟨_,rfl,hz.1,k _ _ [] H3 E3 (.c (.s _)) no W2 hz.2⟩)
  ·exact hz.elim⟩
abbrev QC:=List T ->(T->Prop)->Prop
def uD(K:W.Frag)(r:List V->Hp->VK->Prop)(rq:QC):Prop:=∀(dl:Dl)(H:Hp)(vs:List V)(ts:List T)(F:List Addr)(Q:T->Prop)(R:V->Hp->Prop),Dls dl H->Rps K dl H vs ts F->rq ts Q ->
 (∀ v z F' H',Evo dl H H'->Rp K dl H' v z F' ->(∀ b∈F',H b=none)->F'.Nodup->Q z->R v H')->r vs H R
def qCB(rq:QC)(ql:QA):QE:=fun q Q=>ql q fun ts=>rq ts Q
theorem Gj{rq:QC}(h:uD K r rq)(hl:BD K n tl ql):m5 K (tCB r tl) (qCB rq ql):=fun dl H σ q Q R rd hq k=>hl dl H σ q _ _ rd hq fun vs ts F H1 e1 r1 _ hz =>
 h dl H1 vs ts F Q R e1.d r1 hz fun v z F' H2 e2 r2 f2 n2 hz=>k v z F' H2 (e1.trans e2) r2 (fun b hb=>e1.free (f2 b hb)) n2 hz
theorem iW{id:String}{rq:QC}(hc:c7 X (.builtin id) r)(hs:uD K r rq)(hg:Gl X x)(hm:X.mg x=none)(hv:bootBuiltins x=some (.builtin id))(ha:QPA X K (e::es) tl ql)(hn:x ≠ "__name__":=by decide)(hdb:(x ==("__debug__":Str))=false:=by decide)
  (he:QX (e::es) X.env =(false,eval e X.env)::QX es X.env:=by rfl) (hpl:(backTo pos (QX es X.env)).any (·.1)=false:=by rfl):QPF X K (.Call (.Name x p) (e::es) [] pos) (tCB r tl) (qCB rq ql):=⟨rS hc hg hm hv ha.h hn hdb he hpl,Gj hs ha.s⟩
theorem ez{id:String}{rq:QC}(hc:c7 X (.type id) r)(hs:uD K r rq)(hg:Gl X x)(hm:X.mg x=none)(hv:bootBuiltins x=some (.type id))(ha:QPA X K (e::es) tl ql)(hn:x ≠ "__name__":=by decide)(hdb:(x ==("__debug__":Str))=false:=by decide)
  (he:QX (e::es) X.env =(false,eval e X.env)::QX es X.env:=by rfl) (hpl:(backTo pos (QX es X.env)).any (·.1)=false:=by rfl):QPF X K (.Call (.Name x p) (e::es) [] pos) (tCB r tl) (qCB rq ql):=⟨DM hc hg hm hv ha.h hn hdb he hpl,Gj hs ha.s⟩
theorem Rps.one{dl:Dl}{vs:List V}{t:T}{F:List Addr}(h:Rps K dl H vs [t] F):∃ v,vs = [v]/\Rp K dl H v t F:=by
 obtain⟨r,n⟩:=h;cases r with
 | cons r1 r2 =>
  cases r2;rw[Xh]at n;rw[Xh];exact⟨_,rfl,r1,n⟩
theorem Rps.two{dl:Dl}{vs:List V}{t u:T}{F:List Addr}(h:Rps K dl H vs [t,u] F):∃ v w F1 F2,vs = [v,w]/\Rp K dl H v t F1/\Rp K dl H w u F2:=by
 obtain⟨r,n⟩:=h;cases r with
 | cons r1 r2 =>
  obtain⟨w,rfl,h2⟩:=Rps.one ⟨r2,fun b hb=>n b (W7 _ hb)⟩
  exact⟨_,w,_,_,rfl,⟨r1,fun b hb=>n b (Xf _ hb)⟩,h2⟩
def GG(K:W.Frag):List V->Hp->VK->Prop:=fun xs H Q=>(∃ p ys,xs = [.ref p]/\(SqL K H p ys\/SqT K H p ys)/\Q (.int ys.length) H)\/(∃ z,xs = [.str z]/\z.length<=WT/\Q (.int z.length) H)\/∃ a kvs,xs = [V.ref a]/\H a=some (.dK kvs)/\Q (.int kvs.length) H
theorem EL(hK:X.K=K):c7 X (.builtin "len") (GG K):=by subst hK;exact ot.or (xy.or EK)
def OX:QC:=fun ts Q=>match ts with
 | [.l xs]=>Q (.i xs.length)
 | [.t xs]=>Q (.i xs.length)
 | [.z xs]=>Q (.i xs.length)
 | [.zl xs]=>Q (.i xs.length)
 | [.d xs]=>Q (.i xs.length)
 | [.s x]=>x.length<=WT/\Q (.i x.length)
 | _=>False
theorem Ky:uD K (GG K) OX:=by
 intro dl H vs ts F Q R D r hq k;have fin:∀ n:Nat,Q (.i n)->R (.int n) H:=fun n hq=>k _ _ [] H (.refl D) (.c (.i _)) (fun _ z=>nomatch z) W2 hq
 unfold OX at hq
 split at hq
 ·obtain⟨v,rfl,r'⟩:=r.one;obtain⟨p,vs,G,rfl,_,h1,h2⟩:=r'.r.lst;exact .inl ⟨p,vs,rfl,.inl (SqL.of h1),fin _ (by rw[h2.len];exact hq)⟩
 ·obtain⟨v,rfl,r'⟩:=r.one;obtain⟨p,vs,rfl,h1,h2⟩:=r'.r.tup;exact .inl ⟨p,vs,rfl,.inr (SqT.of h1),fin _ (by rw[h2.len];exact hq)⟩
 ·obtain⟨v,rfl,r'⟩:=r.one;obtain⟨p,rfl,h1,_⟩:=r'.r.scr;exact .inl ⟨p,_,rfl,.inl h1.sq,fin _ (by rw[PZ];exact hq)⟩
 ·obtain⟨v,rfl,r'⟩:=r.one;obtain⟨p,o,vs,rfl,_,h1,h2⟩:=r'.r.zls;exact .inl ⟨p,vs,rfl,.inl (.inl (.inr ⟨o,h1⟩)),fin _ (by rw[h2.len];exact hq)⟩
 ·obtain⟨v,rfl,r'⟩:=r.one;obtain⟨p,vs,G,rfl,_,h1,h2⟩:=r'.r.dic;exact .inr (.inr ⟨p,vs,rfl,h1,fin _ (by rw[h2.len];exact hq)⟩)
 ·obtain⟨v,rfl,r'⟩:=r.one;obtain⟨rfl,_⟩:=r'.r.str;exact .inr (.inl ⟨_,rfl,hq.1,fin _ hq.2⟩)
 ·exact hq.elim
def qI2(g:Int->Int->Int):QC:=fun ts Q=>match ts with
 | [.i a,.i b]=>Q (.i (g a b))
 | _=>False
theorem Ac{g:Int->Int->Int}:uD K (fun xs H Q=>∃ i j,xs = [.int i,.int j]/\Q (.int (g i j)) H) (qI2 g):=by
 intro dl H vs ts F Q R D r hq k;unfold qI2 at hq
 split at hq
 ·obtain⟨v,w,F1,F2,rfl,r1,r2⟩:=r.two;obtain⟨rfl,_⟩:=r1.r.int;obtain⟨rfl,_⟩:=r2.r.int;exact⟨_,_,rfl,k _ _ [] H (.refl D) (.c (.i _)) (fun _ z=>nomatch z) W2 hq⟩
 ·exact hq.elim
def Sr:QC:=fun ts Q=>match ts with
 | [.i a]=>Q (.i a)
 | [.b k]=>Q (.i (if k then 1 else 0))
 | _=>False
theorem vF:uD K (fun xs H Q=>(∃ i,xs = [.int i]/\Q (.int i) H)\/∃ k,xs = [.bl k]/\Q (.int (if k then 1 else 0)) H) Sr:=by
 intro dl H vs ts F Q R D r hq k;unfold Sr at hq
 split at hq
 ·obtain⟨v,rfl,r'⟩:=r.one;obtain⟨rfl,_⟩:=r'.r.int;exact .inl ⟨_,rfl,k _ _ [] H (.refl D) (.c (.i _)) (fun _ z=>nomatch z) W2 hq⟩
 ·obtain⟨v,rfl,r'⟩:=r.one;obtain⟨rfl,_⟩:=r'.r.bl;exact .inr ⟨_,rfl,k _ _ [] H (.refl D) (.c (.i _)) (fun _ z=>nomatch z) W2 hq⟩
 ·exact hq.elim
def GV:QC:=fun ts Q=>match ts with
 | [.l xs]=>T.ims xs=true/\Q (.t xs)
 | [.t xs]=>T.ims xs=true/\Q (.t xs)
 | _=>False
theorem ve(hK:X.K=K):c7 X (.type "tuple") (fun xs H Q=>∃ p ys,xs = [.ref p]/\((SqL K H p ys/\∀ l,H l=none->Q (.ref l) (upd H l (.tup ys)))\/(SqT K H p ys/\Q (.ref p) H))):=by subst hK;exact ux
theorem uL:uD K (fun xs H Q=>∃ p ys,xs = [.ref p]/\((SqL K H p ys/\∀ l,H l=none->Q (.ref l) (upd H l (.tup ys)))\/(SqT K H p ys/\Q (.ref p) H))) GV:=by
 intro dl H vs ts F Q R D r hq k;have no:∀ b:Addr,b∈([]:List Addr)->H b=none:=fun _ z=>nomatch z
 unfold GV at hq
 split at hq
 ·obtain⟨v,rfl,r'⟩:=r.one;obtain⟨p,vs,G,rfl,rfl,h1,h2⟩:=r'.r.lst;obtain rfl:=h2.im hq.1;refine⟨p,vs,rfl,.inl ⟨SqL.of h1,fun l hl=>?_⟩⟩
  have rs:Rps K dl H vs _ []:=⟨h2,fun c hc=>nomatch hc⟩
  exact k _ _ _ _ ((Evo.refl D).new hl) (rs.tup D hl) no W2 hq.2
 ·obtain⟨v,rfl,r'⟩:=r.one;obtain⟨p,vs,rfl,h1,h2⟩:=r'.r.tup;obtain rfl:=h2.im hq.1;exact⟨p,vs,rfl,.inr ⟨SqT.of h1,k _ _ [] H (.refl D) r' no W2 hq.2⟩⟩
 ·exact hq.elim
def picks{α:Type}(f:T->Option α):List T->Option (List α)
 | []=>some []
 | t::r=>(f t).bind fun a=>(picks f r).map (a :: ·)
theorem ak.picks{dl:Dl}{H:Hp}{α:Type}{f:T->Option α}{g:α->V}(hf:∀(v:V)(t:T)(F:List Addr)(a:α),ax K dl H v t F->f t=some a->v=g a){vs:List V}{ts:List T}{F:List Addr}(h:ak K dl H vs ts F):∀{bs:List α},L2.picks f ts=some bs->vs=bs.map g :=
 h.ind (M:=fun vs ts _=>∀{bs:List α},L2.picks f ts=some bs->vs=bs.map g) (fun e=>by cases e;rfl) fun v t vs ts F G h _ ih bs e=>by
  obtain⟨a,e1,e2⟩:=Option.bind_eq_some_iff.mp e;obtain⟨as,e3,rfl⟩:=Xg.mp e2;rw[hf v t F a h e1,ih e3];rfl
def asI:T->Option Int
 | .i x=>some x
 | _=>none
theorem Kg(ns:List Int):preSum (fun i=>ns.getD i 0) ns.length=ns.sum:=by
 have h:∀ n,n<=ns.length->preSum (fun i=>ns.getD i 0) n =(ns.take n).sum:=fun n=>by
  induction n with
  | zero=>intro _;simp[preSum]
  | succ n ih =>
   intro hn;have hn':n<ns.length:=by omega
   show preSum _ n+ns.getD n 0=_;rw[ih (by omega),Xu,RH hn',X4,RH hn']
   simp only[ZE,List.sum_append,Zz,List.sum_nil,Option.getD_some,YC]
 rw[h _ (Xa _),Xv]
theorem FG{i:Nat}{v:Value}(r:Vals (ns.map V.int) us)(h:us[i]? = some v):∃ t,v = .int (ns.getD i 0) t:=by
 have hl:=r.length;rw[PZ]at hl;have hi:i<ns.length:=by have:=(VZ.mp h).1;omega
 obtain⟨u,h1,t,h2⟩:=r.get (i:=i) (x:=.int ns[i]) (by simp[hi])
 rw[h]at h1;cases h1;exact⟨t,by rw[h2];simp[List.getD,hi]⟩
theorem EH(hK:X.K=K)(hc:X.calm=true):c7 X (.builtin "sum") (fun xs H Q=>∃(l:Addr)(ns:List Int),xs = [.ref l]/\SqL K H l (ns.map V.int)/\Q (.int ns.sum) H):=by
 subst hK;intro j0 s σ H xs us Q I r h;obtain⟨l,ns,rfl,hl,q⟩:=h;obtain⟨u,rfl,ru⟩:=vals1 r;cases ru;obtain⟨its,rv,pl,hz⟩:=I.list hl;have hlt:l<s.heap.objs.size:=by obtain⟨_,e,_⟩:=pl.isList;exact Xe e
 have hlen:its.toArray.size=ns.length:=by
  have e:=rv.length;rw[PZ]at e;simp[e]
 refine call_sum_walkG (wpAny_pyIter_list pl.isList ?_);refine⟨s.heap.objs.size,[s.heap.objs.size,l],[s.heap.objs.size],its.toArray.size,_,_,fun i=>ns.getD i 0,rfl,Walks.list (show X.A.in1.handled=none from I.ok.hd hc) s.heap.objs.size l (Xo hlt) its.toArray,⟨⟨_,W8 _ rfl,rfl,rfl⟩,pl.isList.push _⟩,?_,?_,fun h' tk t' hk=>?_⟩
 ·intro b hb;rw[Xq];rcases QH.mp hb with e|hb
  ·rw[e];exact XE _
  ·rw[qr.mp hb];exact XS hlt
 ·intro i v hP;exact FG rv (by simpa using hP)
 ·refine⟨.int ns.sum,H,I.kept (t':=tk) (h':=h') fun b o e=>hk b o (by simpa using Xo (Xe e)) (j3 _ e),⟨t',?_⟩,q⟩
  rw[hlen,Kg]
abbrev ins:List T->Option (List Int):=picks asI
theorem ak.ins{dl:Dl}{H:Hp}{vs:List V}{ts:List T}{F:List Addr}{bs:List Int}(h:ak K dl H vs ts F)(e:L2.ins ts=some bs):vs=bs.map V.int :=
 h.picks (f:=asI) (fun v t F a h e=>by cases t <;> first |(cases e;exact h.int.1)|cases e) e
theorem ins_map(bs:List Int):ins (bs.map T.i)=some bs:=by
 induction bs with
 | nil=>rfl
 | cons b r ih=>show(ins (r.map T.i)).map (b :: ·)=_;rw[ih];rfl
def Sb:QC:=fun ts Q=>match ts with
 | [.l xs]=>∃ bs,ins xs=some bs/\Q (.i bs.sum)
 | _=>False
theorem Ku:uD K (fun xs H Q=>∃(l:Addr)(ns:List Int),xs = [.ref l]/\SqL K H l (ns.map V.int)/\Q (.int ns.sum) H) Sb:=by
 intro dl H vs ts F Q R D r hq k;unfold Sb at hq
 split at hq
 ·obtain⟨v,rfl,r'⟩:=r.one;obtain⟨p,vs,G,rfl,rfl,h1,h2⟩:=r'.r.lst;obtain⟨bs,hb,hq⟩:=hq;have e:=h2.ins hb;subst e;exact⟨p,bs,rfl,SqL.of h1,k _ _ [] H (.refl D) (.c (.i _)) (fun _ z=>nomatch z) W2 hq⟩
 ·exact hq.elim
end
structure pR where
 nx:Sq->Prop
 rt:T->Prop
 bk:Sq->Prop:=fun _=>False
 ct:Sq->Prop:=fun _=>False
 ru:Sq->T->Prop:=fun _ _=>False
abbrev QS:=pR->Sq->Prop
structure Frm(dl:Dl)(H₀ H:Hp):Prop where
 k:∀ b o,H₀ b=some o->Nd dl b->NR o->H b=some o
 r:∀ a x,H₀ a=some (.room x)->∃ y,y<=x/\H a=some (.room y)
variable{H₀:Hp}
theorem Frm.evo{dl:Dl}(f:Frm dl H₀ H)(D:Dls dl H):Evo dl H₀ H:=⟨f.k,D,f.r⟩
theorem Frm.refl{dl:Dl}:Frm dl H H:=⟨fun _ _ h _ _=>h,fun _ x h=>⟨x,X0 _,h⟩⟩
variable{H':Hp}
theorem Frm.trans{dl:Dl}(f:Frm dl H₀ H)(e:Evo dl H H'):Frm dl H₀ H':=⟨fun b o h n r=>e.k b o (f.k b o h n r) n r,fun a x h=>let⟨y,hy,h1⟩:=f.r a x h;let⟨z,hz,h2⟩:=e.r a y h1;⟨z,X9 hz hy,h2⟩⟩
structure Rel(K:W.Frag)(dl:Dl)(H₀:Hp)(hs:List (V×T))(H:Hp)(σ:St)(q:Sq)(F:Nat->List Addr):Prop where
 d:Dls dl H
 g:∀(i:Nat)(x:Sl)(t:T),q[i]? = some x->x.get=some t->∃ v,σ[i]? = some (some v)/\Rp K dl H v t (F i)
 n:∀(i:Nat)(x:Sl),q[i]? = some x->x.get=none->F i = []
 z:∀(i:Nat),q.length<=i->F i = []
 o:∀(i:Nat)(t:T),q[i]? = some (.o t) ->(F i).Nodup/\(∀ b∈F i,H₀ b=none)/\(∀ j,j≠i->∀ b∈F i,b ∉ F j)
 h:∀ p∈hs,∃ Fp,Rp K dl H p.1 p.2 Fp/\∀(i:Nat)(t:T),q[i]? = some (.o t)->∀ b∈F i,b ∉ Fp
 f:Frm dl H₀ H
 l:q.length=σ.length
def fu(K:W.Frag)(dl:Dl)(H₀:Hp)(hs:List (V×T))(H:Hp)(σ:St)(q:Sq):Prop:=∃ F,Rel K dl H₀ hs H σ q F
variable{F':List Addr}
section
variable{X:Cx}{K:W.Frag}{dl:Dl}{hs:List (V×T)}{σ:St}{q:Sq}{F:Nat->List Addr}
theorem Rel.rd(r:Rel K dl H₀ hs H σ q F):RdR K dl H σ q:=⟨r.d,fun i x t h1 h2=>let⟨v,e,p⟩:=r.g i x t h1 h2;⟨v,F i,e,p⟩⟩
theorem Rel.fz(r:Rel K dl H₀ hs H σ q F){b:Addr}(h:H b=none):H₀ b=none:=by
 exact(r.f.evo r.d).free h
theorem Rel.fA(r:Rel K dl H₀ hs H σ q F){i:Nat}{b:Addr}(hb:b∈F i):cI H b:=by
 by_cases hi:i<q.length
 ·have e:q[i]? = some q[i]:=by simp[hi]
  cases ex:q[i].get with
  | none=>rw[r.n i _ e ex]at hb;cases hb
  | some t =>
   obtain⟨v,_,p⟩:=r.g i _ t e ex;exact p.r.there b hb
 ·rw[r.z i (by omega)]at hb;cases hb
theorem Rel.evo(r:Rel K dl H₀ hs H σ q F)(e:Evo dl H H'):Rel K dl H₀ hs H' σ q F where
 d:=e.d
 g:=fun i x t h1 h2=>let⟨v,e1,p⟩:=r.g i x t h1 h2;⟨v,e1,p.evo r.d e⟩
 n:=r.n
 z:=r.z
 o:=r.o
 h:=fun p hp=>let⟨Fp,h1,h2⟩:=r.h p hp;⟨Fp,h1.evo r.d e,h2⟩
 f:=r.f.trans e
 l:=r.l
def pU(F:Nat->List Addr)(i:Nat)(x:List Addr):Nat->List Addr:=fun j=>if j=i then x else F j
theorem aI{i:Nat}{x:List Addr}:pU F i x i=x:=if_pos rfl
theorem aB{i:Nat}{x:List Addr}(h:j≠i):pU F i x j=F j:=if_neg h
theorem get_set{α:Type}{xs:List α}{i:Nat}{x y:α}(h:(xs.set i x)[j]? = some y):(j=i/\y=x/\i<xs.length)\/(j≠i/\xs[j]? = some y):=by
 by_cases e:j=i
 ·subst e;rw[List.getElem?_set_self']at h;by_cases hl:j<xs.length
  ·rw[RH hl]at h;exact .inl ⟨rfl,(Option.some.inj h).symm,hl⟩
  ·rw[YN (by omega)]at h;cases h
 ·rw[XM (fun z=>e z.symm)]at h
  exact .inr ⟨e,h⟩
theorem Rel.put{i:Nat}{v:V}{t:T}(r:Rel K dl H₀ hs H σ q F)(hi:i<q.length)(e:Evo dl H H')(hv:Rp K dl H' v t F')(hf:∀ b∈F',H b=none)(hn:F'.Nodup):Rel K dl H₀ hs H' (σ.set i (some v)) (q.set i (.o t)) (pU F i F'):=by
 have r':=r.evo e;have out:∀ j,∀ b∈F',b ∉ F j:=fun j b hb hj=>(r.fA hj).no (hf b hb)
 refine⟨e.d,fun j x u h1 h2=>?_,fun j x h1 h2=>?_,fun j hj=>?_,fun j u h1=>?_,fun p hp=>?_,r'.f,by simp[r.l]⟩
 ·rcases get_set h1 with⟨rfl,rfl,_⟩ |⟨ne,h1⟩
  ·cases h2;exact⟨v,by rw[XX (by rw[<- r.l];exact hi)],by rw[aI];exact hv⟩
  ·obtain⟨w,h3,h4⟩:=r'.g j x u h1 h2;exact⟨w,by rw[XM (fun z=>ne z.symm)];exact h3,by rw[aB ne];exact h4⟩
 ·rcases get_set h1 with⟨rfl,rfl,_⟩ |⟨ne,h1⟩
  ·cases h2
  ·rw[aB ne];exact r.n j x h1 h2
 ·rw[XW]at hj;rw[aB (by omega)]
  exact r.z j hj
 ·rcases get_set h1 with⟨rfl,_,_⟩ |⟨ne,h1⟩
  ·rw[aI];exact⟨hn,fun b hb=>r.fz (hf b hb),fun k hk b hb=>by rw[aB hk];exact out k b hb⟩
  ·rw[aB ne];obtain⟨o1,o2,o3⟩:=r.o j u h1;refine⟨o1,o2,fun k hk b hb=>?_⟩
   by_cases ek:k=i
   ·subst ek;rw[aI];exact fun z=>out j b z hb
   ·rw[aB ek];exact o3 k hk b hb
 ·obtain⟨Fp,h1,h2⟩:=r.h p hp;refine⟨Fp,h1.evo r.d e,fun j u hj b hb z=>?_⟩
  rcases get_set hj with⟨rfl,_,_⟩ |⟨ne,hj⟩
  ·rw[aI]at hb;exact cI.no (h1.r.there b z) (hf b hb)
  ·rw[aB ne]at hb;exact h2 j u hj b hb z
theorem Rel.SG{i:Nat}{v:V}{t:T}(r:Rel K dl H₀ hs H σ q F)(hi:i<q.length)(hv:Rp K dl H v t F')(hf:∀(j:Nat)(u:T),q[j]? = some (.o u)->j≠i->∀ b∈F j,b ∉ F'):Rel K dl H₀ hs H (σ.set i (some v)) (q.set i (.r t)) (pU F i F'):=by
 refine⟨r.d,fun j x u h1 h2=>?_,fun j x h1 h2=>?_,fun j hj=>?_,fun j u h1=>?_,fun p hp=>?_,r.f,by simp[r.l]⟩
 ·rcases get_set h1 with⟨rfl,rfl,_⟩ |⟨ne,h1⟩
  ·cases h2;exact⟨v,by rw[XX (by rw[<- r.l];exact hi)],by rw[aI];exact hv⟩
  ·obtain⟨w,h3,h4⟩:=r.g j x u h1 h2;exact⟨w,by rw[XM (fun z=>ne z.symm)];exact h3,by rw[aB ne];exact h4⟩
 ·rcases get_set h1 with⟨rfl,rfl,_⟩ |⟨ne,h1⟩
  ·cases h2
  ·rw[aB ne];exact r.n j x h1 h2
 ·rw[XW]at hj;rw[aB (by omega)]
  exact r.z j hj
 ·rcases get_set h1 with⟨rfl,e,_⟩ |⟨ne,h1⟩
  ·cases e
  ·rw[aB ne];obtain⟨o1,o2,o3⟩:=r.o j u h1;refine⟨o1,o2,fun k hk b hb=>?_⟩
   have z:=hf j u h1 ne b hb;by_cases ek:k=i
   ·subst ek;rw[aI];exact z
   ·rw[aB ek];exact o3 k hk b hb
 ·obtain⟨Fp,h1,h2⟩:=r.h p hp;refine⟨Fp,h1,fun j u hj b hb z=>?_⟩
  rcases get_set hj with⟨rfl,e,_⟩ |⟨ne,hj⟩
  ·cases e
  ·rw[aB ne]at hb;exact h2 j u hj b hb z
theorem Rel.hold{v:V}{t:T}(r:Rel K dl H₀ hs H σ q F)(hv:Rp K dl H v t F')(hf:∀(j:Nat)(u:T),q[j]? = some (.o u)->∀ b∈F j,b ∉ F'):Rel K dl H₀ ((v,t)::hs) H σ q F :=
 ⟨r.d,r.g,r.n,r.z,r.o,fun p hp=>by
  rcases QH.mp hp with e|hp
  ·subst e;exact⟨F',hv,hf⟩
  ·exact r.h p hp,r.f,r.l⟩
theorem Rel.down{i:Nat}{t:T}(r:Rel K dl H₀ hs H σ q F)(hi:q[i]? = some (.o t)):Rel K dl H₀ hs H σ (q.set i (.r t)) F:=by
 refine⟨r.d,fun j x u h1 h2=>?_,fun j x h1 h2=>?_,fun j hj=>r.z j (by rw[XW]at hj;exact hj),fun j u h1=>?_,fun p hp=>?_,r.f,by simp[r.l]⟩
 ·rcases get_set h1 with⟨rfl,rfl,_⟩ |⟨ne,h1⟩
  ·cases h2;exact r.g j _ t hi rfl
  ·exact r.g j x u h1 h2
 ·rcases get_set h1 with⟨rfl,rfl,_⟩ |⟨ne,h1⟩
  ·cases h2
  ·exact r.n j x h1 h2
 ·rcases get_set h1 with⟨rfl,e,_⟩ |⟨ne,h1⟩
  ·cases e
  ·exact r.o j u h1
 ·obtain⟨Fp,h1,h2⟩:=r.h p hp;refine⟨Fp,h1,fun j u hj=>?_⟩
  rcases get_set hj with⟨rfl,e,_⟩ |⟨ne,hj⟩
  ·cases e
  ·exact h2 j u hj
theorem Rel.write{i:Nat}{v:V}{t t':T}{p:Addr}{o:HO}(r:Rel K dl H₀ hs H σ q F)(hi:q[i]? = some (.o t))(hv:σ[i]? = some (some v))(hp:p∈F i)(ho:∀ xs,H p=some (.lst xs)->∃ ys,o = .lst ys)(hr:Rp K dl (upd H p o) v t' F')(hn:F'.Nodup)
  (hf:∀ b∈F',b∈F i\/(H₀ b=none/\(∀ j,b ∉ F j)/\∀ w u Fp,Rp K dl H w u Fp ->(w,u)∈hs->b ∉ Fp)):Rel K dl H₀ hs (upd H p o) σ (q.set i (.o t')) (pU F i F'):=by
 obtain⟨o1,o2,o3⟩:=r.o i t hi;have hil:i<q.length:=(VZ.mp hi).1;obtain⟨v',hv',rp⟩:=r.g i _ t hi rfl;have pn:Nd dl p:=rp.n p hp;have pth:=r.fA hp;have tf:TF H (upd H p o):=⟨fun a vs h=>(by
  rw[ai];exact h;intro z;subst z;obtain⟨_,e,m⟩:=pth;rw[h]at e;cases e;cases m),fun a ob u h=>(by
  rw[ai];exact h;intro z;subst z;obtain⟨_,e,m⟩:=pth;rw[h]at e;cases e;cases m),fun a φ h=>(by
  rw[ai];exact h;intro z;subst z;obtain⟨_,e,m⟩:=pth;rw[h]at e;cases e;cases m),fun a xs h=>(by
  by_cases z:a=p
  ·subst z;obtain⟨ys,e⟩:=ho xs h;exact⟨ys,by rw[aw,e]⟩
  ·exact⟨xs,by rw[ai z];exact h⟩),fun a x h=>⟨x,X0 _,by
  rw[ai];exact h;intro z;subst z;obtain⟨_,e,m⟩:=pth;rw[h]at e;cases e;cases m⟩⟩
 have st:∀{w:V}{u:T}{Fw:List Addr},Rp K dl H w u Fw->p ∉ Fw->Rp K dl (upd H p o) w u Fw:=fun{w u Fw} h np =>
  ⟨h.r.b6 tf (fun _ z=>z) fun b hb ob e=>(by
   have ne:b≠p:=by
    intro z;subst z;exact np hb
   rw[ai ne];exact e),h.n⟩
 refine⟨fun d hd=>(r.d d hd).other (pn d hd).1 (pn d hd).2,fun j x u h1 h2=>?_,fun j x h1 h2=>?_,fun j hj=>?_,fun j u h1=>?_,fun w hw=>?_,⟨fun b ob hb nb nr=>?_,fun b x hb=>?_⟩,by simp[r.l]⟩
 ·rcases get_set h1 with⟨rfl,rfl,_⟩ |⟨ne,h1⟩
  ·cases h2;exact⟨v,hv,by rw[aI];exact hr⟩
  ·obtain⟨w,h3,h4⟩:=r.g j x u h1 h2;exact⟨w,h3,by rw[aB ne];exact st h4 (o3 j ne p hp)⟩
 ·rcases get_set h1 with⟨rfl,rfl,_⟩ |⟨ne,h1⟩
  ·cases h2
  ·rw[aB ne];exact r.n j x h1 h2
 ·rw[XW]at hj;rw[aB (by omega)]
  exact r.z j hj
 ·rcases get_set h1 with⟨rfl,e,_⟩ |⟨ne,h1⟩
  ·rw[aI];refine⟨hn,fun b hb=>?_,fun k hk b hb=>?_⟩
   ·rcases hf b hb with z|z
    ·exact o2 b z
    ·exact z.1
   ·rw[aB hk];rcases hf b hb with z|z
    ·exact o3 k hk b z
    ·exact z.2.1 k
  ·rw[aB ne];obtain⟨p1,p2,p3⟩:=r.o j u h1;refine⟨p1,p2,fun k hk b hb=>?_⟩
   by_cases ek:k=i
   ·subst ek;rw[aI];intro z;rcases hf b z with z|z
    ·exact o3 j ne b z hb
    ·exact z.2.1 j hb
   ·rw[aB ek];exact p3 k hk b hb
 ·obtain⟨Fp,h1,h2⟩:=r.h w hw;refine⟨Fp,st h1 (h2 i t hi p hp),fun j u hj b hb z=>?_⟩
  rcases get_set hj with⟨rfl,e,_⟩ |⟨ne,hj⟩
  ·rw[aI]at hb;rcases hf b hb with y|y
   ·exact h2 j t hi b y z
   ·exact y.2.2 w.1 w.2 Fp h1 hw z
  ·rw[aB ne]at hb;exact h2 j u hj b hb z
 ·rw[ai]
  ·exact r.f.k b ob hb nb nr
  ·intro z;subst z;rw[o2 b hp]at hb;cases hb
 ·obtain⟨y,hy,e⟩:=r.f.r b x hb;refine⟨y,hy,?_⟩;rw[ai]
  ·exact e
  ·intro z;subst z;rw[o2 b hp]at hb;cases hb
end
structure Qx(K:W.Frag)(dl:Dl)(H₀:Hp)(hs:List (V×T))(Dq:pR)(D:Ends):Prop where
 nx:∀ H σ q,fu K dl H₀ hs H σ q->Dq.nx q->D.nx σ H
 bk:∀ H σ q,fu K dl H₀ hs H σ q->Dq.bk q->D.bk σ H
 ct:∀ H σ q,fu K dl H₀ hs H σ q->Dq.ct q->D.ct σ H
 rt:∀ v t F H,Dls dl H->Rp K dl H v t F ->(∀ b∈F,H₀ b=none)->F.Nodup->Frm dl H₀ H->Dq.rt t->D.rt v H
 ru:∀ H σ q F0 v t F,Rel K dl H₀ hs H σ q F0->Rp K dl H v t F ->(∀ b∈F,H₀ b=none)->F.Nodup ->(∀ j,∀ b∈F,b ∉ F0 j)->Dq.ru q t->D.rt v H
def pz(K:W.Frag)(ts:TS)(qs:QS):Prop:=∀(dl:Dl)(H₀:Hp)(hs:List (V×T))(H:Hp)(σ:St)(q:Sq)(Dq:pR)(D:Ends),fu K dl H₀ hs H σ q->qs Dq q->Qx K dl H₀ hs Dq D->ts D σ H
structure QPS(X:Cx)(K:W.Frag)(st:Stmt)(ts:TS)(qs:QS):Prop where
 h:PS X st ts
 s:pz K ts qs
structure m7(X:Cx)(K:W.Frag)(st:List Stmt)(ts:TS)(qs:QS):Prop where
 h:PSs X st ts
 s:pz K ts qs
variable{q:Sq}{pos':Pos}
section
variable{X:Cx}{K:W.Frag}{st:Stmt}{rest sa sb:List Stmt}{t u:TS}{qt qu:QS}{e c:Expr}{te:TE}{qe:QE}{tc:TT}{qc:QT}{pos:Pos}
def GY:QS:=fun D q=>D.nx q
def GW(t u:QS):QS:=fun D q=>t { D with nx:=u D } q
theorem cb:m7 X K [] BQ GY:=⟨Ca,fun _ _ _ H σ q _ _ r hq E=>E.nx H σ q r hq⟩
theorem ah(h1:QPS X K st t qt)(h2:m7 X K rest u qu):m7 X K (st::rest) (RC t u) (GW qt qu):=⟨bK h1.h h2.h,fun dl H₀ hs H σ q Dq D r hq E =>
 h1.s dl H₀ hs H σ q _ _ r hq ⟨fun H σ q r' hq'=>h2.s dl H₀ hs H σ q _ _ r' hq' E,E.bk,E.ct,E.rt,E.ru⟩⟩
theorem aj(h1:QPS X K st t qt):m7 X K [st] t qt:=⟨jo h1.h,h1.s⟩
theorem KZ:QPS X K (.Pass pos) BQ GY:=⟨Li,fun _ _ _ H σ q _ _ r hq E=>E.nx H σ q r hq⟩
theorem bg(he:QPF X K e te qe):QPS X K (.Return (some e) pos) (Ke te) (fun D q=>qe q D.rt):=⟨oM he.h,fun dl H₀ hs H σ q Dq D ⟨F,r⟩ hq E =>
 he.s dl H σ q _ _ r.rd hq fun v t F' H' e1 r1 f1 n1 hz=>E.rt v t F' H' e1.d r1 (fun b hb=>r.fz (f1 b hb)) n1 (r.evo e1).f hz⟩
theorem qz{i:Nat}(he:PE X e (cm i)):QPS X K (.Return (some e) pos) (Ke (cm i)) (fun D q=>match q[i]? with|some (.o t)=>D.rt t | _=>False):=⟨oM he,fun dl H₀ hs H σ q Dq D ⟨F,r⟩ hq E=>by
 split at hq
 ·rename_i t e1;obtain⟨v,hv,rp⟩:=r.g i _ t e1 rfl;obtain⟨o1,o2,o3⟩:=r.o i t e1;exact⟨v,hv,E.rt v t (F i) H r.d rp o2 o1 r.f hq⟩
 ·exact hq.elim⟩
def Ss(c:QT)(t u:QS):QS:=fun D q=>c q fun b=>if b=true then t D q else u D q
theorem bR(hc:QPT X K c tc qc)(ha:m7 X K sa t qt)(hb:m7 X K sb u qu):QPS X K (.If c sa sb pos) (Ol tc t u) (Ss qc qt qu):=⟨Hf hc.h ha.h hb.h,fun dl H₀ hs H σ q Dq D ⟨F,r⟩ hq E =>
 hc.s dl H σ q _ _ r.rd hq fun b H' e1 hz=>by
  cases b with
  | true=>exact ha.s dl H₀ hs H' σ q Dq D ⟨F,r.evo e1⟩ hz E
  | false=>exact hb.s dl H₀ hs H' σ q Dq D ⟨F,r.evo e1⟩ hz E⟩
def yE(i:Nat)(qe:QE):QS:=fun D q=>qe q fun t=>D.nx (q.set i (.o t))
theorem Rel.eD{dl:Dl}{hs:List (V×T)}{σ:St}{F:Nat->List Addr}{i:Nat}{v:V}{t:T}(r:Rel K dl H₀ hs H σ q F)(e:Evo dl H H')(hv:Rp K dl H' v t F')(hf:∀ b∈F',H b=none)(hn:F'.Nodup):fu K dl H₀ hs H' (σ.set i (some v)) (q.set i (.o t)):=by
 by_cases hi:i<q.length
 ·exact⟨_,r.put hi e hv hf hn⟩
 ·have hl:=r.l;rw[Y5 (by omega),Y5 (by omega)]
  exact⟨F,r.evo e⟩
theorem BV{i:Nat}(he:m5 K te qe):pz K (ni te (gU i)) (yE i qe):=fun dl H₀ hs H σ q Dq D ⟨F,r⟩ hq E=>he dl H σ q _ _ r.rd hq fun v t F' H' e1 r1 f1 n1 hz=>E.nx H' _ _ (r.eD e1 r1 f1 n1) hz
theorem ON{i:Nat}(hN:X.N.Nodup)(hi:X.N[i]? = some x)(hx:Loc X.env.scope x)(he:QPF X K e te qe)(hs:swapsWith e (some (.Name x pos')) pos.line X.env=pure false:=by rfl)(hf:X.fn x=true\/X.env.scope.names.lookup x=some .local:=by first|exact .inl rfl|exact .inr rfl|assumption) :
  QPS X K (.Assign [.Name x pos'] e pos) (ni te (gU i)) (yE i qe):=⟨jq hN hi hx he.h hs hf,BV he.s⟩
inductive Ob(tb:QS)(D:pR)(W:Nat->Sq->Prop)(m:Nat)(q:Sq):Prop
 | mk(N:Sq->Prop)(less:∀ q',N q'->∃ m',m'<m/\W m' q')(body:tb { D with nx:=N,ct:=N,bk:=D.nx } q)
inductive WhileI(c:QT)(tb:QS)(D:pR)(q:Sq):Prop
 | mk (W:Nat->Sq->Prop) (h0:∃ m,W m q) (turn:∀ m q,W m q->c q fun b=>if b=true then Ob tb D W m q else D.nx q)
def OT(c:QT)(tb:QS):QS:=fun D q=>WhileI c tb D q
theorem iV(hp:Zt (model X.prog X.w) X.A X.env X.xe)(hc:QPT X K c tc qc)(hb:m7 X K rest t qt):QPS X K (.While c rest [] pos) (vy tc t) (OT qc qt):=⟨rP hp hc.h hb.h,fun dl H₀ hs H σ q Dq D r hq E=>by
 obtain⟨W,⟨m0,w0⟩,turn⟩:=hq;refine⟨fun m σ H=>∃ q,fu K dl H₀ hs H σ q/\W m q,⟨m0,q,r,w0⟩,?_⟩
 rintro m σ H ⟨q,⟨F,r⟩,w⟩
 refine hc.s dl H σ q _ _ r.rd (turn m q w) fun b H1 e1 hz=>?_
 cases b with
 | false=>exact E.nx H1 σ q ⟨F,r.evo e1⟩ hz
 | true =>
  obtain⟨N,hN,hz⟩:=hz;refine⟨fun σ' H'=>∃ q',fu K dl H₀ hs H' σ' q'/\N q',fun σ' H' ⟨q',r',n'⟩=>?_,?_⟩
  ·obtain⟨m',hm,w'⟩:=hN q' n';exact⟨m',hm,q',r',w'⟩
  ·exact hb.s dl H₀ hs H1 σ q _ _ ⟨F,r.evo e1⟩ hz ⟨fun H σ q r n=>⟨q,r,n⟩,fun H σ q r n=>E.nx H σ q r n,fun H σ q r n=>⟨q,r,n⟩,E.rt,E.ru⟩⟩
end
abbrev PSp:=List T ->(T->Prop)->Prop
def spQ(K:W.Frag)(ps:PSp):Sp:=fun vs H Q _=>∃(dl:Dl)(ts:List T)(F:List Addr)(Qp:T->Prop),Dls dl H/\Rps K dl H vs ts F/\ps ts Qp /\
 ∀ v t F' H',Evo dl H H'->Rp K dl H' v t F' ->(∀ b∈F',H b=none)->F'.Nodup->Qp t->Q v H'
section
variable{X:Cx}{K:W.Frag}{e:Expr}{es:List Expr}{tl:TA}{ql:QA}{pos p:Pos}{k:Nat}{f:Addr}{fd:FuncData}{prs:List Str}{ps:PSp}
def rO(ps:PSp)(ql:QA):QE:=fun q Q=>ql q fun ts=>ps ts Q
theorem Gm(ha:BD K n tl ql):m5 K (qR (spQ K ps) [] E0 tl) (rO ps ql):=fun dl H σ q Q R rd hq k=>ha dl H σ q _ _ rd hq fun vs ts F H1 e1 r1 _ hz=>by
 show spQ K ps (vs ++ []) H1 R E0;rw[Xh];exact⟨dl,ts,F,Q,e1.d,r1,hz,fun v t F' H' e r f n hz=>k v t F' H' (e1.trans e) r (fun b hb=>e1.free (f b hb)) n hz⟩
theorem Ld(F:aP X.prog X.w X.K X.mg X.base CX0 k f fd prs (spQ K ps))(hr:bT k X.A)(hg:Gl X x)(hm:X.mg x=some (.ref f))(hk:W.keepIn X.K (.ref f)=true)(hb:Binds X.K fd prs [])(ha:QPA X K (e::es) tl ql)
  (hdb:(x ==("__debug__":Str))=false:=by decide) (he:QX (e::es) X.env =(false,eval e X.env)::QX es X.env:=by rfl) (hpl:(backTo pos (QX es X.env)).any (·.1)=false:=by rfl) :
  QPF X K (.Call (.Name x p) (e::es) [] pos) (qR (spQ K ps) [] E0 tl) (rO ps ql):=⟨we F hr hg hm hk hb .nil kB ha.h hdb he hpl,Gm ha.s⟩
end
theorem uO{K:W.Frag}{dl:Dl}{vs:List V}{ts:List T}{F:List Addr}(D:Dls dl H)(r:Rps K dl H vs ts F)(hn:vs.length<=n):fu K dl H [] H (vs.map some++Xp (n - vs.length) none) (ts.map Sl.r++Xp (n - vs.length) .no):=by
 have hl:=r.r.len;have main:∀{vs:List V}{ts:List T}{F:List Addr},ak K dl H vs ts F ->(∀ b∈F,Nd dl b)->∃ Fs:Nat->List Addr,(∀(i:Nat)(t:T),ts[i]? = some t->∃ v,vs[i]? = some v/\Rp K dl H v t (Fs i))/\∀ i,ts.length<=i->Fs i = []:=by
  intro vs ts F h
  induction ts generalizing vs F with
  | nil=>intro _;exact⟨fun _=>[],fun i t e=>by simp at e,fun _ _=>rfl⟩
  | cons t ts ih =>
   cases h with
   | @cons v0 _ vs0 _ F1 G1 h1 h2 =>
    intro hn;obtain⟨Fs,g1,g2⟩:=ih h2 fun b hb=>hn b (W7 _ hb)
    refine⟨fun i=>match i with | 0=>F1|i+1=>Fs i,fun i u e=>?_,fun i hi=>?_⟩
    ·cases i with
     | zero =>
      simp at e;subst e;exact⟨_,by simp,h1,fun b hb=>hn b (Xf _ hb)⟩
     | succ i =>
      obtain⟨v,e1,e2⟩:=g1 i u (by simpa using e)
      exact⟨v,by simpa using e1,e2⟩
    ·cases i with
     | zero=>simp at hi
     | succ i=>exact g2 i (by simpa using hi)
 obtain⟨Fs,g1,g2⟩:=main r.r r.n;have lk:∀(i:Nat)(y:Sl),(ts.map Sl.r++Xp (n - vs.length) Sl.no)[i]? = some y ->(∃ t,ts[i]? = some t/\y = .r t)\/(ts.length<=i/\y = .no):=fun i y h=>by
  by_cases hi:i<ts.length
  ·rw[XN (by simpa using hi),Xc,RH hi]at h
   exact .inl ⟨ts[i],by simp,(Option.some.inj h).symm⟩
  ·rw[XG (by simpa using hi),Yv]at h
   split at h
   ·exact .inr ⟨by omega,(Option.some.inj h).symm⟩
   ·cases h
 refine⟨Fs,D,fun i y t h1 h2=>?_,fun i y h1 h2=>?_,fun i hi=>?_,fun i t h1=>?_,fun p hp=>(by cases hp),.refl,by simp[hl]⟩
 ·rcases lk i y h1 with⟨u,e,rfl⟩ |⟨_,rfl⟩
  ·cases h2;obtain⟨v,e1,e2⟩:=g1 i t e;refine⟨v,?_,e2⟩;have hi:i<vs.length:=(VZ.mp e1).1;rw[XN (by simpa using hi),Xc,e1]
   rfl
  ·cases h2
 ·rcases lk i y h1 with⟨u,e,rfl⟩ |⟨hi,rfl⟩
  ·cases h2
  ·exact g2 i hi
 ·refine g2 i ?_;simp at hi;omega
 ·rcases lk i _ h1 with⟨u,e,z⟩ |⟨_,z⟩ <;> cases z
variable{P:Program}{mg:Str->Option Value}{base:Heap}{qual:Str}{fd:FuncData}{N:List Str}
theorem Fun.okQ{w:World}{K:W.Frag}{st:Stmt}{f:Addr}{ps:List Str}{k:Nat}{psp:PSp}(F:Fun K x qual st f fd)(S:aC N ps (ao st))(len:∀ ts Q,psp ts Q->ts.length=ps.length)
  (kT:∀(cdv:Value)(A:Around)(outer:List Env)(s:Shared)(H:Hp)(E:XK),bT k (A.deeper (envOfC qual (ao st) s.heap.objs.size f cdv)) ->
   ∃ t qs,m7 (sV CX0 P w K mg base N qual (ao st) f cdv A outer s H E).nox K (bG st) t qs/\∀ ts Q,psp ts Q->qs { nx:=fun _=>Q .n,rt:=Q } (ts.map Sl.r++Xp (N.length - ts.length) .no)):aP P w K mg base CX0 (k+1) f fd ps (spQ K psp):=by
 have hPN:ps.length<=N.length:=by have:=congrArg ZT S.pre;rw[X7]at this;omega
 refine F.ok S (fun vs H Q E h=>?_) (fun cdv A outer s H vs Q E hr h=>?_)
 ·obtain⟨dl,ts,F,Qp,_,r,h,_⟩:=h;rw[r.r.len];exact len ts Qp h
 ·obtain⟨dl,ts,Fp,Qp,D,r,h,fin⟩:=h;obtain⟨t,qs,hb,hq⟩:=kT cdv A outer s H E hr;refine⟨t,hb.h,?_⟩;have hlen:=len ts Qp h;have hl:=r.r.len;have z:=hq ts Qp h;have R:=uO (n:=N.length) D r (by omega)
  rw[<- hl]at z;refine hb.s dl H [] H _ _ _ _ R z ⟨fun H' σ q ⟨F,r'⟩ hz=>?_,fun _ _ _ _ hz=>hz.elim,fun _ _ _ _ hz=>hz.elim,fun v t F H' D' r' f' n' fr hz=>?_,fun _ _ _ _ _ _ _ _ _ _ _ _ z=>z.elim⟩
  ·exact fin .non .n [] H' (r'.f.evo r'.d) ⟨.n,fun _ z=>nomatch z⟩ (fun _ z=>nomatch z) W2 hz
  ·exact fin v t F H' (fr.evo D') r' f' n' hz
structure xT(K:W.Frag)(dl:Dl)(J:It)(xs:List T)(hv:List (V×T)):Prop where
 go:∀(H:Hp)(i:Nat),Dls dl H ->(∀ p∈hv,∃ F,Rp K dl H p.1 p.2 F)->i<xs.length->J.go i H
 yld:∀(H:Hp)(i:Nat)(x:T)(fp:V×T->List Addr)(v:V)(H':Hp),Dls dl H ->(∀ p∈hv,Rp K dl H p.1 p.2 (fp p))->xs[i]? = some x->J.yld i H v H'->Evo dl H H'/\∃ F,Rp K dl H' v x F/\∀ b∈F,H b=none\/∃ p∈hv,b∈fp p
 stop:∀(H:Hp),Dls dl H ->(∀ p∈hv,∃ F,Rp K dl H p.1 p.2 F)->J.stop xs.length H
section
variable{X:Cx}{K:W.Frag}{dl:Dl}
theorem xi{xs:List T}:xT K dl (Itl K a) xs [(.ref a,.l xs)] where
 go:=fun H i D h hi=>by
  obtain⟨F,r⟩:=h _ (qr.mpr rfl);obtain⟨p,vs,G,e,_,h1,h2⟩:=r.r.lst;cases e;exact⟨vs,vs[i]'(by rw[h2.len];exact hi),SqL.of h1,by simp[h2.len,hi]⟩
 yld:=fun H i x fp v H' D h hx y=>by
  have r:=h _ (qr.mpr rfl);obtain⟨p,vs,G,e,eF,h1,h2⟩:=r.r.lst;cases e;obtain⟨rfl,y⟩:=y;obtain⟨w,G',hw,rw',hs⟩:=h2.get hx;have e2:=y vs (SqL.of h1);rw[hw]at e2;cases e2;have sub:∀ b∈G',b∈fp (V.ref a,T.l xs):=fun b hb=>by
   rw[eF];exact Es _ (hs b hb)
  exact⟨.refl D,G',⟨rw',fun b hb=>r.n b (sub b hb)⟩,fun b hb=>.inr ⟨_,qr.mpr rfl,sub b hb⟩⟩
 stop:=fun H D h=>by
  obtain⟨F,r⟩:=h _ (qr.mpr rfl);obtain⟨p,vs,G,e,_,h1,h2⟩:=r.r.lst;cases e;exact⟨vs,SqL.of h1,by rw[h2.len];exact Xa _⟩
theorem TN{xs:List T}:xT K dl (Itl K a) xs [(.ref a,.zl xs)] where
 go:=fun H i D h hi=>by
  obtain⟨F,r⟩:=h _ (qr.mpr rfl);obtain⟨p,o,vs,e,_,h1,h2⟩:=r.r.zls;cases e;exact⟨vs,vs[i]'(by rw[h2.len];exact hi),.inl (.inr ⟨o,h1⟩),by simp[h2.len,hi]⟩
 yld:=fun H i x fp v H' D h hx y=>by
  have r:=h _ (qr.mpr rfl);obtain⟨p,o,vs,e,eF,h1,h2⟩:=r.r.zls;cases e;obtain⟨rfl,y⟩:=y;obtain⟨w,G',hw,rw',hs⟩:=h2.get hx;have e2:=y vs (.inl (.inr ⟨o,h1⟩));rw[hw]at e2;cases e2;exact⟨.refl D,G',⟨rw',fun b hb=>nomatch hs b hb⟩,fun b hb=>nomatch hs b hb⟩
 stop:=fun H D h=>by
  obtain⟨F,r⟩:=h _ (qr.mpr rfl);obtain⟨p,o,vs,e,_,h1,h2⟩:=r.r.zls;cases e;exact⟨vs,.inl (.inr ⟨o,h1⟩),by rw[h2.len];exact Xa _⟩
theorem Ii{xs:List T}:xT K dl (Itt K a) xs [(.ref a,.t xs)] where
 go:=fun H i D h hi=>by
  obtain⟨F,r⟩:=h _ (qr.mpr rfl);obtain⟨p,vs,e,h1,h2⟩:=r.r.tup;cases e;exact⟨vs,vs[i]'(by rw[h2.len];exact hi),SqT.of h1,by simp[h2.len,hi]⟩
 yld:=fun H i x fp v H' D h hx y=>by
  have r:=h _ (qr.mpr rfl);obtain⟨p,vs,e,h1,h2⟩:=r.r.tup;cases e;obtain⟨rfl,y⟩:=y;obtain⟨w,G',hw,rw',hs⟩:=h2.get hx;have e2:=y vs (SqT.of h1);rw[hw]at e2;cases e2;exact⟨.refl D,G',⟨rw',fun b hb=>r.n b (hs b hb)⟩,fun b hb=>.inr ⟨_,qr.mpr rfl,hs b hb⟩⟩
 stop:=fun H D h=>by
  obtain⟨F,r⟩:=h _ (qr.mpr rfl);obtain⟨p,vs,e,h1,h2⟩:=r.r.tup;cases e;exact⟨vs,SqT.of h1,by rw[h2.len];exact Xa _⟩
theorem Ij{lo:Int}:xT K dl (Itr lo n) ((Xt n).map fun i=>.i (lo+(i:Nat))) [] where
 go:=fun H i D h hi=>by
  show i<n;simpa using hi
 yld:=fun H i x fp v H' D h hx y=>by
  obtain⟨rfl,rfl⟩:=y;rw[Xc]at hx;cases e:(Xt n)[i]? with
  | none=>rw[e]at hx;cases hx
  | some j =>
   rw[e]at hx;have hj:j=i:=by
    have:=VZ.mp e
    obtain⟨h1,h2⟩:=this;simp at h2;exact h2.symm
   subst hj;cases hx;exact⟨.refl D,[],.c (.i _),fun _ z=>nomatch z⟩
 stop:=fun H D h=>by show n<=_;simp
abbrev QI:=Sq ->(List T->Prop)->Prop
def UL(K:W.Frag)(wi:TI)(iq:QI):Prop:=∀(dl:Dl)(H:Hp)(σ:St)(q:Sq)(Q:List T->Prop)(R:It->Hp->Prop),RdR K dl H σ q->iq q Q ->
 (∀ xs J hv H',Evo dl H H'->xT K dl J xs hv ->(∀ p∈hv,∃ F,Rp K dl H' p.1 p.2 F)->Q xs->R J H')->wi σ H R
structure QPI(X:Cx)(K:W.Frag)(tg iter:Expr)(wi:TI)(iq:QI):Prop where
 h:PI X tg iter wi
 s:UL K wi iq
abbrev QJ:=Sq ->(List T->Sq->Prop)->Prop
def WS(K:W.Frag)(wi:TI)(iq:QJ):Prop:=∀(dl:Dl)(H₀:Hp)(hs:List (V×T))(H:Hp)(σ:St)(q:Sq)(Q:List T->Sq->Prop)(R:It->Hp->Prop),fu K dl H₀ hs H σ q->iq q Q ->
 (∀ xs J hv H' q',fu K dl H₀ (hv++hs) H' σ q'->xT K dl J xs hv->Q xs q'->R J H')->wi σ H R
structure QPJ(X:Cx)(K:W.Frag)(tg iter:Expr)(wi:TI)(iq:QJ):Prop where
 h:PI X tg iter wi
 s:WS K wi iq
variable{tg e a b:Expr}{te ta tb:TE}{qe qa qb:QE}{tl:TA}{ql:QA}{pos p:Pos}
theorem yK(hK:X.K=K)(h:PE X e te):PI X tg e (Cu K te):=by subst hK;exact qF h
theorem Cd(hK:X.K=K)(h:PE X e te):PI X tg e (Mu K te):=by subst hK;exact Pb h
def asL(qe:QE):QI:=fun q Q=>qe q fun t=>match t with | .l xs=>Q xs | .zl xs=>Q xs | _=>False
def asT(qe:QE):QI:=fun q Q=>qe q fun t=>match t with | .t xs=>Q xs | _=>False
theorem nN(h:QPE X K e te qe)(hK:X.K=K:=by rfl):QPI X K tg e (Cu K te) (asL qe):=⟨yK hK h.h,fun dl H σ q Q R rd hq k=>h.s dl H σ q _ _ rd hq fun v t F H' e1 r hz=>by
 split at hz
 ·obtain⟨p,vs,G,rfl,rfl,h1,h2⟩:=r.r.lst;exact⟨p,rfl,⟨vs,SqL.of h1⟩,k _ _ _ H' e1 xi (fun p hp=>by rw[qr.mp hp];exact⟨_,r⟩) hz⟩
 ·obtain⟨p,o,vs,rfl,rfl,h1,h2⟩:=r.r.zls;exact⟨p,rfl,⟨vs,.inl (.inr ⟨o,h1⟩)⟩,k _ _ _ H' e1 TN (fun p hp=>by rw[qr.mp hp];exact⟨_,r⟩) hz⟩
 ·exact hz.elim⟩
theorem kj(h:QPE X K e te qe)(hK:X.K=K:=by rfl):QPI X K tg e (Mu K te) (asT qe):=⟨Cd hK h.h,fun dl H σ q Q R rd hq k=>h.s dl H σ q _ _ rd hq fun v t F H' e1 r hz=>by
 split at hz
 ·obtain⟨p,vs,rfl,h1,h2⟩:=r.r.tup;exact⟨p,rfl,⟨vs,SqT.of h1⟩,k _ _ _ H' e1 Ii (fun p hp=>by rw[qr.mp hp];exact⟨_,r⟩) hz⟩
 ·exact hz.elim⟩
def Gx(lo:Int)(n:Nat):List T:=(Xt n).map fun i=>.i (lo+(i:Nat))
theorem vU{lo:Int}{i:Nat}{x:T}(h:(Gx lo n)[i]? = some x):x = .i (lo+(i:Nat))/\i<n:=by
 unfold Gx at h;rw[Xc]at h;obtain⟨j,hj,rfl⟩:=Xg.mp h;obtain⟨h1,h2⟩:=VZ.mp hj;simp at h1 h2;subst h2;exact⟨rfl,h1⟩
theorem nI{lo:Int}:(Gx lo n).length=n:=by simp[Gx]
def Ql(ql:QA):QI:=fun q Q=>ql q fun ts=>match ts with | [.i n]=>-(2 ^ 62)<=n/\n<2 ^ 62/\Q (Gx 0 n.toNat) | _=>False
theorem DC(hg:Gl X "range")(hm:X.mg "range" = none)(ha:QPA X K [a] tl ql)(hs:QX [a] X.env = [(false,eval a X.env)]:=by rfl):QPI X K tg (.Call (.Name "range" p) [a] [] pos) (Io tl) (Ql ql):=⟨uU hg hm ha.h hs,fun dl H σ q Q R rd hq k=>ha.s dl H σ q _ _ rd hq fun vs ts F H' e1 r _ hz=>by
 split at hz
 ·obtain⟨v,rfl,r'⟩:=r.one;obtain⟨rfl,_⟩:=r'.r.int;exact⟨_,rfl,hz.1,hz.2.1,k _ _ [] H' e1 Ij (fun _ z=>nomatch z) hz.2.2⟩
 ·exact hz.elim⟩
def asJ(iq:QI):QJ:=fun q Q=>iq q fun xs=>Q xs q
theorem oK(hg:Gl X "range")(hm:X.mg "range" = none)(ha:QPA X K [a] tl ql)(hs:QX [a] X.env = [(false,eval a X.env)]:=by rfl):QPJ X K tg (.Call (.Name "range" p) [a] [] pos) (Io tl) (asJ (Ql ql)):=⟨uU hg hm ha.h hs,fun dl H₀ hs H σ q Q R ⟨F0,r0⟩ hq k=>ha.s dl H σ q _ _ r0.rd hq fun vs ts F H' e1 r _ hz=>by
 split at hz
 ·obtain⟨v,rfl,r'⟩:=r.one;obtain⟨rfl,_⟩:=r'.r.int;exact⟨_,rfl,hz.1,hz.2.1,k _ _ [] H' q ⟨F0,r0.evo e1⟩ Ij hz.2.2⟩
 ·exact hz.elim⟩
theorem Aq(h:QPF X K e te qe)(hK:X.K=K:=by rfl):QPJ X K tg e (Mu K te) (asJ (asT qe)):=⟨Cd hK h.h,fun dl H₀ hs H σ q Q R ⟨F0,r0⟩ hq k=>h.s dl H σ q _ _ r0.rd hq fun v t F H' e1 r f n hz=>by
 split at hz
 ·have r1:=(r0.evo e1).hold r fun j u hj b hb z=>(r0.fA hb).no (f b z)
  obtain⟨p,vs,rfl,h1,h2⟩:=r.r.tup;exact⟨p,rfl,⟨vs,SqT.of h1⟩,k _ _ _ H' q ⟨F0,r1⟩ Ii hz⟩
 ·exact hz.elim⟩
def asN(i:Nat):QJ:=fun q Q=>match q[i]? with
 | some (.o (.l xs))=>Q xs (q.set i (.r (.l xs)))
 | some (.r (.l xs))=>Q xs q
 | _=>False
theorem K8{i:Nat}(h:PE X e (cm i))(hK:X.K=K:=by rfl):QPJ X K tg e (Cu K (cm i)) (asN i):=⟨yK hK h,fun dl H₀ hs H σ q Q R ⟨F0,r0⟩ hq k=>by
 unfold asN at hq
 split at hq
 ·rename_i xs e1;obtain⟨v,hv,r⟩:=r0.g i _ _ e1 rfl;obtain⟨o1,o2,o3⟩:=r0.o i _ e1;have r1:=(r0.down e1).hold r fun j u hj b hb=>by
   rcases get_set hj with⟨_,z,_⟩ |⟨ne,hj⟩
   ·cases z
   ·exact(r0.o j u hj).2.2 i (fun z=>ne z.symm) b hb
  obtain⟨p,vs,G,rfl,_,h1,h2⟩:=r.r.lst;exact⟨_,hv,p,rfl,⟨vs,SqL.of h1⟩,k _ _ _ H _ ⟨F0,r1⟩ xi hq⟩
 ·rename_i xs e1;obtain⟨v,hv,r⟩:=r0.g i _ _ e1 rfl;have r1:=r0.hold r fun j u hj b hb=>(r0.o j u hj).2.2 i (fun z=>by subst z;rw[e1]at hj;cases hj) b hb
  obtain⟨p,vs,G,rfl,_,h1,h2⟩:=r.r.lst;exact⟨_,hv,p,rfl,⟨vs,SqL.of h1⟩,k _ _ _ H _ ⟨F0,r1⟩ xi hq⟩
 ·exact hq.elim⟩
inductive Tg where
 | nm(i:Nat)|tp (is:List Nat)
def pV(q:Sq):List Nat->List T->Option Sq
 | [],[]=>some q
 | i::is,x::xs=>if i<q.length then pV (q.set i (.r x)) is xs else none
 | _,_=>none
def Tg.put(g:Tg)(x:T)(q:Sq):Option Sq:=match g with
 | .nm i=>if i<q.length then some (q.set i (.r x))else none
 | .tp is=>match x with | .t xs=>pV q is xs | _=>none
def xm:List Nat->TGs
 | []=>Qc
 | i::is=>Cw (gU i) (xm is)
def Tg.h(K:W.Frag):Tg->TG
 | .nm i=>gU i
 | .tp is=>MC K is.length (xm is)
theorem uP{H₀ H:Hp}{hs:List (V×T)}:∀{is:List Nat}{vs:List V}{xs:List T}{G:List Addr}{σ:St}{q q':Sq}{F:Nat->List Addr}{R:St->Hp->Prop},Rel K dl H₀ hs H σ q F->ak K dl H vs xs G ->(∀ b∈G,Nd dl b) ->
  (∀(j:Nat)(u:T),q[j]? = some (.o u)->∀ b∈F j,b ∉ G)->pV q is xs=some q' ->(∀ σ',fu K dl H₀ hs H σ' q'->R σ' H)->xm is vs σ H R
 | [],vs,xs,G,σ,q,q',F,R,r,rs,_,_,hp,k=>by
  cases xs with
  | cons _ _=>cases hp
  | nil =>
   cases rs;cases hp;exact⟨rfl,k σ ⟨F,r⟩⟩
 | i::is,vs,xs,G,σ,q,q',F,R,r,rs,hn,ho,hp,k=>by
  cases xs with
  | nil=>cases hp
  | cons x xs =>
   cases rs with
   | cons r1 r2 =>
    unfold pV at hp;by_cases hi:i<q.length
    ·rw[if_pos hi]at hp;refine⟨_,_,rfl,?_⟩;have r':=r.SG hi ⟨r1,fun b hb=>hn b (Xf _ hb)⟩ fun j u hj _ b hb z=>ho j u hj b hb (Xf _ z)
     refine uP r' r2 (fun b hb=>hn b (W7 _ hb)) (fun j u hj b hb z=>?_) hp k
     rcases get_set hj with⟨_,z',_⟩ |⟨ne,hj⟩
     ·cases z'
     ·rw[aB ne]at hb;exact ho j u hj b hb (W7 _ z)
    ·rw[if_neg hi]at hp;cases hp
theorem Gz{hs:List (V×T)}{g:Tg}{v:V}{x:T}{σ:St}{q':Sq}{F:Nat->List Addr}{R:St->Hp->Prop}(r:Rel K dl H₀ hs H σ q F)(rx:Rp K dl H v x G)
  (ho:∀(j:Nat)(u:T),q[j]? = some (.o u)->∀ b∈F j,b ∉ G) (hp:g.put x q=some q') (k:∀ σ',fu K dl H₀ hs H σ' q'->R σ' H):g.h K v σ H R:=by
 cases g with
 | nm i =>
  replace hp:(if i<q.length then some (q.set i (.r x))else none)=some q':=hp
  by_cases hi:i<q.length
  ·rw[if_pos hi]at hp;cases hp;exact k _ ⟨_,r.SG hi rx fun j u hj _=>ho j u hj⟩
  ·rw[if_neg hi]at hp;cases hp
 | tp is =>
  cases x with
  | t xs =>
   replace hp:pV q is xs=some q':=hp
   obtain⟨p,vs,rfl,h1,h2⟩:=rx.r.tup;have hl:∀{is:List Nat}{xs:List T}{q q':Sq},pV q is xs=some q'->xs.length=is.length:=fun{is}=>by
    induction is with
    | nil=>intro xs q q' h;cases xs with
     | nil=>rfl
     | cons _ _=>cases h
    | cons i is ih=>intro xs q q' h;cases xs with
     | nil=>cases h
     | cons x xs =>
      unfold pV at h;by_cases hi:i<q.length
      ·rw[if_pos hi]at h;simp[ih h]
      ·rw[if_neg hi]at h;cases h
   exact⟨p,vs,rfl,SqT.of h1,by rw[h2.len];exact hl hp,uP r h2 rx.n ho hp k⟩
  | _=>cases hp
end
variable{tg:Expr}{iter:Expr}{body:List Stmt}{cap:List (Option Nat)}{iq:QI}{tst:TT}{oJ:QT}{te:TE}{qe:QE}{N':List Str}{sc:Scope}{elt:Expr}{ifs:List Expr}
section
variable{X:Cx}{K:W.Frag}{dl:Dl}{hs:List (V×T)}{σ:St}{F:Nat->List Addr}
theorem Rel.vw{hv:List (V×T)}(r:Rel K dl H₀ (hv++hs) H σ q F):Rel K dl H₀ hs H σ q F:=⟨r.d,r.g,r.n,r.z,r.o,fun p hp=>r.h p (W7 _ hp),r.f,r.l⟩
theorem Rel.fps{hv:List (V×T)}(r:Rel K dl H₀ (hv++hs) H σ q F):∃ fp:V×T->List Addr,∀ p∈hv,Rp K dl H p.1 p.2 (fp p)/\∀(i:Nat)(t:T),q[i]? = some (.o t)->∀ b∈F i,b ∉ fp p:=by
 classical
 refine⟨fun p=>if h:p∈hv then(r.h p (Xf _ h)).choose else [],fun p hp=>?_⟩
 have z:=(r.h p (Xf _ hp)).choose_spec;simp only[dif_pos hp];exact z
inductive UR(g:Tg)(qb:QS)(D:pR)(xs:List T)(q0:Sq):Prop
 | mk(I:Nat->Sq->Prop)(h0:I 0 q0)(step:∀ i x q,xs[i]? = some x->I i q->∃ q',g.put x q=some q'/\qb { D with nx:=I (i+1),ct:=I (i+1),bk:=D.nx } q')(fin:∀ q,I xs.length q->D.nx q)
def Sw(iq:QJ)(g:Tg)(qb:QS):QS:=fun D q=>iq q fun xs q0=>UR g qb D xs q0
theorem jk{wi:TI}{iq:QJ}{g:Tg}{tb:TS}{qb:QS}{pos:Pos}(hp:Zt (model X.prog X.w) X.A X.env X.xe)(hc:X.calm=true)(hi:QPJ X K tg iter wi iq)(hg:PG X tg (g.h K))(hb:m7 X K body tb qb)
  (hs:∀ x,foldedSetIterable iter X.env x=pure x:=by intro _;rfl):QPS X K (.For tg iter body [] pos) (RE wi (g.h K) tb) (Sw iq g qb):=⟨Hg hp hc hi.h hg hb.h hs,fun dl H₀ hs H σ q Dq D r hq E=>by
 refine hi.s dl H₀ hs H σ q _ _ r hq fun xs J hv H1 q1 r1 it hz=>?_
 obtain⟨I,i0,turn,fin⟩:=hz;refine⟨fun i m σ H=>m=xs.length - i/\i<=xs.length/\∃ q,fu K dl H₀ (hv++hs) H σ q/\I i q,⟨xs.length,by simp,XU _,q1,r1,i0⟩,?_⟩
 rintro i m σ H ⟨rfl,hi',q,⟨F,r⟩,hI⟩
 have held:∀ p∈hv,∃ F,Rp K dl H p.1 p.2 F:=fun p hp=>let⟨Fp,h,_⟩:=r.h p (Xf _ hp);⟨Fp,h⟩
 by_cases hlt:i<xs.length
 ·refine .inr ⟨it.go H i r.d held hlt,fun σ' H'=>∃ q,fu K dl H₀ (hv++hs) H' σ' q/\I (i+1) q,fun σ' H' h=>⟨xs.length - (i+1),by omega,rfl,hlt,h⟩,fun v H' y=>?_⟩
  obtain⟨fp,hfp⟩:=r.fps;have hx:xs[i]? = some xs[i]:=by simp[hlt]
  obtain⟨e1,G,rx,hG⟩:=it.yld H i xs[i] fp v H' r.d (fun p hp=>(hfp p hp).1) hx y
  obtain⟨q',hq',hz⟩:=turn i xs[i] q hx hI;refine Gz (r.evo e1) rx (fun j u hj b hb z=>?_) hq' fun σ2 r2=>hb.s dl H₀ (hv++hs) H' σ2 q' _ _ r2 hz ⟨fun H σ q r n=>⟨q,r,n⟩,fun H σ q ⟨F,r⟩ n=>E.nx H σ q ⟨F,r.vw⟩ n,fun H σ q r n=>⟨q,r,n⟩,E.rt,fun H σ q F0 v t F r=>E.ru H σ q F0 v t F r.vw⟩
  rcases hG b z with h |⟨p,hp,h⟩
  ·exact(r.fA hb).no h
  ·exact(hfp p hp).2 j u hj b hb h
 ·have e:i=xs.length:=by omega
  subst e;exact .inl ⟨it.stop H r.d held,E.nx H σ q ⟨F,r.vw⟩ (fin q hI)⟩⟩
def k4(cap:List (Option Nat))(q:Sq):Sq:=cap.map fun o=>match o with
 | none=>.no
 | some i=>match q[i]? with
  | some (.o t)=>.r t
  | some (.r t)=>.r t
  | _=>.no
theorem KP(r:RdR K dl H σ q):RdR K dl H (oo cap σ) (k4 cap q):=⟨r.d,fun j x t h1 h2=>by
 unfold k4 at h1;rw[Xc]at h1;cases e:cap[j]? with
 | none=>rw[e]at h1;cases h1
 | some o =>
  rw[e]at h1;cases o with
  | none=>cases h1;cases h2
  | some i =>
   have go:∀ y:Sl,q[i]? = some y->y.get=some t->∃ v F,(oo cap σ)[j]? = some (some v)/\Rp K dl H v t F:=fun y hy ht=>by
    obtain⟨v,F,h3,h4⟩:=r.g i y t hy ht;refine⟨v,F,?_,h4⟩;unfold oo;rw[Xc,e];show some ((σ[i]?).join)=_;rw[h3];rfl
   replace h1:(match q[i]? with|some (.o t)=>Sl.r t|some (.r t)=>.r t | _=>.no)=x:=Option.some.inj h1
   split at h1
   ·rename_i u eq;subst h1;cases h2;exact go _ eq rfl
   ·rename_i u eq;subst h1;cases h2;exact go _ eq rfl
   ·subst h1;cases h2⟩
theorem RdR.set{i:Nat}{v:V}{x:T}{G:List Addr}(r:RdR K dl H σ q)(hl:i < σ.length)(rx:Rp K dl H v x G):RdR K dl H (σ.set i (some v)) (q.set i (.r x)):=⟨r.d,fun j y t h1 h2=>by
 rcases get_set h1 with⟨rfl,rfl,_⟩ |⟨ne,h1⟩
 ·cases h2;exact⟨v,G,by rw[XX hl],rx⟩
 ·obtain⟨w,F,h3,h4⟩:=r.g j y t h1 h2;exact⟨w,F,by rw[XM (fun z=>ne z.symm)];exact h3,h4⟩⟩
theorem RdR.any{i:Nat}{o:Option V}(r:RdR K dl H σ q)(hn:q[i]? = some .no):RdR K dl H (σ.set i o) q:=⟨r.d,fun j y t h1 h2=>by
 obtain⟨w,F,h3,h4⟩:=r.g j y t h1 h2;refine⟨w,F,?_,h4⟩;rw[XM]
 ·exact h3
 ·intro z;subst z;rw[hn]at h1;cases h1;cases h2⟩
def Tg.ixs:Tg->List Nat
 | .nm i=>[i]
 | .tp is=>is
theorem yt:∀{is:List Nat}{vs:List V}{xs:List T}{G:List Addr}{σ:St}{q q0 q':Sq}{R:St->Hp->Prop},RdR K dl H σ q->RdR K dl H σ q0->σ.length=q.length->ak K dl H vs xs G ->(∀ b∈G,Nd dl b) ->(∀ i∈is,q0[i]? = some .no)->pV q is xs=some q' ->
  (∀ σ',RdR K dl H σ' q'->RdR K dl H σ' q0->σ'.length=σ.length->R σ' H)->xm is vs σ H R
 | [],vs,xs,G,σ,q,q0,q',R,r,r0,_,rs,_,_,hp,k=>by
  cases xs with
  | cons _ _=>cases hp
  | nil =>
   cases rs;cases hp;exact⟨rfl,k σ r r0 rfl⟩
 | i::is,vs,xs,G,σ,q,q0,q',R,r,r0,hl,rs,hn,hf,hp,k=>by
  cases xs with
  | nil=>cases hp
  | cons x xs =>
   cases rs with
   | cons r1 r2 =>
    unfold pV at hp;by_cases hi:i<q.length
    ·rw[if_pos hi]at hp;refine⟨_,_,rfl,?_⟩;refine yt (r.set (by omega) ⟨r1,fun b hb=>hn b (Xf _ hb)⟩) (r0.any (hf i j5)) (by simp[hl]) r2 (fun b hb=>hn b (W7 _ hb)) (fun j hj=>hf j (Es _ hj)) hp fun σ' a b c=>k σ' a b (by simpa using c)
    ·rw[if_neg hi]at hp;cases hp
theorem yG:∀{is:List Nat}{xs:List T}{q q':Sq},pV q is xs=some q'->xs.length=is.length
 | [],[],_,_,_=>rfl
 | [],_::_,_,_,h=>by cases h
 | _::_,[],_,_,h=>by cases h
 | i::is,x::xs,q,q',h=>by
  unfold pV at h;by_cases hi:i<q.length
  ·rw[if_pos hi]at h;simp[yG h]
  ·rw[if_neg hi]at h;cases h
theorem RR{g:Tg}{v:V}{x:T}{q':Sq}{R:St->Hp->Prop}(r:RdR K dl H σ q)(hl:σ.length=q.length)(rx:Rp K dl H v x G)(hf:∀ i∈g.ixs,q[i]? = some .no)(hp:g.put x q=some q')
  (k:∀ σ',RdR K dl H σ' q'->RdR K dl H σ' q->σ'.length=σ.length->R σ' H):g.h K v σ H R:=by
 cases g with
 | nm i =>
  replace hp:(if i<q.length then some (q.set i (.r x))else none)=some q':=hp
  by_cases hi:i<q.length
  ·rw[if_pos hi]at hp;cases hp;exact k _ (r.set (by omega) rx) (r.any (hf i (qr.mpr rfl))) (by simp)
  ·rw[if_neg hi]at hp;cases hp
 | tp is =>
  cases x with
  | t xs =>
   replace hp:pV q is xs=some q':=hp
   obtain⟨p,vs,rfl,h1,h2⟩:=rx.r.tup;exact⟨p,vs,rfl,SqT.of h1,by rw[h2.len];exact yG hp,yt r r hl h2 rx.n hf hp k⟩
  | _=>cases hp
def NF:QT:=fun _ Q=>Q true
theorem F7:px K BO NF:=fun dl H σ q Q R rd hq k=>k true H (.refl rd.d) hq
inductive CompI(cap:List (Option Nat))(g:Tg)(tst:QT)(qe:QE)(q:Sq)(Q:T->Prop)(xs:List T):Prop
 | mk (hl:xs.length<WT) (I:Nat->List T->Prop) (h0:I 0 []) (step:∀ i x ys,xs[i]? = some x->I i ys->∃ q',g.put x (k4 cap q)=some q'/\tst q' fun b=>if b=true then qe q' fun y=>I (i+1) (ys ++ [y])else I (i+1) ys) (fin:∀ ys,I xs.length ys->Q (.l ys))
def Ha(cap:List (Option Nat))(iq:QI)(g:Tg)(tst:QT)(qe:QE):QE:=fun q Q=>iq q fun xs=>CompI cap g tst qe q Q xs
theorem yi{wi:TI}{g:Tg}(hi:UL K wi iq)(ht:px K tst oJ)(he:m5 K te qe)(hf:(g.ixs.all fun i=>cap[i]? == some none)=true):m5 K (uK cap wi (g.h K) tst te) (Ha cap iq g oJ qe):=by
 intro dl H σ q Q R rd hq k;refine hi dl H σ q _ _ rd hq fun xs J hv H1 e1 it held hz=>?_
 obtain⟨hlen,I,i0,turn,fin⟩:=hz;have rd1:=KP (cap:=cap) (rd.evo e1);have hno:∀ i∈g.ixs,(k4 cap q)[i]? = some .no:=fun i hi=>by
  have z:=XH.mp hf i hi;have z:cap[i]? = some none:=by simpa using z
  unfold k4;rw[Xc,z];rfl
 have hcl:(oo cap σ).length =(k4 cap q).length:=by simp[oo,k4]
 refine⟨fun i m vs σ' H'=>m=xs.length - i/\i<=xs.length/\∃ ts F,Evo dl H1 H'/\RdR K dl H' σ' (k4 cap q)/\σ'.length =(k4 cap q).length/\(∀ p∈hv,∃ F,Rp K dl H' p.1 p.2 F)/\Rps K dl H' vs ts F/\(∀ b∈F,H b=none)/\F.Nodup/\vs.length<=i/\I i ts,
  ⟨xs.length,by simp,XU _,[],[],.refl e1.d,rd1,hcl,held,⟨.nil,fun _ z=>nomatch z⟩,(fun _ z=>nomatch z),W2,Xa _,i0⟩,?_⟩
 rintro i m vs σ' H' ⟨rfl,hi',ts,F,e2,rd2,hl2,za,rs,fr,nd,hvl,hI⟩
 by_cases hlt:i<xs.length
 ·refine .inr ⟨it.go H' i e2.d za hlt,by omega,fun vs2 σ2 H2=>∃ ts F,Evo dl H1 H2/\RdR K dl H2 σ2 (k4 cap q)/\σ2.length =(k4 cap q).length/\(∀ p∈hv,∃ F,Rp K dl H2 p.1 p.2 F)/\Rps K dl H2 vs2 ts F/\(∀ b∈F,H b=none)/\F.Nodup/\vs2.length<=i+1/\I (i+1) ts,
   fun vs2 σ2 H2 h=>⟨xs.length - (i+1),by omega,rfl,hlt,h⟩,fun v H2 y=>?_⟩
  have hx:xs[i]? = some xs[i]:=by simp[hlt]
  obtain⟨fp,hfp⟩:∃ fp:V×T->List Addr,∀ p∈hv,Rp K dl H' p.1 p.2 (fp p):=by
   classical
   refine⟨fun p=>if h:p∈hv then(za p h).choose else [],fun p hp=>?_⟩
   simp only[dif_pos hp];exact(za p hp).choose_spec
  obtain⟨e3,G,rx,hG⟩:=it.yld H' i xs[i] fp v H2 e2.d hfp hx y;obtain⟨q',hq',hz⟩:=turn i xs[i] ts hx hI;have NZ:∀{H3:Hp},Evo dl H' H3->∀ p∈hv,∃ F,Rp K dl H3 p.1 p.2 F:=fun{H3} e p hp=>let⟨F,r⟩:=za p hp;⟨F,r.evo e2.d e⟩
  refine RR (rd2.evo e3) hl2 rx hno hq' fun σ3 r3 r30 l3=>?_
  refine ht dl H2 σ3 q' _ _ r3 hz fun b H4 e4 hz=>?_
  cases b with
  | false=>exact⟨ts,F,(e2.trans e3).trans e4,r30.evo e4,by omega,NZ (e3.trans e4),(rs.evo e2.d e3).evo e3.d e4,fr,nd,by omega,hz⟩
  | true =>
   refine he dl H4 σ3 q' _ _ (r3.evo e4) hz fun w t G' H5 e5 rw' f5 n5 hz=>?_
   have E:=(e2.trans e3).trans (e4.trans e5);have rs5:=((rs.evo e2.d e3).evo e3.d (e4.trans e5));refine⟨ts ++ [t],F++(G' ++ []),E,r30.evo (e4.trans e5),by omega,NZ (e3.trans (e4.trans e5)),⟨rs5.r.append (.cons rw'.r .nil),fun b hb=>?_⟩,fun b hb=>?_,?_,by simp;omega,hz⟩
   ·rcases Xj.mp hb with hb|hb
    ·exact rs.n b hb
    ·rw[Xh]at hb;exact rw'.n b hb
   ·rcases Xj.mp hb with hb|hb
    ·exact fr b hb
    ·rw[Xh]at hb;exact((e1.trans e2).trans (e3.trans e4)).free (f5 b hb)
   ·rw[Xh];refine XT.mpr ⟨nd,n5,fun x hx y hy exy=>?_⟩
    subst exy;have rs4:=(rs.evo e2.d e3).evo e3.d e4;exact cI.no (rs4.r.there x hx) (f5 x hy)
 ·have e:i=xs.length:=by omega
  subst e;refine .inl ⟨it.stop H' e2.d za,by omega,fun D hD=>?_⟩
  exact k _ _ _ _ ((e1.trans e2).new hD) (rs.lst e2.d hD) (fun b hb=>by
   rcases QH.mp hb with e|hb
   ·rw[e];exact(e1.trans e2).free hD
   ·exact fr b hb) (rs.fresh hD nd) (fin ts hI)
structure QB(X:Cx)(K:W.Frag)(N':List Str)(sc:Scope)(tg:Expr)(g:Tg)(ifs:List Expr)(tst:TT)(oJ:QT)(elt:Expr)(te:TE)(qe:QE):Prop where
 b:∀ cl C s₂ H₂ fp,PG (blk X N' sc cl C s₂ H₂ fp) tg (g.h K)/\PTs (blk X N' sc cl C s₂ H₂ fp) ifs tst/\PE (blk X N' sc cl C s₂ H₂ fp) elt te
 t:px K tst oJ
 e:m5 K te qe
theorem eB{g:Tg}(h:∀ cl C s₂ H₂ fp,PG (blk X N' sc cl C s₂ H₂ fp) tg (g.h K)/\QPF (blk X N' sc cl C s₂ H₂ fp) K elt te qe):QB X K N' sc tg g [] BO NF elt te qe :=
 ⟨fun cl C s₂ H₂ fp=>⟨(h cl C s₂ H₂ fp).1,B9,(h cl C s₂ H₂ fp).2.h⟩,F7,(h [] 0 X.s₀ (fun _=>none) []).2.s⟩
theorem OS{c:Expr}{g:Tg}(h:∀ cl C s₂ H₂ fp,PG (blk X N' sc cl C s₂ H₂ fp) tg (g.h K)/\QPT (blk X N' sc cl C s₂ H₂ fp) K c tst oJ/\QPF (blk X N' sc cl C s₂ H₂ fp) K elt te qe):QB X K N' sc tg g [c] tst oJ elt te qe :=
 ⟨fun cl C s₂ H₂ fp=>⟨(h cl C s₂ H₂ fp).1,B8 (h cl C s₂ H₂ fp).2.1.h,(h cl C s₂ H₂ fp).2.2.h⟩,(h [] 0 X.s₀ (fun _=>none) []).2.1.s,(h [] 0 X.s₀ (fun _=>none) []).2.2.s⟩
theorem dM{pos:Pos}{wi:TI}{g:Tg}(hc:X.calm=true)(hi:QPI X K tg iter wi iq)(uq:oE X sc N' cap)(hb:QB X K N' sc tg g ifs tst oJ elt te qe)
  (hf:(g.ixs.all fun i=>cap[i]? == some none)=true:=by rfl)
  (i8:sc.kind = .function:=by rfl) (gT:∀ y∈sc.names,y.2 ≠ .cell:=by decide) (jI:∀ y∈sc.names,y.2 = .local->sc.names.lookup y.1=some .local:=by decide)
  (jT:(sc.names.all fun y=>y.2 != .free ||(X.env.kindOf y.1==some .cell||X.env.kindOf y.1==some .free))=true:=by rfl)
  (hs:∀ x,foldedSetIterable iter X.env x=pure x:=by intro _;rfl):QPF X K (.ListComp elt [⟨tg,iter,ifs,0⟩] sc pos) (uK cap wi (g.h K) tst te) (Ha cap iq g oJ qe) :=
 ⟨Ci hc hi.h uq hb.b i8 gT jI jT hs,yi hi.s hb.t hb.e hf⟩
theorem vW{i:Nat}{y:Str}{pos ef py:Pos}{wi:TI}{g:Tg}(hN:X.N.Nodup)(hi':X.N[i]? = some y)(hy:Loc X.env.scope y)
  (hc:X.calm=true) (hi:QPI X K tg iter wi iq) (uq:oE X sc N' cap) (hb:QB X K N' sc tg g ifs tst oJ elt te qe)
  (hf':(g.ixs.all fun i=>cap[i]? == some none)=true:=by rfl)
  (hsw:swapsWith (.ListComp elt [⟨tg,iter,ifs,0⟩] sc pos) (some (.Name y py)) ef.line X.env=pure true:=by rfl)
  (hf:X.fn y=true\/X.env.scope.names.lookup y=some .local:=by first|exact .inl rfl|exact .inr rfl|assumption)
  (i8:sc.kind = .function:=by rfl) (gT:∀ y∈sc.names,y.2 ≠ .cell:=by decide) (jI:∀ y∈sc.names,y.2 = .local->sc.names.lookup y.1=some .local:=by decide)
  (jT:(sc.names.all fun y=>y.2 != .free ||(X.env.kindOf y.1==some .cell||X.env.kindOf y.1==some .free))=true:=by rfl)
  (hs:∀ x,foldedSetIterable iter X.env x=pure x:=by intro _;rfl):QPS X K (.Assign [.Name y py] (.ListComp elt [⟨tg,iter,ifs,0⟩] sc pos) ef) (ni (uK cap wi (g.h K) tst te) (gU i)) (yE i (Ha cap iq g oJ qe)) :=
 ⟨Cb hN hi' hy hc hi.h uq hb.b hsw hf i8 gT jI jT hs,BV (yi hi.s hb.t hb.e hf')⟩
end
section
variable{X:Cx}{K:W.Frag}{dl:Dl}{hs:List (V×T)}{σ:St}{F:Nat->List Addr}{e o:Expr}{pos apos aT:Pos}
theorem zip_inj:∀{ns:List Str}{vs us:List V},vs.length=ns.length->us.length=ns.length->ns.zip vs=ns.zip us->vs=us
 | [],[],[],_,_,_=>rfl
 | n::r,v::vs,u::us,h1,h2,e=>by
  injection e with e1 e2
  injection e1 with _ e1
  rw[e1,zip_inj (Nat.succ.inj h1) (Nat.succ.inj h2) e2]
theorem ax.uniq{v:V}{t:T}{F:List Addr}(h:ax K dl H v t F):∀{F':List Addr},ax K dl H v t F'->F=F' :=
 ax.rec (motive_1:=fun v t F _=>∀{F'},ax K dl H v t F'->F=F') (motive_2:=fun v t F _=>∀{F'},ak K dl H v t F'->F=F') (motive_3:=fun v t F _=>∀{F'},aG K dl H v t F'->F=F')
  (fun h=>(h.im rfl).symm) (fun _ _ h=>(h.im rfl).symm) (fun _ _ h=>(h.im rfl).symm) (fun _ _ h=>(h.im rfl).symm) (fun _ _ h=>(h.im rfl).symm)
  (fun h1 _ ih _ h=>by obtain⟨a,vs,e,h2,r⟩:=h.tup;cases e;rw[h1]at h2;cases h2;exact ih r)
  (fun h1 _ ih _ h=>by obtain⟨a,vs,G,e,rfl,h2,r⟩:=h.lst;cases e;rw[h1]at h2;cases h2;rw[ih r])
  (fun h1 _ ih _ h=>by obtain⟨a,vs,G,e,rfl,h2,r⟩:=h.dic;cases e;rw[h1]at h2;cases h2;rw[ih r])
  (fun _ _ h=>(h.im rfl).symm) (fun _ _ h=>(h.im rfl).symm) (fun _ _ h=>(h.im rfl).symm) (fun _ _ _ _ h=>(h.im rfl).symm) (fun _ _ h=>(h.im rfl).symm) (fun _ _ _ _ h=>(h.im rfl).symm)
  (fun _ _ _ h=>(h.im rfl).symm) (fun _ _ _ _ h=>(h.im rfl).symm) (fun h1 _ ih _ h=>by obtain⟨vs,G,e,rfl,h2,r⟩:=h.dpp;rw[h1]at h2;cases h2;rw[ih r]) (fun h1 _ ih _ h=>by obtain⟨vs,G,e,rfl,h2,r⟩:=h.lpp;rw[h1]at h2;cases h2;rw[ih r]) (fun _ _ _ _ h=>(h.im rfl).symm) (fun _ _ h=>(h.im rfl).symm) (fun h1 _ h4 hr ih _ h=>by
   obtain⟨dx,vs,G,e,rfl,h2,_,h3,r⟩:=h.omm;rw[h1]at h2;injection h2 with h2
   injection h2 with _ e1 e2
   subst e1;have e3:=zip_inj (hr.len.trans h4.symm) (r.len.trans h3.symm) e2;subst e3;rw[ih r])
  (fun h=>by cases h;rfl) (fun _ _ i1 i2 _ h=>by cases h with|cons h2 r2=>rw[i1 h2,i2 r2])
  (fun h=>by cases h;rfl) (fun _ _ i1 i2 _ h=>by cases h with|cons h2 r2=>rw[i1 h2,i2 r2]) h
theorem Rel.Mx(r:Rel K dl H₀ hs H σ q F)(e:Evo dl H H'){p:V×T}(hp:p∈hs){Fp:List Addr}(h:Rp K dl H' p.1 p.2 Fp){b:Addr}(hb:H b=none):b ∉ Fp:=fun z=>by
 obtain⟨Fq,h1,_⟩:=r.h p hp;have e1:=(h1.evo r.d e).r.uniq h.r;subst e1;exact cI.no (h1.r.there b z) hb
theorem Rel.rC{i:Nat}{p:Addr}{ws:List V}{xs ys:List T}{G':List Addr}(r:Rel K dl H₀ hs H σ q F)(hi:q[i]? = some (.o (.l xs)))(hv:σ[i]? = some (some (.ref p)))(hF:F i=p::G)(e:Evo dl H H')
  (rs:ak K dl H' ws ys G') (hn:G'.Nodup) (hG:∀ b∈G',b∈G\/(H b=none/\Nd dl b)):fu K dl H₀ hs (upd H' p (.lst ws)) σ (q.set i (.o (.l ys))):=by
 have r':=r.evo e;obtain⟨o1,o2,o3⟩:=r.o i _ hi;obtain⟨v',hv',rp⟩:=r'.g i _ _ hi rfl;rw[hv]at hv';cases hv';obtain⟨p2,vs2,G2,e2,eF,h1,h2⟩:=rp.r.lst;cases e2;rw[hF]at eF;cases eF;rw[hF]at o1;have pG:p ∉ G:=(Xm.mp o1).1;have pth:cI H p:=r.fA (i:=i) (by rw[hF];exact j5)
 have pG':p ∉ G':=fun z=>by
  rcases hG p z with z|z
  ·exact pG z
  ·exact pth.no z.1
 have pn:Nd dl p:=rp.n p (by rw[hF];exact j5)
 have tf:TF H' (upd H' p (.lst ws)):=⟨fun a us h=>(by
  rw[ai];exact h;intro z;subst z;rw[h]at h1;cases h1),fun a ob u h=>(by
  rw[ai];exact h;intro z;subst z;rw[h]at h1;cases h1),fun a φ h=>(by
  rw[ai];exact h;intro z;subst z;rw[h]at h1;cases h1),fun a xs' h=>(by
  by_cases z:a=p
  ·subst z;exact⟨_,aw⟩
  ·exact⟨xs',by rw[ai z];exact h⟩),fun a x h=>⟨x,X0 _,by
  rw[ai];exact h;intro z;subst z;rw[h]at h1;cases h1⟩⟩
 have rs2:ak K dl (upd H' p (.lst ws)) ws ys G':=rs.b6 tf (fun _ z=>z) fun b hb ob eb=>by
  have ne:b≠p:=by
   intro z;subst z;exact pG' hb
  rw[ai ne];exact eb
 refine⟨_,r'.write (t':=.l ys) (F':=p::G') hi hv (by rw[hF];exact j5) (fun _ _=>⟨_,rfl⟩) ⟨.l aw rs2,fun b hb=>?_⟩ (Xm.mpr ⟨pG',hn⟩) fun b hb=>?_⟩
 ·rcases QH.mp hb with z|hb
  ·rw[z];exact pn
  ·rcases hG b hb with z|z
   ·exact rp.n b (by rw[hF];exact Es _ z)
   ·exact z.2
 ·rcases QH.mp hb with z|hb
  ·rw[z,hF];exact .inl j5
  ·rcases hG b hb with z|z
   ·rw[hF];exact .inl (Es _ z)
   ·exact .inr ⟨r.fz z.1,fun j hj=>(r.fA hj).no z.1,fun w u Fp h1 h2=>r.Mx e (p:=(w,u)) h2 h1 z.1⟩
def v7(i:Nat)(qe:QE):QS:=fun D q=>match q[i]? with
 | some (.o (.l xs))=>xs.length<WT/\qe q fun t=>D.nx (q.set i (.o (.l (xs ++ [t]))))
 | _=>False
theorem AQ(hK:X.K=K){i:Nat}(ho:PE X o (cm i))(he:PE X e te)(c6:attributeBase o "append" X.env (eval o X.env)=eval o X.env:=by rfl)
  (kR:((backTo aT (QX [e] X.env)).all (fun x=>!x.1)&&(backToKw aT (keywordEach [] X.env)).all (fun x=>x.1.isSome)
   && decide (([e]:List Expr).length+([]:List Keyword).length+(if([]:List Keyword).isEmpty then 0 else 1)<30))=true:=by rfl)
  (c5:(apos.endLine==aT.line)=true:=by rfl) (hs:QX [e] X.env =(false,eval e X.env)::QX [] X.env:=by rfl) (cF:(backTo aT (QX [] X.env)).any (·.1)=false:=by rfl) :
  PE X (.Call (.Attribute o "append" apos) [e] [] aT) (tBM K "list" nK (cm i) (fY te iS)):=by
 subst hK;exact uV PySem.F.plainAttrs_list PySem.F.slot_list_append PySem.F.type_list_append uX ho (bV he gN hs) c6 kR c5 hs cF
theorem Ae{i:Nat}(he:m5 K te qe):pz K (jP (tBM K "list" nK (cm i) (fY te iS))) (v7 i qe):=fun dl H₀ hs H σ q Dq D ⟨F,r⟩ hq E=>by
 unfold v7 at hq
 split at hq
 ·rename_i xs ei;obtain⟨hz,hq⟩:=hq;obtain⟨v,hv,rp⟩:=r.g i _ _ ei rfl;obtain⟨o1,o2,o3⟩:=r.o i _ ei;obtain⟨p,vs,G,rfl,eF,h1,h2⟩:=rp.r.lst;refine⟨_,hv,.inl ⟨rfl,vs,SqL.of h1⟩,he dl H σ q _ _ r.rd hq fun w t F' H' e1 r1 f1 n1 hz'=>?_⟩
  have pn:Nd dl p:=rp.n p (by rw[eF];exact j5)
  refine⟨p,vs,w,rfl,rfl,e1.k p _ h1 pn (fun _ z=>nomatch z),by rw[h2.len];exact hz,?_⟩
  have hG:∀ b∈G,Nd dl b:=fun b hb=>rp.n b (by rw[eF];exact Es _ hb)
  have rs2:ak K dl H' vs xs G:=h2.b6 (e1.tf r.d) (fun _ z=>z) fun b hb o eo=>e1.k b o eo (hG b hb) (.of (h2.there b hb) eo)
  refine E.nx _ σ _ (r.rC ei hv eF e1 (rs2.append (.cons r1.r .nil)) ?_ fun b hb=>?_) hz'
  ·rw[Xh];rw[eF]at o1;refine XT.mpr ⟨(Xm.mp o1).2,n1,fun x hx y hy exy=>?_⟩
   subst exy;exact cI.no (h2.there x hx) (f1 x hy)
  ·rcases Xj.mp hb with hb|hb
   ·exact .inl hb
   ·rw[Xh]at hb;exact .inr ⟨f1 b hb,r1.n b hb⟩
 ·exact hq.elim
theorem lK{i:Nat}{ef:Pos}(ho:PE X o (cm i))(he:QPF X K e te qe)(hK:X.K=K:=by rfl)(c6:attributeBase o "append" X.env (eval o X.env)=eval o X.env:=by rfl)
  (kR:((backTo aT (QX [e] X.env)).all (fun x=>!x.1)&&(backToKw aT (keywordEach [] X.env)).all (fun x=>x.1.isSome)
   && decide (([e]:List Expr).length+([]:List Keyword).length+(if([]:List Keyword).isEmpty then 0 else 1)<30))=true:=by rfl)
  (c5:(apos.endLine==aT.line)=true:=by rfl) (hs:QX [e] X.env =(false,eval e X.env)::QX [] X.env:=by rfl) (cF:(backTo aT (QX [] X.env)).any (·.1)=false:=by rfl)
  (hsw:swapsWith (.Call (.Attribute o "append" apos) [e] [] aT) none ef.line X.env=pure false:=by rfl) :
  QPS X K (.Expr (.Call (.Attribute o "append" apos) [e] [] aT) ef) (jP (tBM K "list" nK (cm i) (fY te iS))) (v7 i qe):=⟨jr (AQ hK ho he.h c6 kR c5 hs cF) hsw,Ae he.s⟩
def v5(i:Nat)(qe:QE):QS:=fun D q=>match q[i]? with
 | some (.o (.l xs))=>qe q fun t=>match t with
  | .l ys=>xs.length+ys.length<=WT/\D.nx (q.set i (.o (.l (xs++ys))))
  | _=>False
 | _=>False
theorem AO(hK:X.K=K){i:Nat}(ho:PE X o (cm i))(he:PE X e te)(c6:attributeBase o "extend" X.env (eval o X.env)=eval o X.env:=by rfl)
  (kR:((backTo aT (QX [e] X.env)).all (fun x=>!x.1)&&(backToKw aT (keywordEach [] X.env)).all (fun x=>x.1.isSome)
   && decide (([e]:List Expr).length+([]:List Keyword).length+(if([]:List Keyword).isEmpty then 0 else 1)<30))=true:=by rfl)
  (c5:(apos.endLine==aT.line)=true:=by rfl) (hs:QX [e] X.env =(false,eval e X.env)::QX [] X.env:=by rfl) (cF:(backTo aT (QX [] X.env)).any (·.1)=false:=by rfl) :
  PE X (.Call (.Attribute o "extend" apos) [e] [] aT) (tBM K "list" qy (cm i) (fY te iS)):=by
 subst hK;exact uV PySem.F.plainAttrs_list PySem.F.slot_list_extend PySem.F.type_list_extend D7 ho (bV he gN hs) c6 kR c5 hs cF
theorem Ad{i:Nat}(he:m5 K te qe):pz K (jP (tBM K "list" qy (cm i) (fY te iS))) (v5 i qe):=fun dl H₀ hs H σ q Dq D ⟨F,r⟩ hq E=>by
 unfold v5 at hq
 split at hq
 ·rename_i xs ei;obtain⟨v,hv,rp⟩:=r.g i _ _ ei rfl;obtain⟨o1,o2,o3⟩:=r.o i _ ei;obtain⟨p,vs,G,rfl,eF,h1,h2⟩:=rp.r.lst;refine⟨_,hv,.inl ⟨rfl,vs,SqL.of h1⟩,he dl H σ q _ _ r.rd hq fun w t F' H' e1 r1 f1 n1 hz'=>?_⟩
  split at hz'
  ·rename_i ys _;obtain⟨p2,ws,G2,rfl,rfl,h3,h4⟩:=r1.r.lst;have pn:Nd dl p:=rp.n p (by rw[eF];exact j5)
   refine⟨p,p2,vs,ws,rfl,rfl,e1.k p _ h1 pn (fun _ z=>nomatch z),h3,by rw[h2.len,h4.len];exact hz'.1,?_⟩
   have hG:∀ b∈G,Nd dl b:=fun b hb=>rp.n b (by rw[eF];exact Es _ hb)
   have rs2:ak K dl H' vs xs G:=h2.b6 (e1.tf r.d) (fun _ z=>z) fun b hb o eo=>e1.k b o eo (hG b hb) (.of (h2.there b hb) eo)
   refine E.nx _ σ _ (r.rC ei hv eF e1 (rs2.append h4) ?_ fun b hb=>?_) hz'.2
   ·rw[eF]at o1;refine XT.mpr ⟨(Xm.mp o1).2,(Xm.mp n1).2,fun x hx y hy exy=>?_⟩
    subst exy;exact cI.no (h2.there x hx) (f1 x (Es _ hy))
   ·rcases Xj.mp hb with hb|hb
    ·exact .inl hb
    ·exact .inr ⟨f1 b (Es _ hb),r1.n b (Es _ hb)⟩
  ·exact hz'.elim
 ·exact hq.elim
theorem uS{i:Nat}{ef:Pos}(ho:PE X o (cm i))(he:QPF X K e te qe)(hK:X.K=K:=by rfl)(c6:attributeBase o "extend" X.env (eval o X.env)=eval o X.env:=by rfl)
  (kR:((backTo aT (QX [e] X.env)).all (fun x=>!x.1)&&(backToKw aT (keywordEach [] X.env)).all (fun x=>x.1.isSome)
   && decide (([e]:List Expr).length+([]:List Keyword).length+(if([]:List Keyword).isEmpty then 0 else 1)<30))=true:=by rfl)
  (c5:(apos.endLine==aT.line)=true:=by rfl) (hs:QX [e] X.env =(false,eval e X.env)::QX [] X.env:=by rfl) (cF:(backTo aT (QX [] X.env)).any (·.1)=false:=by rfl)
  (hsw:swapsWith (.Call (.Attribute o "extend" apos) [e] [] aT) none ef.line X.env=pure false:=by rfl) :
  QPS X K (.Expr (.Call (.Attribute o "extend" apos) [e] [] aT) ef) (jP (tBM K "list" qy (cm i) (fY te iS))) (v5 i qe):=⟨jr (AO hK ho he.h c6 kR c5 hs cF) hsw,Ad he.s⟩
end
variable{qo:QE}{to:TE}
section
variable{X:Cx}{K:W.Frag}{dl:Dl}{hs:List (V×T)}{σ:St}{F:Nat->List Addr}{a b e o c:Expr}{ta tb tk tv:TE}{qa qb qk qv:QE}{pos apos aT:Pos}
theorem ak.last:∀{ts:List T}{x:T}{vs:List V}{F:List Addr},ak K dl H vs (ts ++ [x]) F->∃ us w F1 F2,vs=us ++ [w]/\ak K dl H us ts F1/\ax K dl H w x F2/\F=F1++F2
 | [],x,vs,F,h=>by
  cases h with
  | cons h1 h2 =>
   cases h2;exact⟨[],_,[],_,rfl,.nil,h1,by simp⟩
 | t::ts,x,vs,F,h=>by
  cases h with
  | cons h1 h2 =>
   obtain⟨us,w,F1,F2,rfl,r1,r2,rfl⟩:=ak.last h2;exact⟨_::us,w,_,F2,rfl,.cons h1 r1,r2,by rw[Yl]⟩
def OU(i j:Nat):QS:=fun D q=>match q[i]? with
 | some (.o (.l xs))=>∃ ys x,xs=ys ++ [x]/\T.ims xs=true/\i≠j/\D.nx ((q.set i (.o (.l ys))).set j (.o x))
 | _=>False
theorem Bd{xs ys:List T}:T.ims (xs++ys) =(T.ims xs&&T.ims ys):=by
 induction xs with
 | nil=>rfl
 | cons x r ih=>show(x.im&&T.ims (r++ys)) =((x.im&&T.ims r)&&T.ims ys);rw[ih,Bool.and_assoc]
theorem Kw{i:Nat}:pz K (ni (Oo K "list" OL (cm i)) (gU j)) (OU i j):=fun dl H₀ hs H σ q Dq D ⟨F,r⟩ hq E=>by
 unfold OU at hq
 split at hq
 ·rename_i xs ei;obtain⟨ys,x,rfl,him,hij,hq⟩:=hq;obtain⟨v,hv,rp⟩:=r.g i _ _ ei rfl;obtain⟨p,vs,G,rfl,eF,h1,h2⟩:=rp.r.lst;obtain⟨us,w,F1,F2,rfl,r1,r2,rfl⟩:=h2.last;rw[Bd,Xi]at him;obtain rfl:=r1.im him.1;have hx:x.im=true:=by have:=him.2;simpa [T.ims]using this
  obtain rfl:=r2.im hx;refine⟨_,hv,.inl ⟨rfl,_,SqL.of h1⟩,p,_,w,rfl,rfl,h1,by simp,?_⟩
  rw[Zr];obtain⟨F3,r3⟩:=r.rC (H':=H) (ws:=us) (ys:=ys) (G':=[]) ei hv eF (.refl r.d) r1 W2 (fun _ z=>nomatch z)
  have tf:ax K dl (upd H p (.lst us)) w x []:=by
   have tf:TF H (upd H p (.lst us)):=⟨fun a us' h=>(by
    rw[ai];exact h;intro z;subst z;rw[h]at h1;cases h1),fun a ob u h=>(by
    rw[ai];exact h;intro z;subst z;rw[h]at h1;cases h1),fun a φ h=>(by
    rw[ai];exact h;intro z;subst z;rw[h]at h1;cases h1),fun a xs' h=>(by
    by_cases z:a=p
    ·subst z;exact⟨_,aw⟩
    ·exact⟨xs',by rw[ai z];exact h⟩),fun a x h=>⟨x,X0 _,by
    rw[ai];exact h;intro z;subst z;rw[h]at h1;cases h1⟩⟩
   exact r2.b6 tf (fun _ z=>z) fun _ z=>nomatch z
  exact E.nx _ _ _ (r3.eD (i:=j) (.refl r3.d) (.c tf) (fun _ z=>nomatch z) W2) hq
 ·exact hq.elim
theorem GO{i:Nat}(hN:X.N.Nodup)(hi:X.N[j]? = some x)(hx:Loc X.env.scope x)(ho:PE X o (cm i))(hK:X.K=K:=by rfl)(c6:attributeBase o "pop" X.env (eval o X.env)=eval o X.env:=by rfl)(c5:(apos.endLine==aT.line)=true:=by rfl)
  (hs:swapsWith (.Call (.Attribute o "pop" apos) [] [] aT) (some (.Name x pos')) pos.line X.env=pure false:=by rfl) (hf:X.fn x=true\/X.env.scope.names.lookup x=some .local:=by first|exact .inl rfl|exact .inr rfl|assumption) :
  QPS X K (.Assign [.Name x pos'] (.Call (.Attribute o "pop" apos) [] [] aT) pos) (ni (Oo K "list" OL (cm i)) (gU j)) (OU i j) :=
 ⟨by subst hK;exact jq hN hi hx (HA PySem.F.plainAttrs_list PySem.F.slot_list_pop PySem.F.type_list_pop HU ho c6 c5) hs hf,Kw⟩
def R8(g:Tg)(qe:QE):QS:=fun D q=>qe q fun t=>t.im=true/\∃ q',g.put t q=some q'/\D.nx q'
theorem Ks{g:Tg}(he:j6 K te qe):pz K (ni te (g.h K)) (R8 g qe):=fun dl H₀ hs H σ q Dq D ⟨F,r⟩ hq E=>he dl H σ q _ _ r.rd hq fun v t F' H' e1 r1 ⟨him,q',hq',hz⟩=>by
 obtain rfl:=r1.r.im him;exact Gz (r.evo e1) r1 (fun _ _ _ _ _ z=>nomatch z) hq' fun σ' r'=>E.nx _ _ _ r' hz
theorem rF{g:Tg}(he:QPE X K e te qe)(hg:PG X tg (g.h K))(hs:swapsWithSole [tg] e pos.line X.env=pure false:=by rfl)(hw:swappedStores [tg] e X.env=pure none:=by rfl)
  (h1:(assignEach [tg] X.env).map (·.2) = [assign tg X.env]:=by rfl):QPS X K (.Assign [tg] e pos) (ni te (g.h K)) (R8 g qe):=⟨Hh he.h hg hs hw h1,Ks he.s⟩
def T.key:T->Option Key
 | .i x=>some (.inl x)
 | .s x=>some (.inr x)
 | _=>none
theorem ax.key{v:V}{t:T}{F:List Addr}{k:Key}(h:ax K dl H v t F)(e:t.key=some k):v=kV k:=by
 cases h <;> first |(cases e;rfl)|cases e
def bS(ks:List (Key×T))(k:Key):Option T:=(ks.find? fun p=>decide (p.1=k)).map (·.2)
def dC(ks:List (Key×T))(k:Key)(t:T):List (Key×T):=if(ks.any fun p=>decide (p.1=k))=true then ks.map (fun p=>if p.1=k then(p.1,t)else p)else ks ++ [(k,t)]
theorem aG.look{vs:List (Key×V)}{ts:List (Key×T)}{F:List Addr}(k:Key)(h:aG K dl H vs ts F):(bS ts k=none/\gw vs k=none)\/∃ t v G,bS ts k=some t/\gw vs k=some v/\ax K dl H v t G/\∀ b∈G,b∈F :=
 h.ind (M:=fun vs ts F=>(bS ts k=none/\gw vs k=none)\/∃ t v G,bS ts k=some t/\gw vs k=some v/\ax K dl H v t G/\∀ b∈G,b∈F) (.inl ⟨rfl,rfl⟩) fun k0 v x vs ts F G h r ih=>by
  by_cases e:k0=k
  ·subst e;exact .inr ⟨_,_,_,by simp[bS],by simp[gw],h,fun b hb=>Xf _ hb⟩
  ·rcases ih with⟨h1,h2⟩ |⟨t,v,G,h1,h2,h3,h4⟩
   ·refine .inl ⟨?_,?_⟩
    ·unfold bS at h1 ⊢;rw[XF,decide_eq_false e];exact h1
    ·unfold gw at h2 ⊢;rw[XF,decide_eq_false e];exact h2
   ·refine .inr ⟨t,v,G,?_,?_,h3,fun b hb=>W7 _ (h4 b hb)⟩
    ·unfold bS at h1 ⊢;rw[XF,decide_eq_false e];exact h1
    ·unfold gw at h2 ⊢;rw[XF,decide_eq_false e];exact h2
mutual
def T.imk:List (Key×T)->Bool
 | []=>true
 | (_,x)::r=>x.im&&T.imk r
end
theorem aG.im{vs:List (Key×V)}{ts:List (Key×T)}{F:List Addr}(h:aG K dl H vs ts F):T.imk ts=true->F = []:=h.ind (M:=fun _ t F=>T.imk t=true->F = []) (fun _=>rfl) (fun _ _ _ _ _ _ _ h _ ih=>sP h.im ih)
theorem aG.keys{vs:List (Key×V)}{ts:List (Key×T)}{F:List Addr}(h:aG K dl H vs ts F)(k:Key):(vs.any fun p=>decide (p.1=k))=ts.any fun p=>decide (p.1=k) :=
 h.ind (M:=fun vs ts _=>(vs.any fun p=>decide (p.1=k))=ts.any fun p=>decide (p.1=k)) rfl fun _ _ _ _ _ _ _ _ _ ih=>by rw[Ys,Ys,ih]
theorem aG.put{k:Key}{w:V}{t:T}(hw:ax K dl H w t []):∀{vs:List (Key×V)}{ts:List (Key×T)},aG K dl H vs ts []->aG K dl H (putK vs k w) (dC ts k t) []:=by
 have mp:∀{vs:List (Key×V)}{ts:List (Key×T)}{F:List Addr},aG K dl H vs ts F->F = []->aG K dl H (vs.map fun p=>if p.1=k then(p.1,w)else p) (ts.map fun p=>if p.1=k then(p.1,t)else p) []:=by
  intro vs ts F h
  induction ts generalizing vs F with
  | nil=>intro _;cases h;exact .nil
  | cons p ts ih =>
   cases h with
   | @cons k0 v x vs _ F1 F2 h1 h2 =>
    intro e;obtain⟨e1,e2⟩:=XZ.mp e;subst e1 e2;have z:=ih h2 rfl;rw[Xs,Xs];by_cases e0:k0=k
    ·show aG K dl H ((if k0=k then(k0,w)else(k0,v))::_) ((if k0=k then(k0,t)else(k0,x))::_) ([] ++ [])
     rw[if_pos e0,if_pos e0];exact .cons hw z
    ·show aG K dl H ((if k0=k then(k0,w)else(k0,v))::_) ((if k0=k then(k0,t)else(k0,x))::_) ([] ++ [])
     rw[if_neg e0,if_neg e0];exact .cons h1 z
 have sn:∀{vs:List (Key×V)}{ts:List (Key×T)}{F:List Addr},aG K dl H vs ts F->aG K dl H (vs ++ [(k,w)]) (ts ++ [(k,t)]) F:=by
  intro vs ts F h
  induction ts generalizing vs F with
  | nil=>cases h;exact .cons (F:=[]) hw .nil
  | cons p ts ih =>
   cases h with
   | cons h1 h2=>exact .cons h1 (ih h2)
 intro vs ts h;unfold putK dC;rw[h.keys k]
 split
 ·exact mp h rfl
 ·exact sn h
theorem Rel.OJ{i:Nat}{p:Addr}{ws:List (Key×V)}{xs ys:List (Key×T)}(r:Rel K dl H₀ hs H σ q F)(hi:q[i]? = some (.o (.d xs)))(hv:σ[i]? = some (some (.ref p)))(e:Evo dl H H')
  (rs:aG K dl H' ws ys []):fu K dl H₀ hs (upd H' p (.dK ws)) σ (q.set i (.o (.d ys))):=by
 have r':=r.evo e;obtain⟨v',hv',rp⟩:=r'.g i _ _ hi rfl;rw[hv]at hv';cases hv';obtain⟨p2,vs2,G2,e2,eF,h1,h2⟩:=rp.r.dic;cases e2;have pn:Nd dl p:=rp.n p (by rw[eF];exact j5)
 have tf:TF H' (upd H' p (.dK ws)):=⟨fun a us h=>(by
  rw[ai];exact h;intro z;subst z;rw[h]at h1;cases h1),fun a ob u h=>(by
  rw[ai];exact h;intro z;subst z;rw[h]at h1;cases h1),fun a φ h=>(by
  rw[ai];exact h;intro z;subst z;rw[h]at h1;cases h1),fun a xs' h=>(by
  have ne:a≠p:=by
   intro z;subst z;rw[h]at h1;cases h1
  exact⟨xs',by rw[ai ne];exact h⟩),fun a x h=>⟨x,X0 _,by
  rw[ai];exact h;intro z;subst z;rw[h]at h1;cases h1⟩⟩
 have rs2:aG K dl (upd H' p (.dK ws)) ws ys []:=rs.b6 tf (fun _ z=>z) fun _ z=>nomatch z
 exact⟨_,r'.write (t':=.d ys) (F':=[p]) hi hv (by rw[eF];exact j5) (fun xs' h=>by rw[h1]at h;cases h) ⟨.d aw rs2,fun b hb=>by rw[qr.mp hb];exact pn⟩ (by simp) fun b hb=>by rw[qr.mp hb,eF];exact .inl j5⟩
def Lf(i:Nat)(qk qv:QE):QS:=fun D q=>match q[i]? with
 | some (.o (.d xs))=>qv q fun t=>qk q fun u=>match u.key with
  | some k=>xs.length<WT/\T.imk xs=true/\t.im=true/\D.nx (q.set i (.o (.d (dC xs k t))))
  | none=>False
 | _=>False
theorem Kv{i:Nat}(hk:j6 K tk qk)(hv:j6 K tv qv):pz K (uN (cm i) tk tv) (Lf i qk qv):=fun dl H₀ hs H σ q Dq D ⟨F,r⟩ hq E=>by
 unfold Lf at hq
 split at hq
 ·rename_i xs ei;refine hv dl H σ q _ _ r.rd hq fun w t F1 H1 e1 r1 hq=>?_
  obtain⟨v,hv',rp⟩:=(r.evo e1).g i _ _ ei rfl;refine⟨v,hv',hk dl H1 σ q _ _ (r.rd.evo e1) hq fun y u F2 H2 e2 r2 hq=>?_⟩
  split at hq
  ·rename_i k ek;obtain⟨hz,hm,ht,hq⟩:=hq;obtain rfl:=r1.r.im ht;have rp2:=rp.evo e1.d e2;obtain⟨p,vs,G,rfl,eF,h1,h2⟩:=rp2.r.dic;obtain rfl:=h2.im hm;rw[r2.r.key ek];exact⟨p,_,rfl,tT.k h1 (by rw[h2.len];exact hz),E.nx _ _ _ (r.OJ ei hv' (e1.trans e2) (aG.put (r1.evo e1.d e2).r h2)) hq⟩
  ·exact hq.elim
 ·exact hq.elim
theorem OO{i:Nat}(hu:X.A.units+1<cLine)(ho:PE X o (cm i))(hk:QPE X K a tk qk)(hv:QPE X K b tv qv)(hs:swapsWith b (some (.Subscript o a pos')) pos.line X.env=pure false:=by rfl) :
  QPS X K (.Assign [.Subscript o a pos'] b pos) (uN (cm i) tk tv) (Lf i qk qv):=⟨lO hu ho hk.h hv.h hs,Kv hk.s hv.s⟩
def Uz:T->Option Str
 | .s x=>some x
 | _=>none
abbrev txs:List T->Option (List Str):=picks Uz
theorem ak.txs{vs:List V}{ts:List T}{F:List Addr}{bs:List Str}(h:ak K dl H vs ts F)(e:L2.txs ts=some bs):vs=bs.map V.str :=
 h.picks (f:=Uz) (fun v t F a h e=>by cases t <;> first |(cases e;exact h.str.1)|cases e) e
theorem Kd(bs:List Str):txs (bs.map T.s)=some bs:=by
 induction bs with
 | nil=>rfl
 | cons b r ih=>show(txs (r.map T.s)).map (b :: ·)=_;rw[ih];rfl
def Sm(qo qe:QE):QE:=fun q Q=>qo q fun s=>match s with
 | .s sep=>qe q fun t=>match t with
  | .l xs=>∃ ys,txs xs=some ys/\(ys.map (·.length)).sum+ys.length*sep.length<=16777216/\Q (.s (Txt.join sep ys))
  | _=>False
 | _=>False
theorem Lb(ho:QPE X K o to qo)(he:QPE X K e te qe)(hK:X.K=K:=by rfl)(c6:attributeBase o "join" X.env (eval o X.env)=eval o X.env:=by rfl)
  (kR:((backTo aT (QX [e] X.env)).all (fun x=>!x.1)&&(backToKw aT (keywordEach [] X.env)).all (fun x=>x.1.isSome)
   && decide (([e]:List Expr).length+([]:List Keyword).length+(if([]:List Keyword).isEmpty then 0 else 1)<30))=true:=by rfl)
  (c5:(apos.endLine==aT.line)=true:=by rfl) (hs:QX [e] X.env =(false,eval e X.env)::QX [] X.env:=by rfl) (cF:(backTo aT (QX [] X.env)).any (·.1)=false:=by rfl) :
  QPF X K (.Call (.Attribute o "join" apos) [e] [] aT) (tBM K "str" (rJoin K) to (fY te iS)) (Sm qo qe):=⟨by
 subst hK;exact uV PySem.F.plainAttrs_str PySem.F.slot_str_join PySem.F.type_str_join L9 ho.h (bV he.h gN hs) c6 kR c5 hs cF,fun dl H σ q Q R rd hq k=>ho.s dl H σ q _ _ rd hq fun v t F H1 e1 r1 hq=>by
  split at hq
  ·obtain⟨rfl,_⟩:=r1.r.str;refine⟨rfl,he.s dl H1 σ q _ _ (rd.evo e1) hq fun w u F2 H2 e2 r2 hq=>?_⟩
   split at hq
   ·obtain⟨ys,hy,hz,hq⟩:=hq;obtain⟨p,vs,G,rfl,eF,h1,h2⟩:=r2.r.lst;have ev:=h2.txs hy;subst ev;exact⟨_,p,ys,rfl,rfl,SqL.of h1,hz,k _ _ [] H2 (e1.trans e2) (.c (.s _)) (fun _ z=>nomatch z) W2 hq⟩
   ·exact hq.elim
  ·exact hq.elim⟩
def NG(i:Nat)(qk qv:QE):QS:=fun D q=>qv q fun t=>match q[i]? with
 | some (.o (.l xs))=>qk q fun u=>match u with
  | .i k=>∃ j,ixN xs.length k=some j/\T.ims xs=true/\t.im=true/\D.nx (q.set i (.o (.l (xs.set j t))))
  | _=>False
 | _=>False
end
def zd(vs ws:List V):Bool:=vs.length==ws.length&&(Xt vs.length).all fun j=>match vs[j]?,ws[j]? with|some x,some y=>eqV x y | _,_=>false
variable{its:List Value}
section
variable{X:Cx}{K:W.Frag}
theorem Vals.at'{vs:List V}(r:Vals vs its)(h:j<its.toArray.size):∃ v,vs[j]? = some v/\RelV v its.toArray[j]:=by
 have hl:=r.length;have hj:j<its.length:=by simpa using h
 have hv:j<vs.length:=by omega
 obtain⟨u,h1,h2⟩:=r.get (i:=j) (x:=vs[j]) (by simp[hv])
 have:its[j]? = some its[j]:=by simp[hj]
 rw[this]at h1;cases h1;exact⟨vs[j],by simp[hv],by simpa using h2⟩
theorem qH{vs:List V}{v:V}(h:vs.all dX=true)(e:vs[j]? = some v):dX v=true:=XH.mp h v (XA e)
def R0(K:W.Frag):R2:=fun x y H Q=>∃ p q vs ws,x = .ref p/\y = .ref q/\((SqL K H p vs/\SqL K H q ws)\/(SqT K H p vs/\SqT K H q ws))/\vs.all dX=true/\ws.all dX=true/\Q (.bl (zd vs ws)) H
theorem Pl(hu:X.A.units+1<cLine):OpR X (compareOp .Eq) (R0 X.K):=by
 intro j0 s σ H x y v u Q I rx ry h;obtain⟨p,q,vs,ws,rfl,rfl,hs,f1,f2,k⟩:=h;cases rx;cases ry;rcases hs with⟨h1,h2⟩ |⟨h1,h2⟩
 ·obtain⟨its,r1,p1,_⟩:=I.list h1;obtain⟨bb,r2,p2,_⟩:=I.list h2;have l1:=r1.length;have l2:=r2.length;by_cases hl:its.length=bb.length
  ·refine SeqAt.eq_listAt (e:=fun j=>match vs[j]?,ws[j]? with|some x,some y=>eqV x y | _,_=>false) p1.isList p2.isList (by simpa using hl) (by omega) (fun j g1 g2=>?_) ⟨.bl _,H,I,rfl,?_⟩
   ·obtain⟨a,ea,ra⟩:=r1.at' g1;obtain⟨b,eb,rb⟩:=r2.at' g2;simp only[ea,eb];exact o6 ra rb (qH f1 ea) (qH f2 eb)
   ·have e:zd vs ws =(Xt its.toArray.size).all fun j=>match vs[j]?,ws[j]? with|some x,some y=>eqV x y | _,_=>false:=by
     unfold zd;rw[show(vs.length==ws.length)=true from by simp;omega,Bool.true_and,Wc,l1]
    rw[<- e];exact k
  ·refine SeqAt.eq_list_lengthsAt p1.isList p2.isList (by simpa using hl) (by omega) ⟨.bl _,H,I,rfl,?_⟩
   have e:zd vs ws=false:=by
    unfold zd;rw[show(vs.length==ws.length)=false from by simp;omega,Bool.false_and]
   rw[<- e];exact k
 ·obtain⟨its,r1,p1,_⟩:=I.tuple h1;obtain⟨bb,r2,p2,_⟩:=I.tuple h2;have l1:=r1.length;have l2:=r2.length;refine SeqAt.eq_tupleAt (e:=fun j=>match vs[j]?,ws[j]? with|some x,some y=>eqV x y | _,_=>false) (show s.heap.IsTuple p its.toArray from p1) (show s.heap.IsTuple q bb.toArray from p2) (by omega) (fun j g1 g2=>?_) ⟨.bl _,H,I,rfl,?_⟩
  ·obtain⟨a,ea,ra⟩:=r1.at' g1;obtain⟨b,eb,rb⟩:=r2.at' g2;simp only[ea,eb];exact o6 ra rb (qH f1 ea) (qH f2 eb)
  ·have e:zd vs ws =((Xt (min its.toArray.size bb.toArray.size)).all (fun j=>match vs[j]?,ws[j]? with|some x,some y=>eqV x y | _,_=>false)&&its.toArray.size==bb.toArray.size):=by
    unfold zd;rw[Wc,Wc,<- l1,<- l2,Bool.and_comm];by_cases hl:vs.length=ws.length
    ·rw[hl,Nat.min_self]
    ·rw[show(vs.length==ws.length)=false from by simpa using hl,YX,YX]
   rw[<- e];exact k
def eqF(xs ys:List T):Bool:=zd (xs.map T.v) (ys.map T.v)
def G8:Q2:=fun t u Q=>match t,u with
 | .l xs,.l ys=>(fls xs&&fls ys)=true/\Q (.b (eqF xs ys))
 | .t xs,.t ys=>(fls xs&&fls ys)=true/\Q (.b (eqF xs ys))
 | t,u=>qEq t u Q
def KR(K:W.Frag):R2:=fun x y H Q=>rEq x y H Q\/R0 K x y H Q
theorem sd(hu:X.A.units+1<cLine)(hK:X.K=K):OpR X (compareOp .Eq) (KR K):=by subst hK;exact NQ.or (Pl hu)
theorem nq:cN K (KR K) G8:=by
 intro dl H x y t u F G Q R D r1 r2 hq k;unfold G8 at hq
 split at hq
 ·obtain⟨p,vs,G1,rfl,rfl,h1,h2⟩:=r1.r.lst;obtain⟨p',vs',G2,rfl,rfl,h3,h4⟩:=r2.r.lst;obtain⟨f,hq⟩:=hq;rw[Xi]at f;obtain⟨rfl,rfl⟩:=h2.vs f.1;obtain⟨rfl,rfl⟩:=h4.vs f.2;exact .inr ⟨p,p',_,_,rfl,rfl,.inl ⟨SqL.of h1,SqL.of h3⟩,sT f.1,sT f.2,k _ _ [] H (.refl D) (.c (.b _)) (fun _ z=>nomatch z) W2 hq⟩
 ·obtain⟨p,vs,rfl,h1,h2⟩:=r1.r.tup;obtain⟨p',vs',rfl,h3,h4⟩:=r2.r.tup;obtain⟨f,hq⟩:=hq;rw[Xi]at f;obtain⟨rfl,rfl⟩:=h2.vs f.1;obtain⟨rfl,rfl⟩:=h4.vs f.2;exact .inr ⟨p,p',_,_,rfl,rfl,.inr ⟨SqT.of h1,SqT.of h3⟩,sT f.1,sT f.2,k _ _ [] H (.refl D) (.c (.b _)) (fun _ z=>nomatch z) W2 hq⟩
 ·exact .inl (OA dl H x y t u F G Q R D r1 r2 hq k)
end
end L2
namespace PySem
open Sem (wp)
end PySem
namespace PySem
open Sem (wp)
namespace F
theorem dY:entryFor table "dict.update.loop" = some Builtin.«dict.update.loop»:=entryFor_of_tree (by kernel_rfl)
theorem bx:plainId "dict.update.loop" = true:=by decide +kernel
end F
section
variable{prog:Program}{w:World}{A:Around}{R:Result->Shared->Prop}{I:Addr}{fp wr:List Addr}{n:Nat}{P:Nat->Value->Prop}{St:Nat->Heap->Prop}{κ:Type}[DecidableEq κ]{knd:KeyKind prog w κ}
theorem tY(kvs:List (κ×Value))(k:κ)(v:Value):(stored kvs k v).length<=kvs.length+1:=by
 unfold stored
 split <;> simp
theorem uc(kvs:List (κ×Value)):∀(more:List (κ×Value)),(merged kvs more).length<=kvs.length+more.length:=by
 intro more
 induction more generalizing kvs with
 | nil=>exact Xa _
 | cons p r ih =>
  have h1:=ih (stored kvs p.1 p.2);have h2:=tY kvs p.1 p.2;show(merged (stored kvs p.1 p.2) r).length<=_;simp only[Xn];omega
end
end PySem
namespace PySem
open Sem (wp)
end PySem
namespace L2
open PySem PySem.Spec PyProof.Rows
def aS(ks more:List (Key×T)):List (Key×T):=more.foldl (fun acc p=>dC acc p.1 p.2) ks
section
variable{X:Cx}{K:W.Frag}{dl:Dl}{H:Hp}
theorem aG.aS{kvs':List (Key×V)}{kts':List (Key×T)}{kvs:List (Key×V)}{kts:List (Key×T)}{F:List Addr}(h:aG K dl H kvs kts F):F = []->∀{vs:List (Key×V)}{ts:List (Key×T)},aG K dl H vs ts []->aG K dl H (cV vs kvs) (L2.aS ts kts) [] :=
 h.ind (M:=fun kvs kts F=>F = []->∀{vs:List (Key×V)}{ts:List (Key×T)},aG K dl H vs ts []->aG K dl H (cV vs kvs) (L2.aS ts kts) []) (fun _ _ _ h=>h) fun _ _ _ _ _ _ _ h1 _ ih e _ _ h=>by
  obtain⟨e1,e2⟩:=XZ.mp e;subst e1;exact ih e2 (aG.put h1 h)
end
variable{P:Program}{mg:Str->Option Value}{base:Heap}{fd:FuncData}
section
variable{X:Cx}{K:W.Frag}{a b:Expr}{ta tb:TE}{qa qb:QE}{pos:Pos}
def oN:PSp:=fun ts Q=>match ts with
 | [.og,.i m]=>0<m/\m<18446744073709551616/\∀ r,0<=r->r<m->Q (.i r)
 | _=>False
theorem Bh{w:World}{K:W.Frag}{k:Nat}{f:Addr}{ps:List Str}(F:aP P w K mg base CX0 k f fd ps FX):aP P w K mg base CX0 k f fd ps (spQ K oN):=by
 refine F.imp fun vs H Q E h=>?_
 obtain⟨dl,ts,Fp,Qp,D,r,h,fin⟩:=h;unfold oN at h
 split at h
 ·obtain⟨v,w',F1,F2,rfl,r1,r2⟩:=r.two;obtain⟨a,l,rfl,hm,_⟩:=r1.r.dea;obtain⟨rfl,_⟩:=r2.r.int;refine⟨a,l,_,rfl,D _ hm,h.1,h.2.1,fun r H' r0 r1' D' K'=>fin _ _ [] H' ⟨fun b o e n _=>K' b o e (n _ hm).1 (n _ hm).2,fun p hp=>?_,fun b x e=>⟨x,X0 _,by
   obtain⟨s2,n2,l2,Q2⟩:=D _ hm;exact K' b _ e (jS e Q2.hd (fun z=>nomatch z)) (jS e Q2.hl (fun z=>nomatch z))⟩⟩ (.c (.i _)) (fun _ z=>nomatch z) W2 (h.2.2 r r0 r1')⟩
  by_cases e:p =(a,l)
  ·rw[e];exact D'
  ·obtain⟨s1,n1,l1,Q1⟩:=D p hp;obtain⟨s2,n2,l2,Q2⟩:=D _ hm;obtain⟨s3,n3,l3,Q3⟩:=D';have pa:p.1≠a:=fun z=>by
    have z1:=Q1.hd;have z2:=Q2.hd;rw[z]at z1;rw[z1]at z2;have z3:dk s1 n1 p.2=dk s2 n2 l:=by injection (Option.some.inj z2)
    have z4:=congrArg (fun kv=>gw kv (.inr "left":Key)) z3
    simp only[CA]at z4;exact e (Prod.ext z (V.ref.inj (Option.some.inj z4)))
   have pl:p.1≠l:=jS Q1.hd Q2.hl (fun z=>nomatch z)
   have p2a:p.2≠a:=jS Q1.hl Q2.hd (fun z=>nomatch z)
   by_cases p2l:p.2=l
   ·exact⟨s1,n1,l3,K' _ _ Q1.hd pa pl,by rw[p2l];exact Q3.hl,Q1.s0,Q1.s1,Q1.n0,Q3.l0⟩
   ·exact⟨s1,n1,l1,K' _ _ Q1.hd pa pl,K' _ _ Q1.hl p2a p2l,Q1.s0,Q1.s1,Q1.n0,Q1.l0⟩
 ·exact h.elim
end
section
variable{X:Cx}{K:W.Frag}{a b c e o:Expr}{ta tb tk tv te:TE}{qa qb qk qv qe:QE}{pos pos':Pos}
theorem ak.set{dl:Dl}{H:Hp}{w:V}{t:T}(hw:ax K dl H w t []):∀{vs:List V}{xs:List T}{F:List Addr}(j:Nat),ak K dl H vs xs F->F = []->ak K dl H (vs.set j w) (xs.set j t) []
 | _,_,_,_,.nil,_=>.nil
 | _,_,_,0,.cons h r,e=>by
  obtain⟨e1,e2⟩:=XZ.mp e;subst e1 e2;exact .cons (F:=[]) hw r
 | _,_,_,j+1,.cons h r,e=>by
  obtain⟨e1,e2⟩:=XZ.mp e;subst e1 e2;exact .cons (F:=[]) h (ak.set hw j r rfl)
theorem F9{i:Nat}(hk:j6 K tk qk)(hv:j6 K tv qv):pz K (ni tv (Qb (cm i) tk GB)) (NG i qk qv):=fun dl H₀ hs H σ q Dq D ⟨F,r⟩ hq E=>by
 refine hv dl H σ q _ _ r.rd hq fun w t F1 H1 e1 r1 hq=>?_
 split at hq
 ·rename_i xs ei;obtain⟨v,hv',rp⟩:=(r.evo e1).g i _ _ ei rfl;refine⟨v,hv',hk dl H1 σ q _ _ (r.rd.evo e1) hq fun y u F2 H2 e2 r2 hq=>?_⟩
  split at hq
  ·obtain⟨j,hj,hm,ht,hq⟩:=hq;obtain⟨rfl,_⟩:=r2.r.int;obtain rfl:=r1.r.im ht;have rp2:=rp.evo e1.d e2;obtain⟨p,vs,G,rfl,eF,h1,h2⟩:=rp2.r.lst;have eG:=h2.im hm;subst eG;refine⟨p,vs,_,j,rfl,rfl,h1,by rw[h2.len];exact hj,?_⟩
   exact E.nx _ _ _ (r.rC ei hv' eF (e1.trans e2) (ak.set (r1.evo e1.d e2).r j h2 rfl) W2 fun _ z=>nomatch z) hq
  ·exact hq.elim
 ·exact hq.elim
theorem KU{i:Nat}(ho:PE X o (cm i))(hk:QPE X K a tk qk)(hv:QPE X K b tv qv)(hs:swapsWithSole [.Subscript o a pos'] b pos.line X.env=pure false:=by rfl)(hw:swappedStores [.Subscript o a pos'] b X.env=pure none:=by rfl)
  (h1:(assignEach [.Subscript o a pos'] X.env).map (·.2) = [assign (.Subscript o a pos') X.env]:=by rfl)
  (ha:∀ v,assign (.Subscript o a pos') X.env v =(do
   let ov <- holding [v] (eval o X.env)
   let iv <- holding [v,ov] (eval a X.env)
   standAt pos'
   holding [v,ov,iv] (setItem ov iv v)
   release [v,ov,iv] []):=by intro _;rfl):QPS X K (.Assign [.Subscript o a pos'] b pos) (ni tv (Qb (cm i) tk GB)) (NG i qk qv) :=
 ⟨Hh hv.h (Pe ho hk.h set_list ha) hs hw h1,F9 hk.s hv.s⟩
end
variable{a:Addr}{elts:List Expr}{pos':Pos}{t1:Bool}{t2:Bool}
section
variable{X:Cx}{K:W.Frag}{dl:Dl}
def vo(xs ys:List T):List T:=(xs.zip ys).map fun p=>.t [p.1,p.2]
theorem vn{xs ys:List T}{i:Nat}{z:T}(h:(vo xs ys)[i]? = some z):∃ x y,xs[i]? = some x/\ys[i]? = some y/\z = .t [x,y]:=by
 unfold vo at h;rw[Xc]at h;obtain⟨p,hp,rfl⟩:=Xg.mp h;rw[YD]at hp;exact⟨p.1,p.2,hp.1,hp.2,rfl⟩
theorem j9{xs ys:List T}:(vo xs ys).length=min xs.length ys.length:=by simp[vo]
theorem PX{b:Addr}{xs ys:List T}:xT K dl (Itz K true true a b) (vo xs ys) [(.ref a,.t xs),(.ref b,.t ys)] where
 go:=fun H i D h hi=>by
  obtain⟨F,r⟩:=h (.ref a,.t xs) (by simp)
  obtain⟨F',r'⟩:=h (.ref b,.t ys) (by simp)
  obtain⟨p,vs,e,h1,h2⟩:=r.r.tup;cases e;obtain⟨p',vs',e',h1',h2'⟩:=r'.r.tup;cases e';rw[j9]at hi;have l1:i<vs.length:=by rw[h2.len];omega
  have l2:i<vs'.length:=by rw[h2'.len];omega
  exact⟨vs,vs',vs[i],vs'[i],SqT.of h1,SqT.of h1',by simp[l1],by simp[l2]⟩
 yld:=fun H i x fp v H' D h hx y=>by
  have r:=h (.ref a,.t xs) (by simp)
  have r':=h (.ref b,.t ys) (by simp)
  obtain⟨p,vs,e,h1,h2⟩:=r.r.tup;cases e;obtain⟨p',vs',e',h1',h2'⟩:=r'.r.tup;cases e';obtain⟨x1,y1,hx1,hy1,rfl⟩:=vn hx;obtain⟨w1,G1,hw1,rw1,hs1⟩:=h2.get hx1;obtain⟨w2,G2,hw2,rw2,hs2⟩:=h2'.get hy1;obtain⟨q,u1,u2,hq,rfl,rfl,y1',y2'⟩:=y;have e1:=y1' vs (SqT.of h1);rw[hw1]at e1;cases e1;have e2:=y2' vs' (SqT.of h1');rw[hw2]at e2;cases e2;have rs:Rps K dl H [w1,w2] [x1,y1] (G1++(G2 ++ [])):=Rps.cons ⟨rw1,fun b hb=>r.n b (hs1 b hb)⟩ (Rps.cons ⟨rw2,fun b hb=>r'.n b (hs2 b hb)⟩ ⟨.nil,fun _ z=>nomatch z⟩)
  refine⟨(Evo.refl D).new hq,_,rs.tup D hq,fun c hb=>.inr ?_⟩
  rw[Xh]at hb;rcases Xj.mp hb with z|z
  ·exact⟨_,by simp,hs1 c z⟩
  ·exact⟨(.ref b,.t ys),by simp,hs2 c z⟩
 stop:=fun H D h=>by
  obtain⟨F,r⟩:=h (.ref a,.t xs) (by simp)
  obtain⟨F',r'⟩:=h (.ref b,.t ys) (by simp)
  obtain⟨p,vs,e,h1,h2⟩:=r.r.tup;cases e;obtain⟨p',vs',e',h1',h2'⟩:=r'.r.tup;cases e';refine⟨vs,vs',SqT.of h1,SqT.of h1',?_⟩;rw[j9,h2.len,h2'.len];omega
variable{tg e a b:Expr}{te ta tb:TE}{qe qa qb:QE}{tl:TA}{ql:QA}{pos p:Pos}
theorem Ly{x1}{ta:TA}(hK:X.K=K)(hg:Gl X "zip")(hm:X.mg "zip" = none)(kS:bootBuiltins "zip" = some (.type "zip"))(ha:PA X [a,b] ta)(hs:QX [a,b] X.env = [(false,eval a X.env),(false,eval b X.env)])(hs2:QX [b] X.env = [(false,eval b X.env)]) :
  PI X (.Tuple elts x1 pos') (.Call (.Name "zip" p) [a,b] [] pos) (P1 K t1 t2 ta):=by subst hK;exact Pa hg hm kS ha hs hs2
end
def qS(K:W.Frag):Sp:=fun vs H Q _=>∃(a:Addr)(ns:List Int),vs = [.ref a]/\FzL K H a (ns.map V.int)/\ns.length<=63/\∀ H',Q (.bl true) H'
variable{H:Hp}{xs:List V}
theorem T7{K:W.Frag}(h:Nf H)(hS:SqL K H a xs):FzL K H a xs:=by
 rcases hS with(z |⟨o,z⟩)|z
 ·rcases h a with e |⟨o,ys,e⟩
  ·rw[e]at z;cases z
  ·rw[e]at z;cases z
 ·exact .inl ⟨o,z⟩
 ·exact .inr z
variable{H':Hp}
theorem FzL.same{K:W.Frag}(h:FzL K H a xs)(s:m6 H H'):FzL K H' a xs:=by
 rcases h with⟨o,z⟩|z
 ·exact .inl ⟨o,s _ _ z⟩
 ·exact .inr z
variable{x:Str}{qual:Str}{N:List Str}{n:Nat}
theorem Fun.V8{w:World}{K:W.Frag}{st:Stmt}{f:Addr}{k:Nat}{s1:Stmt}{rest:List Stmt}(F:Fun K x qual st f fd)(S:aC N ["_law_script"] (ao st))(hN:N.length=n+2)(hst:bG st=s1::rest)
  (kT:∀(cdv:Value)(A:Around)(outer:List Env)(s:Shared)(H:Hp)(E:XK),bT k (A.deeper (envOfC qual (ao st) s.heap.objs.size f cdv)) ->
   ∃ t1 t qs,PS (sV CX0 P w K mg base N qual (ao st) f cdv A outer s H E).nox s1 t1/\m7 (sV CX0 P w K mg base N qual (ao st) f cdv A outer s H E).nox K rest t qs /\
    (∀(a:Addr)(ns:List Int)(D:Ends),SqL K H a (ns.map V.int)->ns.length<=63 ->(∀(d l:Addr)(H':Hp),H d=none->H l=none->oB H' d l->m6 H H'->D.nx ([some (.ref a),some (.ref d)]++Xp n none) H')->t1 D ([some (.ref a),none]++Xp n none) H) /\
    ∀ ns:List Int,ns.length<=63->qs { nx:=fun _=>False,rt:=fun t=>t = .b true } ([.r (.z ns),.r .og]++Xp n .no)):aP P w K mg base CX0 (k+1) f fd ["_law_script"] (qS K):=by
 refine F.ok S (fun vs H Q E h=>?_) (fun cdv A outer s H vs Q E hr h=>?_)
 ·obtain⟨a,ns,rfl,_⟩:=h;rfl
 ·obtain⟨a,ns,rfl,hS,hlen,k⟩:=h;obtain⟨t1,t,qs,h1,hb,r1,hq⟩:=kT cdv A outer s H E hr;rw[hst];refine⟨_,bK h1 hb.h,?_⟩;have es:start N [V.ref a] = [some (.ref a),none]++Xp n none:=by
   unfold start;rw[hN];rfl
  rw[es];refine r1 a ns _ hS.sq hlen fun d l H' hd hl D1 sm=>?_
  have Dq:Dls [(d,l)] H':=fun p hp=>by rw[qr.mp hp];exact D1
  have rp:Rps K [(d,l)] H' [.ref a,.ref d] [.z ns,.og] ([]++([] ++ [])):=⟨.cons (.z (hS.same sm)) (.cons (.x (l:=l) (qr.mpr rfl)) .nil),fun _ z=>nomatch z⟩
  have R:=uO (n:=n+2) Dq rp (by simp)
  refine hb.s [(d,l)] H' [] H' _ _ _ _ R (hq ns hlen) ⟨fun _ _ _ _ z=>z.elim,fun _ _ _ _ z=>z.elim,fun _ _ _ _ z=>z.elim,fun v t F H2 _ r' _ _ _ hz=>?_,fun _ _ _ _ _ _ _ _ _ _ _ _ z=>z.elim⟩
  subst hz;obtain⟨rfl,_⟩:=r'.r.bl;exact k H2
def vOf:Value->V
 | .none=>.non
 | .bool b=>.bl b
 | .int i _=>.int i
 | .str x _=>.str x
 | _=>.ty ""
variable{u:Value}
theorem BM{v:V}(r:RelV v u)(f:dX v=true):vOf u=v:=by
 cases v with
 | non=>cases r;rfl
 | bl b=>cases r;rfl
 | int i=>obtain⟨t,rfl⟩:=r;rfl
 | str x=>obtain⟨t,rfl⟩:=r;rfl
 | _=>exact absurd (show false=true from f) Xd
variable{us:List Value}
theorem Vals.V5{vs:List V}(r:Vals vs us):∀{u:Value},u∈us->∃ v∈vs,RelV v u:=by
 induction r with
 | nil=>intro u h;cases h
 | cons r1 _ ih =>
  intro u h;rcases QH.mp h with e|h
  ·subst e;exact⟨_,j5,r1⟩
  ·obtain⟨v,hv,rv⟩:=ih h;exact⟨v,Es _ hv,rv⟩
theorem Vals.Md{vs:List V}(r:Vals vs us)(f:vs.all dX=true):us.map vOf=vs:=by
 induction r with
 | nil=>rfl
 | cons r1 _ ih =>
  rw[Zy,Xi]at f;rw[Xs,BM r1 f.1,ih f.2]
section
variable{X:Cx}{K:W.Frag}{o e:Expr}{apos aT pos:Pos}{tl te:TE}{ql qe:QE}
def GI(K:W.Frag):V->List V->Hp->VK->Prop:=fun x vs H Q=>∃ l xs y j,x = .ref l/\vs = [y]/\SqL K H l xs/\xs.all dX=true/\dX y=true/\xs.findIdx? (fun z=>eqV z y)=some j/\Q (.int (j:Nat)) H
theorem HV:MtR X "list.index" (GI X.K):=by
 intro j0 s σ H x vs v us Q I rx rv h;obtain⟨l,xs,y,j,rfl,rfl,hl,fx,fy,hj,q⟩:=h;cases rx;obtain⟨u,rfl,ru⟩:=rv.one;obtain⟨its,r,pl,hz⟩:=I.list hl;obtain⟨⟨c,dd,dat,sl⟩,ho,hc,n,hd⟩:=pl.isList;simp only at hc hd;subst hc hd;have hj':its.findIdx? (fun v=>eqV (vOf v) y)=some j:=by
  rw[<- r.Md fx,ZL]at hj;exact hj
 obtain⟨hlt,hit,hno⟩:=YL.mp hj';have hlen:=r.length;have hn:=jH;refine call_meets PySem.F.slot_list_index ⟨_,ho,rfl⟩ PySem.F.entry_list_index (PySem.F.args_list_index_2 _ _) (SeqAt.list_indexAt l its.toArray n dd sl u (fun v=>eqV (vOf v) y) j (by simpa using hlt) (by omega) (by simpa using hit) (fun m hm hmj=>?_)) ⟨ho,fun z hz=>?_,?_⟩
 ·have:=hno m hmj
  simpa using this
 ·obtain⟨w,hw,rw'⟩:=r.V5 (by simpa using hz)
  have fw:=XH.mp fx w hw;rw[BM rw' fw];exact o6 rw' ru fw fy
 ·exact⟨.int _,H,I.tok _,⟨_,rfl⟩,q⟩
def VL(ql qe:QE):QE:=fun q Q=>ql q fun t=>match t with
 | .l xs=>qe q fun u=>fls xs=true/\u.fl=true/\∃ j,xs.findIdx? (fun z=>eqV z.v u.v)=some j/\Q (.i (j:Nat))
 | _=>False
theorem El{xs:List T}(f:fls xs=true):(xs.map T.v).all dX=true:=by
 rw[ZK,XH];exact fun x hx=>xn (XH.mp f x hx)
theorem GS(ho:QPE X K o tl ql)(he:QPE X K e te qe)(hK:X.K=K:=by rfl)(c6:attributeBase o "index" X.env (eval o X.env)=eval o X.env:=by rfl)
  (kR:((backTo aT (QX [e] X.env)).all (fun x=>!x.1)&&(backToKw aT (keywordEach [] X.env)).all (fun x=>x.1.isSome)
   && decide (([e]:List Expr).length+([]:List Keyword).length+(if([]:List Keyword).isEmpty then 0 else 1)<30))=true:=by rfl)
  (c5:(apos.endLine==aT.line)=true:=by rfl) (hs:QX [e] X.env =(false,eval e X.env)::QX [] X.env:=by rfl) (cF:(backTo aT (QX [] X.env)).any (·.1)=false:=by rfl) :
  QPF X K (.Call (.Attribute o "index" apos) [e] [] aT) (tBM K "list" (GI K) tl (fY te iS)) (VL ql qe) :=
 ⟨by subst hK;exact uV PySem.F.plainAttrs_list PySem.F.slot_list_index PySem.F.type_list_index HV ho.h (bV he.h gN hs) c6 kR c5 hs cF,fun dl H σ q Q R rd hq k=>ho.s dl H σ q _ _ rd hq fun v t F H1 e1 r1 hq=>by
  split at hq
  ·obtain⟨p,vs,G,rfl,eF,h1,h2⟩:=r1.r.lst;refine⟨.inl ⟨rfl,vs,SqL.of h1⟩,he.s dl H1 σ q _ _ (rd.evo e1) hq fun y u F2 H2 e2 r2 hPP=>?_⟩
   obtain⟨f1,f2,j,hj,hq⟩:=hPP;have rp:=r1.evo e1.d e2;obtain⟨p',vs',G',e',eF',h1',h2'⟩:=rp.r.lst;cases e';obtain⟨ev,_⟩:=h2'.vs f1;obtain⟨ey,_⟩:=r2.r.v f2;subst ev ey;refine⟨p,_,_,j,rfl,rfl,SqL.of h1',El f1,xn f2,by rw[ZL];exact hj,?_⟩
   exact k _ _ [] H2 (e1.trans e2) (.c (.i _)) (fun _ z=>nomatch z) W2 hq
  ·exact hq.elim⟩
end
variable{tp:Bool}{p1:Pos}{p2:Pos}{b7:Pos}
section
variable{X:Cx}{K:W.Frag}{dl:Dl}
def u9(xs:List T):List T:=xs.zipIdx.map fun p=>.t [.i (p.2:Nat),p.1]
theorem zf{xs:List T}{i:Nat}{z:T}(h:(u9 xs)[i]? = some z):∃ x,xs[i]? = some x/\z = .t [.i (i:Nat),x]:=by
 unfold u9 at h;rw[Xc]at h;obtain⟨p,hp,rfl⟩:=Xg.mp h;rw[List.getElem?_zipIdx]at hp;obtain⟨x,hx,rfl⟩:=Xg.mp hp;exact⟨x,hx,by simp⟩
theorem pb{xs:List T}:(u9 xs).length=xs.length:=by simp[u9]
theorem Mq{xs:List T}:xT K dl (Ite K true a) (u9 xs) [(.ref a,.t xs)] where
 go:=fun H i D h hi=>by
  obtain⟨F,r⟩:=h (.ref a,.t xs) (by simp)
  obtain⟨p,vs,e,h1,h2⟩:=r.r.tup;cases e;rw[pb]at hi;have l1:i<vs.length:=by rw[h2.len];omega
  exact⟨vs,vs[i],SqT.of h1,by simp[l1]⟩
 yld:=fun H i x fp v H' D h hx y=>by
  have r:=h (.ref a,.t xs) (by simp)
  obtain⟨p,vs,e,h1,h2⟩:=r.r.tup;cases e;obtain⟨x1,hx1,rfl⟩:=zf hx;obtain⟨w1,G1,hw1,rw1,hs1⟩:=h2.get hx1;obtain⟨q,u1,hq,rfl,rfl,y1'⟩:=y;have e1:=y1' vs (SqT.of h1);rw[hw1]at e1;cases e1;have rs:Rps K dl H [.int (i:Nat),w1] [.i (i:Nat),x1] ([]++(G1 ++ [])):=Rps.cons ⟨.i _,fun _ z=>nomatch z⟩ (Rps.cons ⟨rw1,fun b hb=>r.n b (hs1 b hb)⟩ ⟨.nil,fun _ z=>nomatch z⟩)
  refine⟨(Evo.refl D).new hq,_,rs.tup D hq,fun c hb=>.inr ?_⟩
  rw[Xh]at hb;exact⟨_,by simp,hs1 c hb⟩
 stop:=fun H D h=>by
  obtain⟨F,r⟩:=h (.ref a,.t xs) (by simp)
  obtain⟨p,vs,e,h1,h2⟩:=r.r.tup;cases e;exact⟨vs,SqT.of h1,by rw[pb,h2.len];exact Xa _⟩
variable{tg e a b c:Expr}{te ta tb:TE}{qe qa qb:QE}{tl:TA}{ql:QA}{pos p:Pos}
theorem Hu{x1}{ta:TA}(hK:X.K=K)(hg:Gl X "enumerate")(hm:X.mg "enumerate" = none)(kS:bootBuiltins "enumerate" = some (.type "enumerate"))(ha:PA X [a] ta)(hs:QX [a] X.env = [(false,eval a X.env)]) :
  PI X (.Tuple elts x1 pos') (.Call (.Name "enumerate" p) [a] [] pos) (Ip K tp ta):=by subst hK;exact Lz hg hm kS ha hs
def Sk(qe:QE):QE:=fun q Q=>qe q fun t=>match t with | .t xs=>T.ims xs=true/\Q (.l xs.reverse) | _=>False
theorem ak.snoc{v:V}{t:T}(hv:ax K dl H v t []){vs:List V}{ts:List T}{F:List Addr}(h:ak K dl H vs ts F):F = []->ak K dl H (vs ++ [v]) (ts ++ [t]) [] :=
 h.ind (M:=fun vs ts F=>F = []->ak K dl H (vs ++ [v]) (ts ++ [t]) []) (fun _=>.cons (F:=[]) (G:=[]) hv .nil) fun _ _ _ _ _ _ h _ ih e=>by
  obtain⟨e1,e2⟩:=XZ.mp e;subst e1;exact .cons (F:=[]) (G:=[]) h (ih e2)
theorem ak.rev{vs:List V}{ts:List T}{F:List Addr}(h:ak K dl H vs ts F):F = []->ak K dl H vs.reverse ts.reverse [] :=
 h.ind (M:=fun vs ts F=>F = []->ak K dl H vs.reverse ts.reverse []) (fun _=>.nil) fun _ _ _ _ _ _ h _ ih e=>by
  obtain⟨e1,e2⟩:=XZ.mp e;subst e1;rw[Yy,Yy];exact ak.snoc h (ih e2) rfl
theorem wc(hK:X.K=K)(hc:X.calm=true)(hg1:Gl X "list")(hm1:X.mg "list" = none)(hg2:Gl X "reversed")(hm2:X.mg "reversed" = none)(he:PE X e te)
  (hs1:QX [e] X.env = [(false,eval e X.env)]) (hs2:QX [.Call (.Name "reversed" p2) [e] [] b7] X.env = [(false,eval (.Call (.Name "reversed" p2) [e] [] b7) X.env)]) :
  PE X (.Call (.Name "list" p1) [.Call (.Name "reversed" p2) [e] [] b7] [] pos) (oG K te):=by subst hK;exact yM hc hg1 hm1 hg2 hm2 he hs1 hs2
theorem yA{p1 p2 b7:Pos}(hc:X.calm=true)(hg1:Gl X "list")(hm1:X.mg "list" = none)(hg2:Gl X "reversed")(hm2:X.mg "reversed" = none)(he:QPE X K e te qe)
  (hs1:QX [e] X.env = [(false,eval e X.env)]:=by rfl) (hs2:QX [.Call (.Name "reversed" p2) [e] [] b7] X.env = [(false,eval (.Call (.Name "reversed" p2) [e] [] b7) X.env)]:=by rfl) (hK:X.K=K:=by rfl) :
  QPF X K (.Call (.Name "list" p1) [.Call (.Name "reversed" p2) [e] [] b7] [] pos) (oG K te) (Sk qe) :=
 ⟨wc hK hc hg1 hm1 hg2 hm2 he.h hs1 hs2,fun dl H σ q Q R rd hq k=>he.s dl H σ q _ _ rd hq fun v t F H1 e1 r hz=>by
  split at hz
  ·obtain⟨i1,hz⟩:=hz;obtain rfl:=r.r.im (t:=.t _) i1;obtain⟨l,vs,rfl,h1,h2⟩:=r.r.tup;refine⟨l,vs,rfl,SqT.of h1,fun p hp=>?_⟩
   have rs:Rps K dl H1 vs.reverse _ []:=⟨h2.rev rfl,fun _ z=>nomatch z⟩
   exact k _ _ [p] _ (e1.new hp) (rs.lst e1.d hp) (fun b hb=>by rw[qr.mp hb];exact e1.free hp) (by simp) hz
  ·exact hz.elim⟩
variable{o:Expr}{apos aT:Pos}
end
variable{d:Addr}{l:Addr}
section
variable{X:Cx}{K:W.Frag}{dl:Dl}{v:V}{F:List Addr}
theorem ax.WG{o:Obj}{vs:List (Key×V)}{ts:List (Key×T)}(h:ax K dl H v (.fd o vs ts) F):∃ a,v = .ref a/\F = []/\H a=some (.frz o (.dK vs))/\aG K dl H vs ts []:=by cases h with|fd h r=>exact⟨_,rfl,rfl,h,r⟩
variable{tg e a b:Expr}{te ta tb:TE}{qe qa qb:QE}{pos:Pos}
theorem oB.oth{a:Addr}{o:HO}(D:oB H d l)(h1:a≠d)(h2:a≠l):oB (upd H a o) d l:=by
 obtain⟨s,n,ls,Q⟩:=D;exact⟨s,n,ls,by rw[ai h1.symm];exact Q.hd,by rw[ai h2.symm];exact Q.hl,Q.s0,Q.s1,Q.n0,Q.l0⟩
end
section
variable{X:Cx}{K:W.Frag}{dl:Dl}{v:V}{F:List Addr}
theorem ak.lookup{f:Str}:∀{ns:List Str}{vs:List V}{ts:List T}{F:List Addr}{u:T},ak K dl H vs ts F ->(ns.zip ts).lookup f=some u->∃ w G,(ns.zip vs).lookup f=some w/\ax K dl H w u G/\∀ b∈G,b∈F
 | [],_,_,_,_,_,h=>by simp at h
 | _::_,_,_,_,_,.nil,h=>by simp at h
 | n::ns,_,_,_,u,.cons h1 r,h=>by
  rw[List.zip_cons_cons,Xk]at h ⊢;cases e:(f==n)with
  | true =>
   rw[e]at h;cases h;exact⟨_,_,rfl,h1,fun b hb=>Xf _ hb⟩
  | false =>
   rw[e]at h;obtain⟨w,G,a1,a2,a3⟩:=ak.lookup (ns:=ns) r h;exact⟨w,G,a1,a2,fun b hb=>W7 _ (a3 b hb)⟩
end
section
variable{X:Cx}{K:W.Frag}{dl:Dl}{a b e:Expr}{ta tb te:TE}{qa qb qe:QE}{pos:Pos}
def Sn(qa qb:QE):QE:=fun q Q=>qa q fun t=>qb q fun u=>match t,u with
 | .l xs,.i k=>∃ x,atI xs k=some x/\Q x
 | _,_=>False
theorem mH(ha:QPF X K a ta qa)(hb:QPE X K b tb qb)(hs:oy b:=by intro _ _;rfl)(hK:X.K=K:=by rfl):QPF X K (.Subscript a b pos) (tOp (rIx K) ta tb) (Sn qa qb):=by
 refine⟨by subst hK;exact Cf Ba ha.h hb.h hs,fun dl H σ q Q R rd hq k=>?_⟩
 refine ha.s dl H σ q _ _ rd hq fun v t F H1 e1 r1 f1 n1 hq1=>?_
 refine hb.s dl H1 σ q _ _ (rd.evo e1) hq1 fun w u G H2 e2 r2 hq2=>?_
 have r1:=r1.evo e1.d e2
 split at hq2
 ·obtain⟨rfl,rfl⟩:=r2.r.int;obtain⟨p,vs,G,rfl,rfl,h1,h2⟩:=r1.r.lst;obtain⟨z,hz,hq⟩:=hq2;obtain⟨j,hj,hi⟩:=ow hz h2.len.symm;obtain⟨v,G',hv,rv,hs⟩:=h2.Qa hj;have sub:∀ c∈G',c∈p::G:=fun c hc=>Es _ (hs.subset hc)
  exact .inl ⟨p,vs,_,v,rfl,rfl,SqL.of h1,pw hi hv,k v z G' H2 (e1.trans e2) (Rp.sub rv r1.n sub) (fun c hc=>f1 c (sub c hc)) ((Xm.mp n1).2.sublist hs) hq⟩
 ·exact hq2.elim
end
section
variable{X:Cx}{K:W.Frag}{dl:Dl}{a e:Expr}{te:TE}{qe:QE}{tl:TA}{ql:QA}{pos p:Pos}
def UA(ql:QA):QJ:=fun q Q=>ql q fun ts=>match ts with | [.t xs]=>T.ims xs=true/\Q (u9 xs) q | _=>False
theorem K9{x1}(hg:Gl X "enumerate")(hm:X.mg "enumerate" = none)(kS:bootBuiltins "enumerate" = some (.type "enumerate"))(ha:QPA X K [a] tl ql)(hs:QX [a] X.env = [(false,eval a X.env)]:=by rfl)(hK:X.K=K:=by rfl) :
  QPJ X K (.Tuple elts x1 pos') (.Call (.Name "enumerate" p) [a] [] pos) (Ip K true tl) (UA ql):=⟨Hu hK hg hm kS ha.h hs,fun dl H₀ hs H σ q Q R ⟨F0,r0⟩ hq k=>ha.s dl H σ q _ _ r0.rd hq fun vs ts F H' e1 r _ hz=>by
 split at hz
 ·obtain⟨i1,hz⟩:=hz;obtain⟨v,rfl,r1⟩:=r.one;obtain rfl:=r1.r.im (t:=.t _) i1;have q1:=(r0.evo e1).hold r1 fun j u hj b hb z=>nomatch z
  obtain⟨l1,vs1,rfl,h1,h2⟩:=r1.r.tup;exact⟨l1,rfl,⟨vs1,SqT.of h1⟩,k _ _ _ H' q ⟨F0,q1⟩ Mq hz⟩
 ·exact hz.elim⟩
def OY(qe:QE):QE:=fun q Q=>qe q fun t=>match t with | .l xs=>T.ims xs=true/\Q (.l xs.reverse) | _=>False
theorem yN(hK:X.K=K)(hc:X.calm=true)(hg1:Gl X "list")(hm1:X.mg "list" = none)(hg2:Gl X "reversed")(hm2:X.mg "reversed" = none)(he:PE X e te)
  (hs1:QX [e] X.env = [(false,eval e X.env)]) (hs2:QX [.Call (.Name "reversed" p2) [e] [] b7] X.env = [(false,eval (.Call (.Name "reversed" p2) [e] [] b7) X.env)]) :
  PE X (.Call (.Name "list" p1) [.Call (.Name "reversed" p2) [e] [] b7] [] pos) (qQ K te):=by subst hK;exact rR hc hg1 hm1 hg2 hm2 he hs1 hs2
theorem yB{p1 p2 b7:Pos}(hc:X.calm=true)(hg1:Gl X "list")(hm1:X.mg "list" = none)(hg2:Gl X "reversed")(hm2:X.mg "reversed" = none)(he:QPE X K e te qe)
  (hs1:QX [e] X.env = [(false,eval e X.env)]:=by rfl) (hs2:QX [.Call (.Name "reversed" p2) [e] [] b7] X.env = [(false,eval (.Call (.Name "reversed" p2) [e] [] b7) X.env)]:=by rfl) (hK:X.K=K:=by rfl) :
  QPF X K (.Call (.Name "list" p1) [.Call (.Name "reversed" p2) [e] [] b7] [] pos) (qQ K te) (OY qe) :=
 ⟨yN hK hc hg1 hm1 hg2 hm2 he.h hs1 hs2,fun dl H σ q Q R rd hq k=>he.s dl H σ q _ _ rd hq fun v t F H1 e1 r hz=>by
  split at hz
  ·obtain⟨i1,hz⟩:=hz;obtain⟨l,vs,G,rfl,rfl,h1,h2⟩:=r.r.lst;obtain rfl:=h2.im i1;refine⟨l,vs,rfl,SqL.of h1,fun p hp=>?_⟩
   have rs:Rps K dl H1 vs.reverse _ []:=⟨h2.rev rfl,fun _ z=>nomatch z⟩
   exact k _ _ [p] _ (e1.new hp) (rs.lst e1.d hp) (fun b hb=>by rw[qr.mp hb];exact e1.free hp) (by simp) hz
  ·exact hz.elim⟩
end
variable{j:Nat}{A:Around}
section
variable{X:Cx}{K:W.Frag}{dl:Dl}
variable{tg e o:Expr}{te to:TE}{qe qo:QE}
theorem fk{vs:List V}{ts:List T}{F:List Addr}(h:ak K dl H vs ts F){v:V}(hv:vs[j]? = some v):∃ t G,ts[j]? = some t/\ax K dl H v t G:=by
 have hl:=h.len;have hj:j<ts.length:=by rw[<- hl];exact(VZ.mp hv).1
 obtain⟨w,G,hw,r,_⟩:=h.get (show ts[j]? = some ts[j]from by simp[hj])
 rw[hv]at hw;cases hw;exact⟨_,G,by simp[hj],r⟩
theorem y9{k:Nat}(hr:bT k A):A.units+150<cLine:=by have:=hr.un;omega
variable{es:List Expr}{tl:TA}{ql:QA}
end
section
variable{X:Cx}{K:W.Frag}{ek ev:Expr}{tk tv:TE}{qk qv:QE}{pos:Pos}
theorem TF.dict{p:Addr}{kv kw:List (Key×V)}(hp:H p=some (.dK kv)):TF H (upd H p (.dK kw)) :=
 have ne:∀{a:Addr}{o:HO},H a=some o ->(∀ kv,o ≠ .dK kv)->a≠p:=fun h n e=>by rw[e,hp]at h;exact n _ (Option.some.inj h).symm
 ⟨fun a vs h=>by rw[ai (ne h fun _ z=>nomatch z)];exact h,fun a o u h=>by rw[ai (ne h fun _ z=>nomatch z)];exact h,fun a φ h=>by rw[ai (ne h fun _ z=>nomatch z)];exact h,fun a xs h=>⟨xs,by rw[ai (ne h fun _ z=>nomatch z)];exact h⟩,fun a x h=>⟨x,X0 _,by rw[ai (ne h fun _ z=>nomatch z)];exact h⟩⟩
end
section
variable{X:Cx}{K:W.Frag}{a b e o:Expr}{ta tb te:TE}{qa qb qe:QE}{pos:Pos}
theorem Evo.fresh{dl:Dl}{a:Addr}{o:HO}(e:Evo dl H H')(ha:H a=none)(nd:Nd dl a):Evo dl H (upd H' a o) :=
 ⟨fun b u h n r=>by rw[ai (aQ h ha)];exact e.k b u h n r,fun p hp=>(e.d p hp).oth (nd p hp).1 (nd p hp).2,fun b x h=>let⟨y,hy,e'⟩:=e.r b x h;⟨y,hy,by rw[ai (aQ h ha)];exact e'⟩⟩
end
def sy(H:Hp)(a:Addr):Hp:=fun b=>if b=a then none else H b
theorem mQ:sy H a a=none:=if_pos rfl
theorem sx{b:Addr}(h:b≠a):sy H a b=H b:=if_neg h
def spM(K:W.Frag)(j:Nat)(ps:PSp):Sp:=fun vs H Q _=>∃(dl:Dl)(ts:List T)(a:Addr)(ks:List (Key×T))(Qp:T->Prop),Dls dl H/\vs.length=ts.length/\vs[j]? = some (.ref a)/\ts[j]? = some (.dp a ks)/\Rp K dl H (.ref a) (.dp a ks) [a] /\
 (∀ i v t,i≠j->vs[i]? = some v->ts[i]? = some t->Rp K dl H v t [])/\ps ts Qp /\
 ∀ ks' H',Frm dl (sy H a) H'->Dls dl H'->Rp K dl H' (.ref a) (.dp a ks') [a]->Qp (.dp a ks')->Q .non H'
theorem An{K:W.Frag}{dl:Dl}{vs:List V}{ts:List T}{ks:List (Key×T)}(D:Dls dl H)(hl:vs.length=ts.length)(hv:vs[j]? = some (.ref a))(ht:ts[j]? = some (.dp a ks))(r0:Rp K dl H (.ref a) (.dp a ks) [a])(ro:∀ i v t,i≠j->vs[i]? = some v->ts[i]? = some t->Rp K dl H v t [])(hj:j<ts.length):Rel K dl (sy H a) [] H (start N vs) ((ts.map Sl.r).set j (.o (.dp a ks))++Xp (N.length - ts.length) .no) (fun i=>if i=j then [a]else []):=by
 have lk:∀(i:Nat)(y:Sl),((ts.map Sl.r).set j (.o (.dp a ks))++Xp (N.length - ts.length) Sl.no)[i]? = some y ->(i=j/\y = .o (.dp a ks))\/(i≠j/\∃ t,ts[i]? = some t/\y = .r t)\/(ts.length<=i/\y = .no):=fun i y h=>by
  by_cases hi:i<ts.length
  ·rw[XN (by simpa using hi)]at h
   rcases get_set h with⟨e1,e2,_⟩ |⟨e1,e2⟩
   ·exact .inl ⟨e1,e2⟩
   ·rw[Xc,RH hi]at e2;exact .inr (.inl ⟨e1,ts[i],by simp,(Option.some.inj e2).symm⟩)
  ·rw[XG (by simpa using hi),Yv]at h
   split at h
   ·exact .inr (.inr ⟨by omega,(Option.some.inj h).symm⟩)
   ·cases h
 have vat:∀(i:Nat)(v:V),vs[i]? = some v ->(start N vs)[i]? = some (some v):=fun i v e=>by
  have hi:i<vs.length:=(VZ.mp e).1;show(vs.map some++Xp (N.length - vs.length) none)[i]? = _;rw[XN (by simpa using hi),Xc,e]
  rfl
 refine⟨D,fun i y t h1 h2=>?_,fun i y h1 h2=>?_,fun i hi=>?_,fun i t h1=>?_,fun p hp=>(by cases hp),⟨fun b o h _ _=>?_,fun b x h=>⟨x,X0 _,?_⟩⟩,?_⟩
 ·rcases lk i y h1 with⟨rfl,rfl⟩ |⟨ne,u,e,rfl⟩ |⟨_,rfl⟩
  ·cases h2;refine⟨.ref a,vat _ _ hv,?_⟩;rw[if_pos rfl];exact r0
  ·cases h2;obtain⟨v,ev⟩:∃ v,vs[i]? = some v:=⟨vs[i]'(by rw[hl];exact(VZ.mp e).1),RH _⟩
   refine⟨v,vat _ _ ev,?_⟩;show Rp K dl H v t (if i=j then [a]else [])
   rw[if_neg ne];exact ro i v t ne ev e
  ·cases h2
 ·rcases lk i y h1 with⟨rfl,rfl⟩ |⟨ne,u,e,rfl⟩ |⟨hi,rfl⟩
  ·cases h2
  ·cases h2
  ·exact if_neg (by omega)
 ·refine if_neg ?_;simp at hi;omega
 ·rcases lk i _ h1 with⟨rfl,e⟩ |⟨ne,u,e,z⟩ |⟨_,z⟩
  ·refine⟨by simp,fun b hb=>?_,fun k hk b hb=>?_⟩
   ·simp only[if_pos]at hb;rw[qr.mp hb];exact mQ
   ·simp only[if_neg hk];exact Xy
  ·cases z
  ·cases z
 ·by_cases e:b=a
  ·rw[e,mQ]at h;cases h
  ·rw[sx e]at h;exact h
 ·by_cases e:b=a
  ·rw[e,mQ]at h;cases h
  ·rw[sx e]at h;exact h
 ·show _ =(vs.map some++Xp (N.length - vs.length) none).length;simp[hl]
theorem Fun.okM{w:World}{K:W.Frag}{st:Stmt}{f:Addr}{ps:List Str}{k:Nat}{psp:PSp}(F:Fun K x qual st f fd)(S:aC N ps (ao st))(len:∀ ts Q,psp ts Q->ts.length=ps.length)
  (kT:∀(cdv:Value)(A:Around)(outer:List Env)(s:Shared)(H:Hp)(E:XK),bT k (A.deeper (envOfC qual (ao st) s.heap.objs.size f cdv)) ->
   ∃ t qs,m7 (sV CX0 P w K mg base N qual (ao st) f cdv A outer s H E).nox K (bG st) t qs/\∀ ts Q a ks,psp ts Q->ts[j]? = some (.dp a ks)->qs { nx:=fun q=>∃ ks',q[j]? = some (.o (.dp a ks'))/\T.imk ks'=true/\Q (.dp a ks'),rt:=fun _=>False } ((ts.map Sl.r).set j (.o (.dp a ks))++Xp (N.length - ts.length) .no)):aP P w K mg base CX0 (k+1) f fd ps (spM K j psp):=by
 have hPN:ps.length<=N.length:=by have:=congrArg ZT S.pre;rw[X7]at this;omega
 refine F.ok S (fun vs H Q E h=>?_) (fun cdv A outer s H vs Q E hr h=>?_)
 ·obtain⟨dl,ts,a,ks,Qp,_,hl,_,_,_,_,h,_⟩:=h;rw[hl];exact len ts Qp h
 ·obtain⟨dl,ts,a,ks,Qp,D,hl,hv,ht,r0,ro,h,fin⟩:=h;obtain⟨t,qs,hb,hq⟩:=kT cdv A outer s H E hr;refine⟨t,hb.h,?_⟩;have hlen:=len ts Qp h;have z:=hq ts Qp a ks h ht;have hj:j<ts.length:=(VZ.mp ht).1;have R:=An (N:=N) D hl hv ht r0 ro hj;refine hb.s dl (sy H a) [] H _ _ _ _ ⟨_,R⟩ z ⟨fun H' σ q hr hz=>?_,fun _ _ _ _ hz=>hz.elim,fun _ _ _ _ hz=>hz.elim,fun _ _ _ _ _ _ _ _ _ hz=>hz.elim,fun _ _ _ _ _ _ _ _ _ _ _ _ z=>z.elim⟩
  obtain⟨F,r'⟩:=hr;obtain⟨ks',e1,him,hz⟩:=hz;obtain⟨v',_,rp⟩:=r'.g j _ _ e1 rfl;obtain⟨vs',G,rfl,eF,g1,g2⟩:=rp.r.dpp;obtain rfl:=g2.im him;rw[eF]at rp;exact fin ks' H' r'.f r'.d rp hz
section
variable{X:Cx}{K:W.Frag}{dl:Dl}{H₀:Hp}{hs:List (V×T)}{σ:St}{q:Sq}{F:Nat->List Addr}
theorem Rel.ug{i:Nat}{t t':T}{v:V}(r:Rel K dl H₀ hs H σ q F)(hi:q[i]? = some (.o t))(hv:σ[i]? = some (some v))(hF:F i = [a])(ha:∃ kvs,H a=some (.dK kvs))(f:Frm dl (sy H a) H')(D:Dls dl H')(hr:Rp K dl H' v t' [a]):fu K dl H₀ hs H' σ (q.set i (.o t')):=by
 obtain⟨kvs,ha⟩:=ha;have ne:∀{b:Addr}{o:HO},H b=some o ->(∀ kv,o ≠ .dK kv)->b≠a:=fun h n e=>by rw[e,ha]at h;exact n _ (Option.some.inj h).symm
 have cut:∀{b:Addr}{o:HO},H b=some o->b≠a->sy H a b=some o:=fun h n=>by rw[sx n];exact h
 have tf:TF H H':=⟨fun b vs h=>f.k b _ (cut h (ne h fun _ z=>nomatch z)) (r.d.nd h (fun _ z=>nomatch z) fun _ z=>nomatch z) (fun _ z=>nomatch z),fun b o u h=>f.k b _ (cut h (ne h fun _ z=>nomatch z)) (r.d.nd h (fun _ z=>nomatch z) fun _ z=>nomatch z) (fun _ z=>nomatch z),
  fun b φ h=>f.k b _ (cut h (ne h fun _ z=>nomatch z)) (r.d.nd h (fun _ z=>nomatch z) fun _ z=>nomatch z) (fun _ z=>nomatch z),fun b xs h=>(by
  by_cases hn:Nd dl b
  ·exact⟨xs,f.k b _ (cut h (ne h fun _ z=>nomatch z)) hn (fun _ z=>nomatch z)⟩
  ·unfold Nd at hn;obtain⟨p,hp,z⟩:∃ p∈dl,¬(b≠p.1/\b≠p.2):=Classical.byContradiction fun c=>hn fun p hp=>Classical.byContradiction fun z=>c ⟨p,hp,z⟩
   obtain⟨s,n,ls,Q⟩:=r.d p hp;obtain⟨s',n',ls',Q'⟩:=D p hp;have h1:b≠p.1:=jS h Q.hd (fun z=>nomatch z)
   have h2:b=p.2:=Classical.byContradiction fun z'=>z ⟨h1,z'⟩
   exact⟨_,by rw[h2];exact Q'.hl⟩),fun b x h=>f.r b x (cut h (ne h fun _ z=>nomatch z))⟩
 have st:∀{w:V}{u:T}{Fw:List Addr},Rp K dl H w u Fw->a ∉ Fw->Rp K dl H' w u Fw:=fun{w u Fw} h np =>
  ⟨h.r.b6 tf (fun _ z=>z) fun b hb o e=>f.k b o (cut e fun z=>np (z▸hb)) (h.n b hb) (.of (h.r.there b hb) e),h.n⟩
 obtain⟨o1,o2,o3⟩:=r.o i t hi;have hF':∀ j,(pU F i [a]) j=F j:=fun j=>by
  by_cases e:j=i
  ·subst e;rw[aI,hF]
  ·rw[aB e]
 refine⟨F,D,fun j x u h1 h2=>?_,fun j x h1 h2=>?_,fun j hj=>r.z j (by rw[XW]at hj;exact hj),fun j u h1=>?_,fun p hp=>?_,⟨fun b o h n nr=>?_,fun b x h=>?_⟩,by simp[r.l]⟩
 ·rcases get_set h1 with⟨rfl,rfl,_⟩ |⟨ne',h1⟩
  ·cases h2;exact⟨v,hv,by rw[hF];exact hr⟩
  ·obtain⟨w,h3,h4⟩:=r.g j x u h1 h2;exact⟨w,h3,st h4 (o3 j ne' a (by rw[hF];exact j5))⟩
 ·rcases get_set h1 with⟨rfl,rfl,_⟩ |⟨ne',h1⟩
  ·cases h2
  ·exact r.n j x h1 h2
 ·rcases get_set h1 with⟨rfl,e,_⟩ |⟨ne',h1⟩
  ·exact⟨o1,o2,o3⟩
  ·exact r.o j u h1
 ·obtain⟨Fp,h1,h2⟩:=r.h p hp;refine⟨Fp,st h1 (h2 i t hi a (by rw[hF];exact j5)),fun j u hj b hb z=>?_⟩
  rcases get_set hj with⟨rfl,e,_⟩ |⟨ne',hj⟩
  ·exact h2 j t hi b hb z
  ·exact h2 j u hj b hb z
 ·have n0:b≠a:=fun z=>by rw[z,o2 a (by rw[hF];exact j5)]at h;cases h
  exact f.k b o (cut (r.f.k b o h n nr) n0) n nr
 ·have n0:b≠a:=fun z=>by rw[z,o2 a (by rw[hF];exact j5)]at h;cases h
  obtain⟨y,hy,e1⟩:=r.f.r b x h;obtain⟨y',hy',e2⟩:=f.r b y (cut e1 n0);exact⟨y',X9 hy' hy,e2⟩
end
variable{H₀:Hp}{q:Sq}
section
variable{X:Cx}{K:W.Frag}{e a b o:Expr}{es:List Expr}{te tk tv:TE}{tl:TA}{qe qk qv:QE}{ql:QA}{pos p:Pos}{k:Nat}{f:Addr}{prs:List Str}{ps:PSp}{i:Nat}
structure Jw(X:Cx)(K:W.Frag)(es:List Expr)(tl:TA)(i j:Nat)(ql:QA):Prop where
 h:PA X es tl
 s:∀(dl:Dl)(H:Hp)(σ:St)(q:Sq)(v0:V)(Q:List T->Prop)(R:List V->Hp->Prop),RdR K dl H σ q->σ[i]? = some (some v0)->ql q Q ->
  (∀ vs ts H',Evo dl H H'->vs.length=ts.length->vs[j]? = some v0 ->(∀ n v t,n≠j->vs[n]? = some v->ts[n]? = some t->Rp K dl H' v t [])->Q ts->R vs H')->tl σ H R
theorem ak.im1{dl:Dl}{vs:List V}{ts:List T}{F:List Addr}(h:ak K dl H vs ts F)(him:T.ims ts=true):∀(n:Nat)(v:V)(t:T),vs[n]? = some v->ts[n]? = some t->ax K dl H v t []:=by
 obtain rfl:=h.im him;intro n v t h1 h2;obtain⟨v',G,e1,r,s⟩:=h.Qa h2;rw[h1]at e1;cases e1;rw[YR.mp s]at r;exact r
theorem gb(hx:PE X e (cm i))(hr:QPA X K es tl ql)(hs:QX (e::es) X.env =(false,eval e X.env)::QX es X.env:=by rfl):Jw X K (e::es) (fY (cm i) tl) i 0 (fun q Q=>ql q fun ts=>T.ims ts=true/\Q (.n::ts)) :=
 ⟨bV hx hr.h hs,fun dl H σ q v0 Q R rd hv hq k=>⟨v0,hv,hr.s dl H σ q _ _ rd hq fun vs ts F H1 e1 r1 l1 hz=>k _ (.n::ts) H1 e1 (by simp[r1.r.len]) rfl (fun n v t ne h1 h2=>by
  cases n with
  | zero=>exact absurd rfl ne
  | succ n=>exact⟨r1.r.im1 hz.1 n v t (by simpa using h1) (by simpa using h2),fun _ z=>nomatch z⟩) hz.2⟩⟩
theorem vY(he:QPE X K e te qe)(hr:Jw X K es tl i j ql)(hs:QX (e::es) X.env =(false,eval e X.env)::QX es X.env:=by rfl):Jw X K (e::es) (fY te tl) i (j+1) (fun q Q=>qe q fun t=>t.im=true/\ql q fun ts=>Q (t::ts)) :=
 ⟨bV he.h hr.h hs,fun dl H σ q v0 Q R rd hv hq k=>he.s dl H σ q _ _ rd hq fun v t F H1 e1 r1 hz=>hr.s dl H1 σ q v0 _ _ (rd.evo e1) hv hz.2 fun vs ts H2 e2 l2 hj ho z=>by
  have r2:=r1.evo e1.d e2;obtain rfl:=r1.r.im hz.1;exact k (v::vs) (t::ts) H2 (e1.trans e2) (by simp[l2]) (by simpa using hj) (fun n w u ne h1 h2=>by
   cases n with
   | zero=>simp at h1 h2;subst h1 h2;exact r2
   | succ n=>exact ho n w u (fun z=>ne (by rw[z])) (by simpa using h1) (by simpa using h2)) z⟩
def G5(i j:Nat)(ps:PSp)(ql:QA):QS:=fun D q=>match q[i]? with
 | some (.o (.d ks))=>T.imk ks=true/\∀ a,ql q fun ts=>ps (ts.set j (.dp a ks)) fun t=>match t with
  | .dp _ ks'=>D.nx (q.set i (.o (.d ks')))
  | _=>False
 | some (.o (.dp a ks))=>T.imk ks=true/\ql q fun ts=>ps (ts.set j (.dp a ks)) fun t=>match t with
  | .dp _ ks'=>D.nx (q.set i (.o (.dp a ks')))
  | _=>False
 | _=>False
def GX(i:Nat)(qk qv:QE):QS:=fun D q=>match q[i]? with
 | some (.o (.dp a xs))=>qv q fun t=>qk q fun u=>match u.key with
  | some k=>xs.length<WT/\T.imk xs=true/\t.im=true/\D.nx (q.set i (.o (.dp a (dC xs k t))))
  | none=>False
 | _=>False
theorem Rel.KO{dl:Dl}{hs:List (V×T)}{σ:St}{F:Nat->List Addr}{i:Nat}{p:Addr}{ws:List (Key×V)}{xs ys:List (Key×T)}(r:Rel K dl H₀ hs H σ q F)(hi:q[i]? = some (.o (.dp p xs)))(hv:σ[i]? = some (some (.ref p)))(e:Evo dl H H')
  (rs:aG K dl H' ws ys []):fu K dl H₀ hs (upd H' p (.dK ws)) σ (q.set i (.o (.dp p ys))):=by
 have r':=r.evo e;obtain⟨v',hv',rp⟩:=r'.g i _ _ hi rfl;rw[hv]at hv';cases hv';obtain⟨vs2,G2,e2,eF,h1,h2⟩:=rp.r.dpp;have pn:Nd dl p:=rp.n p (by rw[eF];exact j5)
 have rs2:aG K dl (upd H' p (.dK ws)) ws ys []:=rs.b6 (TF.dict h1) (fun _ z=>z) fun _ z=>nomatch z
 exact⟨_,r'.write (t':=.dp p ys) (F':=[p]) hi hv (by rw[eF];exact j5) (fun xs' h=>by rw[h1]at h;cases h) ⟨.dp aw rs2,fun b hb=>by rw[qr.mp hb];exact pn⟩ (by simp) fun b hb=>by rw[qr.mp hb,eF];exact .inl j5⟩
theorem Ga{i:Nat}(hk:j6 K tk qk)(hv:j6 K tv qv):pz K (uN (cm i) tk tv) (GX i qk qv):=fun dl H₀ hs H σ q Dq D ⟨F,r⟩ hq E=>by
 unfold GX at hq
 split at hq
 ·rename_i p xs ei;refine hv dl H σ q _ _ r.rd hq fun w t F1 H1 e1 r1 hq=>?_
  obtain⟨v,hv',rp⟩:=(r.evo e1).g i _ _ ei rfl;refine⟨v,hv',hk dl H1 σ q _ _ (r.rd.evo e1) hq fun y u F2 H2 e2 r2 hq=>?_⟩
  split at hq
  ·rename_i k ek;obtain⟨hz,hm,ht,hq⟩:=hq;obtain rfl:=r1.r.im ht;have rp2:=rp.evo e1.d e2;obtain⟨vs,G,rfl,eF,h1,h2⟩:=rp2.r.dpp;obtain rfl:=h2.im hm;rw[r2.r.key ek];exact⟨p,_,rfl,tT.k h1 (by rw[h2.len];exact hz),E.nx _ _ _ (r.KO ei hv' (e1.trans e2) (aG.put (r1.evo e1.d e2).r h2)) hq⟩
  ·exact hq.elim
 ·exact hq.elim
theorem lJ{i:Nat}(hu:X.A.units+1<cLine)(ho:PE X o (cm i))(hk:QPE X K a tk qk)(hv:QPE X K b tv qv)(hs:swapsWith b (some (.Subscript o a pos')) pos.line X.env=pure false:=by rfl) :
  QPS X K (.Assign [.Subscript o a pos'] b pos) (uN (cm i) tk tv) (GX i qk qv):=⟨lO hu ho hk.h hv.h hs,Ga hk.s hv.s⟩
theorem Gg(ha:Jw X K es tl i j ql):pz K (jP (qR (spM K j ps) [] E0 tl)) (G5 i j ps ql):=fun dl H₀ hs H σ q Dq D ⟨F,r⟩ hq E=>by
 have go:∀{a:Addr}{ks:List (Key×T)}{t:T}(W:T->Prop)(t1:List (Key×T)->T),q[i]? = some (.o t)->σ[i]? = some (some (.ref a)) ->(∀{H:Hp}{G:List Addr},ax K dl H (.ref a) t G->ax K dl H (.ref a) (.dp a ks) G)->F i = [a] ->(∀{H:Hp}{ks':List (Key×T)},ax K dl H (.ref a) (.dp a ks') [a]->ax K dl H (.ref a) (t1 ks') [a]) ->
   (∀ ks',W (.dp a ks')->Dq.nx (q.set i (.o (t1 ks')))) ->(ql q fun ts=>ps (ts.set j (.dp a ks)) W)->jP (qR (spM K j ps) [] E0 tl) D σ H:=by
  intro a ks t W t1 hi hv tr hF ba hW hq;refine ha.s dl H σ q (.ref a) _ _ r.rd hv hq fun vs ts H1 e1 l1 hj ho hz=>?_
  have r1:=r.evo e1;obtain⟨v',hv',rp⟩:=r1.g i _ _ hi rfl;rw[hv]at hv';cases hv';rw[hF]at rp;show spM K j ps (vs ++ []) H1 _ _;rw[Xh];have hjl:j<ts.length:=by rw[<- l1];exact(VZ.mp hj).1
  obtain⟨kvs,G,_,_,g1,_⟩:=(tr rp.r).dpp;refine⟨dl,ts.set j (.dp a ks),a,ks,W,r1.d,by simp[l1],hj,XX hjl,⟨tr rp.r,rp.n⟩,fun n v u ne h1 h2=>ho n v u ne h1 (by rwa [XM (fun z=>ne z.symm)]at h2),hz,fun ks' H' f D' r' hw=>?_⟩
  exact E.nx _ _ _ (r1.ug hi hv hF ⟨_,g1⟩ f D' ⟨ba r'.r,r'.n⟩) (hW ks' hw)
 unfold G5 at hq
 split at hq
 ·rename_i ks ei;obtain⟨v,hv,rp⟩:=r.g i _ _ ei rfl;obtain⟨a,vs,G,rfl,eF,h1,h2⟩:=rp.r.dic;obtain rfl:=h2.im hq.1;refine go (a:=a) (ks:=ks) _ (fun ks'=>.d ks') ei hv (fun{H G} z=>?_) eF (fun{H ks'} z=>?_) (fun ks' z=>z) (hq.2 a)
  ·obtain⟨a',vs',G',e1,rfl,h3,h4⟩:=z.dic;cases e1;exact .dp h3 h4
  ·obtain⟨vs',G',e1,e2,h3,h4⟩:=z.dpp;rw[e2];exact .d h3 h4
 ·rename_i a ks ei;obtain⟨v,hv,rp⟩:=r.g i _ _ ei rfl;obtain⟨vs,G,rfl,eF,h1,h2⟩:=rp.r.dpp;obtain rfl:=h2.im hq.1;exact go (a:=a) (ks:=ks) _ (fun ks'=>.dp a ks') ei hv (fun z=>z) eF (fun z=>z) (fun ks' z=>z) hq.2
 ·exact hq.elim
theorem f9(F:aP X.prog X.w X.K X.mg X.base CX0 k f fd prs (spM K j ps))(hr:bT k X.A)(hg:Gl X x)(hm:X.mg x=some (.ref f))(hk:W.keepIn X.K (.ref f)=true)(hb:Binds X.K fd prs [])(ha:Jw X K (e::es) tl i j ql)
  (hdb:(x ==("__debug__":Str))=false:=by decide) (he:QX (e::es) X.env =(false,eval e X.env)::QX es X.env:=by rfl) (hpl:(backTo pos (QX es X.env)).any (·.1)=false:=by rfl) (hs:swapsWith (.Call (.Name x p) (e::es) [] pos) none pos'.line X.env=pure false:=by rfl) :
  QPS X K (.Expr (.Call (.Name x p) (e::es) [] pos) pos') (jP (qR (spM K j ps) [] E0 tl)) (G5 i j ps ql):=⟨jr (we F hr hg hm hk hb .nil kB ha.h hdb he hpl) hs,Gg ha⟩
end
def T.dof:T->Option (List (Key×T))
 | .d ks=>some ks
 | .fd _ _ ks=>some ks
 | .dp _ ks=>some ks
 | _=>none
section
variable{X:Cx}{K:W.Frag}{dl:Dl}{v:V}{F:List Addr}{a b c e:Expr}{ta tb tk tx te:TE}{qa qb qk qx qe:QE}{pos apos aT:Pos}
theorem ax.dof{t:T}{ks:List (Key×T)}(h:ax K dl H v t F)(e:t.dof=some ks):∃ a vs G,v = .ref a/\Rd H a (.dK vs)/\aG K dl H vs ks G/\∀ b∈G,b∈F:=by
 cases t with
 | d ks' =>
  cases e;obtain⟨a,vs,G,rfl,rfl,h1,h2⟩:=h.dic;exact⟨a,vs,G,rfl,.inl h1,h2,fun _ hb=>Es _ hb⟩
 | fd o vs ks' =>
  cases e;obtain⟨a,rfl,rfl,h1,h2⟩:=h.WG;exact⟨a,vs,[],rfl,.inr ⟨_,h1⟩,h2,fun _ hb=>hb⟩
 | dp a ks' =>
  cases e;obtain⟨vs,G,rfl,rfl,h1,h2⟩:=h.dpp;exact⟨a,vs,G,rfl,.inl h1,h2,fun _ hb=>Es _ hb⟩
 | _=>cases e
def G6:Q2:=fun t u Q=>match t.dof with
 | some ks=>match u.key with
  | some k=>∃ x,bS ks k=some x/\Q x
  | none=>False
 | none=>False
def GH:R2:=fun x y H Q=>∃ a kvs k v,x = .ref a/\y=kV k/\Rd H a (.dK kvs)/\gw kvs k=some v/\Q v H
theorem Ih:IxR X GH:=by
 intro value slice j0 s σ H x y v u Q I rx ry h hs;obtain⟨a,kvs,k,w,rfl,rfl,ha,hv,q⟩:=h;cases rx;obtain⟨z,hd,vs,rel,dd⟩:=va I.hok ha;obtain⟨w',hw,rw'⟩:=j7.some_of (v:=w) (o:=valueAt vs k) (by rw[<- hv];exact rel.val k)
 exact subscriptTail_builtinR (x:=w') dd.typeIs PySem.F.slot_dict_getitem.lookup (wpAny_getItem_of (Q:=fun r s'=>r=w'/\EP X j0 σ Q r s') (uZ ry) dd.mapOf hw ⟨rfl,w,H,I.tok _,rw',q⟩) hs
theorem Gh:Na K GH G6:=by
 intro dl H x y t u F G Q R D r1 r2 hq k;unfold G6 at hq
 split at hq
 ·rename_i ks eks
  split at hq
  ·rename_i k0 ek;obtain⟨z,hz,hq⟩:=hq;obtain⟨p,vs,G,rfl,h1,h2,sub⟩:=r1.r.dof eks;rw[r2.r.key ek];rcases h2.look k0 with⟨z1,z2⟩ |⟨t',v,G',z1,z2,z3,z4⟩
   ·rw[z1]at hz;cases hz
   ·rw[z1]at hz;cases hz;exact⟨p,vs,k0,v,rfl,rfl,h1,z2,k v _ G' H (.refl D) (Rp.sub z3 r1.n fun b hb=>sub b (z4 b hb)) hq⟩
  ·exact hq.elim
 ·exact hq.elim
theorem aU(ha:QPE X K a ta qa)(hb:QPE X K b tb qb)(hs:oy b:=by intro _ _;rfl):QPE X K (.Subscript a b pos) (tOp GH ta tb) (qOp G6 qa qb):=⟨Cf Ih ha.h hb.h hs,z9 Gh ha.s hb.s⟩
def uQ:List V->Hp->VK->Prop:=fun xs H Q=>∃(p:Addr)(kvs:List (Key×V)),xs = [.ref p]/\Rd H p (.dK kvs)/\∀ d,H d=none->Q (.ref d) (upd H d (.dK kvs))
theorem k6:c7 X (.type "dict") uQ:=by
 intro j0 s σ H xs us Q I r h;obtain⟨p,kvs,rfl,hp,q⟩:=h;obtain⟨u,rfl,ru⟩:=vals1 r;cases ru;obtain⟨z,hsm,vs,kv,dd⟩:=va I.hok hp;refine callType_codes (Q₁:=fun obj s₁=>obj = .ref s.heap.objs.size/\s₁ ={ s with heap:=s.heap.push { cls:=.type "dict",data:=.dict #[] } }) F.kt_called_dict (F.kt_typeCall_dict_1 _) F.entry_dict_init (kt_code_dict_new _ ⟨rfl,rfl⟩) ?_
 rintro obj s₁ ⟨rfl,rfl⟩
 have Be:(s.heap.push { cls:=.type "dict",data:=.dict #[] }).DictOf (br X.prog X.w) s.heap.objs.size []:=Heap.DictOf.new s.heap;have hlt:p<s.heap.objs.size:=by
  obtain⟨o,_,_,e,_⟩:=dd;exact Xe e
 have dd':(s.heap.push { cls:=.type "dict",data:=.dict #[] }).DictOf (br X.prog X.w) p vs:=by
  obtain⟨o,es,ep,e,r⟩:=dd;exact⟨o,es,ep,j3 _ e,r⟩
 have nod:(vs.map (·.1)).Nodup:=by
  obtain⟨o,es,ep,_,_,_,_,_,n⟩:=dd;exact n
 have hkl:kvs.length=vs.length:=Paired.length kv;refine⟨Be.typeIs,F.args_dict_init_2 _ _,?_⟩;unfold Builtin.«dict.__init__»;refine j2 ?_;unfold Builtin.Dict.selfAndRest;refine j2 (wpAny_notOrdered_dict Be.typeIs ?_);show wpAny _ _ (pure (s.heap.objs.size,[Value.ref p])) _ _ _;refine TH ?_;show wpAny _ _ (Builtin.Dict.updateFrom "dict.__init__" s.heap.objs.size (.ref p) [] .none) _ _ _;unfold Builtin.Dict.updateFrom;refine j2 (Yg dd'.typeIs ?_);rw[if_neg (by decide)]
 refine j2 ?_;unfold Builtin.Dict.merge;refine j2 ?_;unfold Builtin.Dict.readDirectly;refine j2 (X8 dd'.typeIs isSubtype_dict_dict ?_);simp only[Bool.not_true,X2,if_false];refine j2 (X6 dd'.typeIs F.slot_dict_iter.lookup (TH ?_));simp only[beq_self_eq_true,if_true];refine j2 (TH ?_);refine wpAny_mergeDict (hsz:=by simp only[YG];omega) (XY hlt) hsm Be dd' fun h' hd' ho' hs'=>?_
 show wpAny _ _ (Builtin.Dict.addKeywords _ [] >>= _) _ _ _;rw[merged_nil_of_nodup _ nod]at hd';refine j2 (TH (TH ⟨rfl,.ref s.heap.objs.size,_,I.laid (h':=h') (a:=s.heap.objs.size) (o:=.dK kvs) (fun b u e=>?_) (Xa _) (xp z ?_ kv hd'),rfl,q _ (I.hok.fresh (Xa _))⟩))
 ·rw[hs'.2 b (Xo (Xe e))];exact j3 _ e
 ·have:=I.big
  exact beq_eq_false_iff_ne.mpr (XY this)
def uT:QC:=fun ts Q=>match ts with
 | [t]=>match t.dof with
  | some ks=>T.imk ks=true/\Q (.d ks)
  | none=>False
 | _=>False
theorem nt:uD K uQ uT:=by
 intro dl H vs ts F Q R D r hq k;unfold uT at hq
 split at hq
 ·split at hq
  ·rename_i ks eks;obtain⟨v,rfl,r1⟩:=r.one;obtain⟨p,kvs,G,rfl,h1,h2,sub⟩:=r1.r.dof eks;obtain rfl:=h2.im hq.1;refine⟨p,kvs,rfl,h1,fun d hd=>?_⟩
   have ev:Evo dl H (upd H d (.dK kvs)):=(Evo.refl D).new hd;exact k _ _ [d] _ ev ⟨.d aw (h2.b6 (ev.tf D) (fun _ z=>z) fun _ z=>nomatch z),fun b hb=>by rw[qr.mp hb];exact D.nd0 hd⟩ (fun b hb=>by rw[qr.mp hb];exact hd) (by simp) hq.2
  ·exact hq.elim
 ·exact hq.elim
theorem TF.WH{p:Addr}{kv:List (Key×V)}{o:Obj}{u:HO}(hp:H p=some (.dK kv)):TF H (upd H p (.frz o u)) :=
 have ne:∀{a:Addr}{o:HO},H a=some o ->(∀ kv,o ≠ .dK kv)->a≠p:=fun h n e=>by rw[e,hp]at h;exact n _ (Option.some.inj h).symm
 ⟨fun a vs h=>by rw[ai (ne h fun _ z=>nomatch z)];exact h,fun a o u h=>by rw[ai (ne h fun _ z=>nomatch z)];exact h,fun a φ h=>by rw[ai (ne h fun _ z=>nomatch z)];exact h,fun a xs h=>⟨xs,by rw[ai (ne h fun _ z=>nomatch z)];exact h⟩,fun a x h=>⟨x,X0 _,by rw[ai (ne h fun _ z=>nomatch z)];exact h⟩⟩
end
section
variable{X:Cx}{K:W.Frag}{st:Stmt}{t:TS}{qt:QS}
def FU(i:Nat)(t:TS):TS:=fun D σ H=>∃ a kvs,σ[i]? = some (some (.ref a))/\H a=some (.dK kvs)/\∀ o,t D σ (upd H a (.frz o (.dK kvs)))
theorem O0{i:Nat}(h:PS X st t):PS X st (FU i t):=by
 intro j0 s σ H D I z;obtain⟨a,kvs,_,ha,k⟩:=z;obtain⟨_,o,I1⟩:=I.freeze ha;exact h j0 s σ _ D I1 (k o)
def G7(i:Nat)(qt:QS):QS:=fun D q=>match q[i]? with
 | some (.o (.d ks))=>T.imk ks=true/\∀ o vs,qt D (q.set i (.o (.fd o vs ks)))
 | _=>False
theorem Rel.frz{dl:Dl}{hs:List (V×T)}{σ:St}{F:Nat->List Addr}{i:Nat}{vs:List (Key×V)}{ks:List (Key×T)}{o:Obj}(r:Rel K dl H₀ hs H σ q F)(ei:q[i]? = some (.o (.d ks)))(hv:σ[i]? = some (some (.ref a)))(eF:F i = [a])(rp:Rp K dl H (.ref a) (.d ks) (F i))(h1:H a=some (.dK vs))(h2:aG K dl H vs ks []):fu K dl H₀ hs (upd H a (.frz o (.dK vs))) σ (q.set i (.o (.fd o vs ks))):=by
 refine⟨pU F i [],?_⟩;have tf:=TF.WH (o:=o) (u:=.dK vs) h1;have na:Nd dl a:=rp.n a (by rw[eF];exact j5)
 obtain⟨o1,o2,o3⟩:=r.o i _ ei;have st:∀{w:V}{u:T}{Fw:List Addr},Rp K dl H w u Fw->a ∉ Fw->Rp K dl (upd H a (.frz o (.dK vs))) w u Fw:=fun{w u Fw} h np =>
  ⟨h.r.b6 tf (fun _ z=>z) fun b hb ob e=>(by
   have n0:b≠a:=fun z=>np (by rw[<- z];exact hb)
   rw[ai n0];exact e),h.n⟩
 refine⟨fun d hd=>(r.d d hd).oth (na d hd).1 (na d hd).2,fun j x u h3 h4=>?_,fun j x h3 h4=>?_,fun j hj=>?_,fun j u h3=>?_,fun p hp=>?_,⟨fun b ob hb nb nr=>?_,fun b x hb=>?_⟩,by simp[r.l]⟩
 ·rcases get_set h3 with⟨rfl,rfl,_⟩ |⟨ne,h3⟩
  ·cases h4;exact⟨_,hv,by rw[aI];exact⟨.fd aw (h2.b6 tf (fun _ z=>z) fun _ z=>nomatch z),fun _ z=>nomatch z⟩⟩
  ·obtain⟨w,h5,h6⟩:=r.g j x u h3 h4;exact⟨w,h5,by rw[aB ne];exact st h6 (o3 j ne a (by rw[eF];exact j5))⟩
 ·rcases get_set h3 with⟨rfl,rfl,_⟩ |⟨ne,h3⟩
  ·cases h4
  ·rw[aB ne];exact r.n j x h3 h4
 ·rw[XW]at hj;by_cases e:j=i
  ·rw[e,aI]
  ·rw[aB e];exact r.z j hj
 ·rcases get_set h3 with⟨rfl,e,_⟩ |⟨ne,h3⟩
  ·rw[aI];exact⟨W2,fun _ z=>absurd z Xy,fun _ _ _ z=>absurd z Xy⟩
  ·rw[aB ne];obtain⟨p1,p2,p3⟩:=r.o j u h3;refine⟨p1,p2,fun k hk b hb=>?_⟩
   by_cases ek:k=i
   ·rw[ek,aI];exact Xy
   ·rw[aB ek];exact p3 k hk b hb
 ·obtain⟨Fp,h3,h4⟩:=r.h p hp;refine⟨Fp,st h3 (h4 i _ ei a (by rw[eF];exact j5)),fun j u hj b hb z=>?_⟩
  rcases get_set hj with⟨rfl,e,_⟩ |⟨ne,hj⟩
  ·rw[aI]at hb;cases hb
  ·rw[aB ne]at hb;exact h4 j u hj b hb z
 ·have n0:b≠a:=fun z=>by rw[z,o2 a (by rw[eF];exact j5)]at hb;cases hb
  rw[ai n0];exact r.f.k b ob hb nb nr
 ·have n0:b≠a:=fun z=>by rw[z,o2 a (by rw[eF];exact j5)]at hb;cases hb
  rw[ai n0];exact r.f.r b x hb
theorem Gi{i:Nat}(h:pz K t qt):pz K (FU i t) (G7 i qt):=fun dl H₀ hs H σ q Dq D ⟨F,r⟩ hq E=>by
 unfold G7 at hq
 split at hq
 ·rename_i ks ei;obtain⟨v,hv,rp⟩:=r.g i _ _ ei rfl;obtain⟨a,vs,G,rfl,eF,h1,h2⟩:=rp.r.dic;obtain rfl:=h2.im hq.1;exact⟨a,vs,hv,h1,fun o=>h dl H₀ hs _ σ _ Dq D (r.frz ei hv eF rp h1 h2) (hq.2 o vs) E⟩
 ·exact hq.elim
theorem GQ{i:Nat}(h:QPS X K st t qt):QPS X K st (FU i t) (G7 i qt):=⟨O0 h.h,Gi h.s⟩
end
section
variable{X:Cx}{j0:List (Addr×Obj)}{σ:St}{s:Shared}{u1 u2 v1 v2:HO}{C:Addr}{fs:List (Str×V)}
theorem Inv.Gy(I:Inv X j0 σ H s)(ne:d≠a)(ha:H a=some v1)(hd:H d=some v2)(t1:∀ xs,v1 ≠ .tup xs)(t2:∀ xs,v2 ≠ .tup xs)(b1:∀ ps,v1 ≠ .tbl ps)(b2:∀ ps,v2 ≠ .tbl ps)(z1:∀ o v,v1 ≠ .frz o v)(z2:∀ o v,v2 ≠ .frz o v)(w1:∀ c,v1 ≠ .own c)(w2:∀ c,v2 = .own c->c=a)
  (V1:bH X.prog X.w (upd (upd H a u1) d u2) s.heap a u1) (V0:bH X.prog X.w (upd (upd H a u1) d u2) s.heap d u2):Inv X j0 σ (upd (upd H a u1) d u2) s:=by
 have nea:∀{b:Addr}{o:HO},H b=some o->o≠v1->b≠a:=fun e n z=>by rw[z,ha]at e;exact n (Option.some.inj e).symm
 have ned:∀{b:Addr}{o:HO},H b=some o->o≠v2->b≠d:=fun e n z=>by rw[z,hd]at e;exact n (Option.some.inj e).symm
 have n0:∀{b:Addr},H b=none->b≠a/\b≠d:=fun{b} e=>⟨fun z=>(by rw[z,ha]at e;cases e),fun z=>(by rw[z,hd]at e;cases e)⟩
 have st:∀{b:Addr},b≠a->b≠d->upd (upd H a u1) d u2 b=H b:=fun h1 h2=>by rw[ai h2,ai h1]
 refine⟨I.ok,I.os,I.bare,⟨I.base.keep,I.base.slot,fun b o e n hx=>?_,I.base.there,fun b xs e=>?_,fun b o v e=>?_,fun b ps e=>?_⟩,I.loc,I.cell,?_,fun x c e=>?_,fun p hp=>?_,fun b o e=>?_,I.len⟩
 ·have:=I.base.free b o e n hx
  rw[st (n0 this).1 (n0 this).2];exact this
 ·have:=I.base.qO b xs e
  rw[st (nea this fun z=>t1 _ z.symm) (ned this fun z=>t2 _ z.symm)]
  exact this
 ·have:=I.base.n8 b o v e
  rw[st (nea this fun z=>z1 _ _ z.symm) (ned this fun z=>z2 _ _ z.symm)]
  exact this
 ·obtain⟨more,this⟩:=I.base.qP b ps e;refine⟨more,?_⟩;rw[st (nea this fun z=>b1 _ z.symm) (ned this fun z=>b2 _ z.symm)]
  exact this
 ·rw[st (n0 I.free).1 (n0 I.free).2];exact I.free
 ·rw[st (n0 (I.gW x c e)).1 (n0 (I.gW x c e)).2];exact I.gW x c e
 ·obtain⟨p1,p2,p3⟩:=I.pin p hp;exact⟨p1,by rw[st (n0 p2).1 (n0 p2).2];exact p2,p3⟩
 ·by_cases hbd:b=d
  ·subst hbd;rw[aw]at e;cases e;exact V0
  ·by_cases hba:b=a
   ·subst hba;rw[ai hbd,aw]at e;cases e;exact V1
   ·rw[st hba hbd]at e;refine(I.hok b o e).b6 (fun _ _ _ q=>q) (fun c q=>?_) fun c xs q=>?_
    ·rw[st (nea q fun z=>w1 _ z.symm) (fun z=>by rw[z,hd]at q;exact hba (w2 b (Option.some.inj q)))];exact q
    ·rw[st (nea q fun z=>t1 _ z.symm) (ned q fun z=>t2 _ z.symm)];exact q
theorem Inv.Ry(I:Inv X j0 σ H s)(ha:H a=some (.ins C d fs)):d≠a/\fs.length<=1000/\H d=some (.own a)/\Inv X j0 σ (upd (upd H a (.ext (uF a C d))) d (.ext (XD d fs))) s:=by
 obtain⟨hd,hl,ne,e,mA,n,r,w⟩:=(show bH X.prog X.w H s.heap a (.ins C d fs)from I.hok a _ ha);exact⟨ne,hl,hd,I.Gy ne ha hd (fun _ z=>nomatch z) (fun _ z=>nomatch z) (fun _ z=>nomatch z) (fun _ z=>nomatch z) (fun _ _ z=>nomatch z) (fun _ _ z=>nomatch z) (fun _ z=>nomatch z) (fun c z=>by cases z;rfl)
  ⟨e,⟨_,e⟩,fun h1 h2 p k=>k _ p⟩ (XD.ok ⟨mA,n,r,w⟩)⟩
theorem Inv.VR(I:Inv X j0 σ H s)(ne:d≠a)(hl:fs.length<=1000)(ha:H a=some (.ext (uF a C d)))(hd:H d=some (.ext (XD d fs))):Inv X j0 σ (upd (upd H a (.ins C d fs)) d (.own a)) s:=by
 have e:uF a C d s.heap:=(I.hok a _ ha).1;obtain⟨mA,n,r,w⟩:XD d fs s.heap:=(I.hok d _ hd).1;refine I.Gy ne ha hd (fun _ z=>nomatch z) (fun _ z=>nomatch z) (fun _ z=>nomatch z) (fun _ z=>nomatch z) (fun _ _ z=>nomatch z) (fun _ _ z=>nomatch z) (fun _ z=>nomatch z) (fun c z=>nomatch z) ⟨aw,hl,ne,e,mA,n,r,w⟩ ?_
 obtain⟨o,_,_,e',_⟩:=n;exact⟨o,e'⟩
end
variable{C:Addr}{prs:List Str}
section
variable{X:Cx}{K:W.Frag}{e:Expr}{es:List Expr}{te:TE}{qe:QE}{tl:TA}{ql:QA}{pos p:Pos}{f:Str}
def Nv(K:W.Frag)(ta:TE)(f:Str):TE:=fun σ H Q=>ta σ H fun x H1=>∃ a C fs v,x = .ref a/\ObH H1 a C fs/\fs.length<=1000/\Cls K C/\bw K C f/\fs.lookup f=some v/\Q v H1
theorem LF(he:PE X e te)(hb:attributeBase e f X.env (eval e X.env)=eval e X.env):PE X (.Attribute e f pos) (Nv X.K te f):=by
 intro j0 s σ H Q I h;refine CU hb (thn (he j0 s σ H _ I h) fun u s1 ⟨x,H1,I1,rx,a,C,fs,v,ex,⟨dx,ne,h1,h2⟩,hl,c,n,l,q⟩=>?_)
 subst ex;obtain rfl:u=Value.ref a:=rx;refine mV (I1.VR ne hl h1 h2) (C:=C) (dx:=dx) (fs:=fs) (by rw[ai ne.symm,aw]) c n l fun u' s2 I2 ru=>⟨v,H1,?_,ru,q⟩
 obtain⟨_,_,_,I3⟩:=I2.Ry (a:=a) (C:=C) (d:=dx) (fs:=fs) (by rw[ai ne.symm,aw])
 have e:upd (upd (upd (upd H1 a (.ins C dx fs)) dx (.own a)) a (.ext (uF a C dx))) dx (.ext (XD dx fs))=H1:=by
  funext b
  by_cases hbd:b=dx
  ·rw[hbd,aw,h2]
  ·by_cases hba:b=a
   ·rw[ai hbd,hba,aw,h1]
   ·rw[ai hbd,ai hba,ai hbd,ai hba]
 rw[e]at I3;exact I3
def Sx(C:Addr)(f:Str)(qe:QE):QE:=fun q Q=>qe q fun t=>match t with
 | .ob C' ns ts=>C'=C/\ns.length<=1000/\∃ x,(ns.zip ts).lookup f=some x/\Q x
 | _=>False
theorem B5(hc:Cls K C)(hn:bw K C f)(he:QPE X K e te qe)(hb:attributeBase e f X.env (eval e X.env)=eval e X.env:=by rfl)(hK:X.K=K:=by rfl):QPE X K (.Attribute e f pos) (Nv K te f) (Sx C f qe):=⟨by subst hK;exact LF he.h hb,fun dl H σ q Q R rd hq k=>he.s dl H σ q _ _ rd hq fun v t F H1 e1 r1 hz=>by
 split at hz
 ·obtain⟨rfl,hl,x,hx,hz⟩:=hz;obtain⟨a,vs,rfl,rfl,ho,rs⟩:=r1.r.obj;obtain⟨w,G,e2,r2,s2⟩:=rs.lookup hx;refine⟨a,_,_,w,rfl,ho,?_,hc,hn,e2,k _ _ G H1 e1 ⟨r2,fun b hb=>nomatch s2 b hb⟩ hz⟩
  rw[Yd];exact Xw (Nat.min_le_left _ _) hl
 ·exact hz.elim⟩
def z7(C:Addr)(ns:List Str):Sp:=fun vs H Q _=>∃ x dx args,vs = .ref x::args/\args.length=ns.length/\H x=some (.ins C dx [])/\Q .non (upd H x (.ins C dx (ns.zip args)))
def FR(C:Addr)(ns:List Str)(t:TA):TE:=fun σ H Q=>t σ H fun vs H1=>vs.length=ns.length/\∀ x dx,H1 x=none->H1 dx=none->dx≠x->Q (.ref x) (upd (upd H1 x (.ext (uF x C dx))) dx (.ext (XD dx (ns.zip vs))))
theorem Hw{g:Addr}{ns:List Str}{k:Nat}(M:Mk X.K C g)(G:aP X.prog X.w X.K X.mg X.base CX0 k g fd prs (z7 C ns))(hr:bT (k+1) X.A)(hg:Gl X x)(hm:X.mg x=some (.ref C))(hb:Binds X.K fd prs [])(ha:PA X (e::es) tl)
  (hdb:(x ==("__debug__":Str))=false:=by decide) (he:QX (e::es) X.env =(false,eval e X.env)::QX es X.env:=by rfl) (hpl:(backTo pos (QX es X.env)).any (·.1)=false:=by rfl) :
  PE X (.Call (.Name x p) (e::es) [] pos) (FR C ns tl):=by
 intro j0 s σ H Q I h;refine XQ (qG I hg hm ?_ hdb);refine W.callWith_K (h₀:=X.base) I.ok.mod.kin M.kp (thn (ha pos j0 s σ H _ I h) fun us s1 ⟨vs,H1,I1,r,q⟩=>⟨I1.kIn,?_⟩) he hpl
 refine thn (yp (Q:=fun v H2=>∃ a dx fs,v = .ref a/\H2 a=some (.ins C dx fs)/\Q v (upd (upd H2 a (.ext (uF a C dx))) dx (.ext (XD dx fs)))) M G hr hb .nil kB I1 r fun x dx hx hd ne=>⟨x,dx,vs,by simp,q.1,aw,rfl,x,dx,ns.zip vs,rfl,aw,?_⟩) fun u s' ⟨v,H',I',rv,a,dx,fs,e1,e2,qq⟩=>?_
 ·have e:upd (upd (upd (upd (upd H1 dx (.own x)) x (.ins C dx [])) x (.ins C dx (ns.zip vs))) x (.ext (uF x C dx))) dx (.ext (XD dx (ns.zip vs)))=upd (upd H1 x (.ext (uF x C dx))) dx (.ext (XD dx (ns.zip vs))):=by
   funext b
   by_cases hbd:b=dx
   ·rw[hbd,aw,aw]
   ·by_cases hba:b=x
    ·rw[ai hbd,ai hbd,hba,aw,aw]
    ·rw[ai hbd,ai hba,ai hba,ai hba,ai hbd,ai hbd,ai hba]
  rw[e];exact q.2 x dx hx hd ne
 ·obtain⟨_,_,_,I2⟩:=I'.Ry e2;exact⟨v,_,I2,rv,qq⟩
def OW(C:Addr)(ns:List Str)(ql:QA):QE:=fun q Q=>ql q fun ts=>T.ims ts=true/\ts.length=ns.length/\Q (.ob C ns ts)
theorem rK{g:Addr}{ns:List Str}{k:Nat}(hK:X.K=K)(M:Mk K C g)(G:aP X.prog X.w X.K X.mg X.base CX0 k g fd prs (z7 C ns))(hr:bT (k+1) X.A)(hg:Gl X x)(hm:X.mg x=some (.ref C))(hb:Binds X.K fd prs [])(ha:QPA X K (e::es) tl ql)
  (hdb:(x ==("__debug__":Str))=false:=by decide) (he:QX (e::es) X.env =(false,eval e X.env)::QX es X.env:=by rfl) (hpl:(backTo pos (QX es X.env)).any (·.1)=false:=by rfl) :
  QPF X K (.Call (.Name x p) (e::es) [] pos) (FR C ns tl) (OW C ns ql):=by
 subst hK;refine⟨Hw M G hr hg hm hb ha.h hdb he hpl,fun dl H σ q Q R rd hq k=>ha.s dl H σ q _ _ rd hq fun vs ts F H1 e1 r1 _ hz=>?_⟩
 obtain⟨z1,z2,z3⟩:=hz;obtain rfl:=r1.r.im z1;refine⟨r1.r.len.trans z2,fun x dx hx hd ne=>?_⟩
 have ev:Evo dl H1 (upd (upd H1 x (.ext (uF x C dx))) dx (.ext (XD dx (ns.zip vs)))):=((Evo.refl e1.d).new hx).new (by rw[ai ne];exact hd)
 have r2:=r1.evo e1.d ev;exact k _ _ [] _ (e1.trans ev) ⟨.ob ⟨dx,ne,by rw[ai ne.symm,aw],aw⟩ r2.r,fun _ z=>nomatch z⟩ (fun _ z=>nomatch z) W2 z3
end
section
variable{X:Cx}{K:W.Frag}
def GC(K:W.Frag):R2:=fun x y H Q=>∃ p q vs,x = .ref p/\y = .ref q/\SqL K H p vs/\SqL K H q []/\Q (.bl (!vs.isEmpty)) H
theorem HD(hu:X.A.units+1<cLine)(hK:X.K=K):OpR X (compareOp .NotEq) (GC K):=by
 subst hK;intro j0 s σ H x y v u Q I rx ry h;obtain⟨p,q,vs,rfl,rfl,h1,h2,k⟩:=h;cases rx;cases ry;obtain⟨its,r1,p1,_⟩:=I.list h1;obtain⟨bb,r2,p2,_⟩:=I.list h2;have l1:=r1.length;have l2:=r2.length;have e2:bb.length=0:=l2.symm;by_cases hl:its.length=bb.length
 ·refine SeqAt.RcNeAt.lists (e:=fun _=>true) p1.isList p2.isList (by simpa using hl) (by omega) (fun j g1 g2=>?_) X.prog X.w X.xe _ ⟨.bl _,H,I,rfl,?_⟩
  ·obtain⟨a,ea,ra⟩:=r2.at' g2;simp at ea
  ·have e:vs = []:=Yx.mp (by omega)
   subst e;have e3:its.toArray.size=0:=by simp;exact Yx.mp (by omega)
   rw[e3];exact k
 ·refine SeqAt.RcNeAt.lists_lengths p1.isList p2.isList (by simpa using hl) (by omega) X.prog X.w X.xe _ ⟨.bl _,H,I,rfl,?_⟩
  cases vs with
  | nil=>exact absurd l1.symm (by rw[<- l2]at hl;exact hl)
  | cons _ _=>exact k
def GZ:Q2:=fun t u Q=>match t,u with
 | .l xs,.l []=>Q (.b (!xs.isEmpty))
 | _,_=>False
theorem Ds:cN K (GC K) GZ:=by
 intro dl H x y t u F G Q R D r1 r2 hq k;unfold GZ at hq
 split at hq
 ·rename_i xs;obtain⟨p,vs,G1,rfl,rfl,h1,h2⟩:=r1.r.lst;obtain⟨p',vs',G2,rfl,rfl,h3,h4⟩:=r2.r.lst;cases h4;refine⟨p,p',vs,rfl,rfl,SqL.of h1,SqL.of h3,k _ _ [] H (.refl D) (.c (.b _)) (fun _ z=>nomatch z) W2 ?_⟩
  have e:vs.isEmpty=xs.isEmpty:=by
   have:=h2.len
   cases vs <;> cases xs <;> simp at this ⊢
  rw[e];exact hq
 ·exact hq.elim
theorem LH:OpR X (compareOp .IsNot) (fun x y H Q=>∃ c d,x = .bl c/\y = .bl d/\Q (.bl (c != d)) H):=by
 intro j0 s σ H x y v u Q I rx ry h;obtain⟨c,d,rfl,rfl,q⟩:=h;cases rx;cases ry;exact isnot_bool ⟨.bl _,H,I,rfl,q⟩
def NH:Q2:=fun t u Q=>match t,u with
 | .b c,.b d=>Q (.b (c != d))
 | _,_=>False
theorem Gb:cN K (fun x y H Q=>∃ c d,x = .bl c/\y = .bl d/\Q (.bl (c != d)) H) NH:=by
 intro dl H x y t u F G Q R D r1 r2 hq k;unfold NH at hq
 split at hq
 ·obtain⟨rfl,rfl⟩:=r1.r.bl;obtain⟨rfl,rfl⟩:=r2.r.bl;exact⟨_,_,rfl,rfl,k _ _ [] H (.refl D) (.c (.b _)) (fun _ z=>nomatch z) W2 hq⟩
 ·exact hq.elim
end
def Alk:Nat->T->T->Prop
 | 0,t,u=>(∃ x y,t = .s x/\u = .s y)\/∃ x y,t = .i x/\u = .i y
 | n+1,t,u=>(∃ x y,t = .s x/\u = .s y)\/(∃ x y,t = .i x/\u = .i y)\/∃ ts us,t = .t ts/\u = .t us/\∀(j:Nat)(x y:T),ts[j]? = some x->us[j]? = some y->Alk n x y
def Dep:Nat->T->Prop
 | 0,t=>(∃ x,t = .s x)\/∃ x,t = .i x
 | n+1,t=>(∃ x,t = .s x)\/(∃ x,t = .i x)\/∃ ts,t = .t ts/\∀ x∈ts,Dep n x
theorem Dep.s:Dep n (.s x):=by cases n <;> exact .inl ⟨x,rfl⟩
theorem Dep.i{x:Int}:Dep n (.i x):=by
 cases n
 ·exact .inr ⟨x,rfl⟩
 ·exact .inr (.inl ⟨x,rfl⟩)
theorem Dep.t{ts:List T}(h:∀ x∈ts,Dep n x):Dep (n+1) (.t ts):=.inr (.inr ⟨ts,rfl,h⟩)
variable{G:List Addr}{j0:List (Addr×Obj)}
section
variable{X:Cx}{K:W.Frag}{dl:Dl}
theorem Bu{s:Shared}{t u:T}{v w:V}{F:List Addr}{x y:Value}(h:(∃ x y,t = .s x/\u = .s y)\/∃ x y,t = .i x/\u = .i y)(r1:ax K dl H v t F)(r2:ax K dl H w u G)(rx:RelV v x)(ry:RelV w y):∃ c:Bool,(c=true ↔ t=u)/\SeqAt.EqAt A s x y c:=by
 rcases h with⟨z,z',rfl,rfl⟩ |⟨z,z',rfl,rfl⟩
 ·obtain⟨rfl,_⟩:=r1.str;obtain⟨rfl,_⟩:=r2.str;exact⟨_,by simp[eqV],o6 (A:=A) (s:=s) rx ry rfl rfl⟩
 ·obtain⟨rfl,_⟩:=r1.int;obtain⟨rfl,_⟩:=r2.int;exact⟨_,by simp[eqV],o6 (A:=A) (s:=s) rx ry rfl rfl⟩
theorem xo{ts us:List T}{n n1 n2:Nat}{e:Nat->Bool}(hn:n1=ts.length)(hm:n2=us.length)(he:∀(j:Nat)(x y:T),ts[j]? = some x->us[j]? = some y ->(e j=true ↔ x=y)):((Xt (min n1 n2)).all e&&n1==n2)=true ↔ ts=us:=by
 subst hn hm;rw[Xi,XH,beq_iff_eq]
 constructor
 ·rintro⟨h1,h2⟩
  refine ZR h2 fun i g1 g2=>?_
  exact(he i _ _ (RH g1) (RH g2)).mp (h1 i (Yz.mpr (by omega)))
 ·rintro rfl
  refine⟨fun j hj=>?_,rfl⟩
  have hj:j<ts.length:=by have:=Yz.mp hj;omega
  exact(he j _ _ (RH hj) (RH hj)).mpr rfl
theorem Ju:∀(n:Nat){t u:T}{v:V}{F G:List Addr},Alk n t u->ax K dl H v t F->ax K dl H v u G->t=u:=by
 intro n;have sc:∀{t u:T}{v:V}{F G:List Addr},((∃ x y,t = .s x/\u = .s y)\/∃ x y,t = .i x/\u = .i y)->ax K dl H v t F->ax K dl H v u G->t=u:=fun h r1 r2=>by
  rcases h with⟨z,z',rfl,rfl⟩ |⟨z,z',rfl,rfl⟩
  ·obtain⟨rfl,_⟩:=r1.str;obtain⟨e,_⟩:=r2.str;cases e;rfl
  ·obtain⟨rfl,_⟩:=r1.int;obtain⟨e,_⟩:=r2.int;cases e;rfl
 induction n with
 | zero=>exact fun h r1 r2=>sc h r1 r2
 | succ n ih =>
  intro t u v F G h r1 r2;rcases h with h|h |⟨ts,us,rfl,rfl,ht⟩
  ·exact sc (.inl h) r1 r2
  ·exact sc (.inr h) r1 r2
  ·obtain⟨a,vs,rfl,h1,f1⟩:=r1.tup;obtain⟨b,ws,e,h2,f2⟩:=r2.tup;cases e;rw[h1]at h2;cases h2;have l3:=f1.len;have l4:=f2.len;refine congrArg L2.T.t (ZR (by omega) fun i g1 g2=>?_)
   have gv:i<vs.length:=by omega
   obtain⟨t1,G1,et1,rt1⟩:=fk f1 (RH gv);obtain⟨t2,G2,et2,rt2⟩:=fk f2 (RH gv);rw[RH g1]at et1;rw[RH g2]at et2;cases et1;cases et2;exact ih (ht i _ _ (RH g1) (RH g2)) rt1 rt2
theorem ze{σ:St}{s:Shared}(I:Inv X j0 σ H s)(hK:X.K=K):∀(n:Nat)(A:Around)(t u:T)(v w:V)(F G:List Addr)(x y:Value),Alk n t u->ax K dl H v t F->ax K dl H w u G->RelV v x->RelV w y->A.units+n<cLine->∃ c:Bool,(c=true ↔ t=u)/\SeqAt.EqAt A s x y c:=by
 intro n
 induction n with
 | zero =>
  intro A t u v w F G x y ht r1 r2 rx ry hu;exact Bu ht r1 r2 rx ry
 | succ n ih =>
  intro A t u v w F G x y ht r1 r2 rx ry hu;rcases ht with h|h |⟨ts,us,rfl,rfl,ht⟩
  ·exact Bu (.inl h) r1 r2 rx ry
  ·exact Bu (.inr h) r1 r2 rx ry
  ·obtain⟨a,vs,rfl,h1,f1⟩:=r1.tup;obtain⟨b,ws,rfl,h2,f2⟩:=r2.tup;cases rx;cases ry;obtain⟨its,q1,p1,_⟩:=I.tuple (SqT.of h1);obtain⟨bb,q2,p2,_⟩:=I.tuple (SqT.of h2);have l1:=q1.length;have l2:=q2.length;have l3:=f1.len;have l4:=f2.len;have go:∀ j,∃ c:Bool,∀(g1:j<its.toArray.size)(g2:j<bb.toArray.size),(∀(x y:T),ts[j]? = some x->us[j]? = some y ->(c=true ↔ x=y))/\SeqAt.EqAt A.in1 s its.toArray[j] bb.toArray[j] c:=fun j=>by
    by_cases g:j<its.toArray.size/\j<bb.toArray.size
    ·obtain⟨g1,g2⟩:=g;obtain⟨v1,e1,rv1⟩:=q1.at' g1;obtain⟨v2,e2,rv2⟩:=q2.at' g2;obtain⟨t1,G1,et1,rt1⟩:=fk f1 e1;obtain⟨t2,G2,et2,rt2⟩:=fk f2 e2;obtain⟨c,hc,hE⟩:=ih A.in1 t1 t2 v1 v2 G1 G2 _ _ (ht j t1 t2 et1 et2) rt1 rt2 rv1 rv2 (by show A.units+1+n<_;omega)
     refine⟨c,fun _ _=>⟨fun x y hx hy=>?_,hE⟩⟩
     rw[et1]at hx;rw[et2]at hy;cases hx;cases hy;exact hc
    ·exact⟨true,fun g1 g2=>absurd ⟨g1,g2⟩ g⟩
   have hc:=fun j=>Classical.choose_spec (go j)
   have key:((Xt (min its.toArray.size bb.toArray.size)).all (fun j=>Classical.choose (go j))&&its.toArray.size==bb.toArray.size)=true ↔ ts=us:=by
    have e1:its.toArray.size=ts.length:=by simp;omega
    have e2:bb.toArray.size=us.length:=by simp;omega
    refine xo (n:=n) e1 e2 fun j x y hx hy=>?_
    have g1:=(VZ.mp hx).1;have g2:=(VZ.mp hy).1;exact(hc j (by omega) (by omega)).1 x y hx hy
   by_cases hab:a=b
   ·subst hab;exact⟨true,⟨fun _=>Ju (n+1) (.inr (.inr ⟨ts,us,rfl,rfl,ht⟩)) r1 r2,fun _=>rfl⟩,SeqAt.EqAt.same _⟩
   ·refine⟨_,⟨fun h=>congrArg L2.T.t (key.mp h),fun h=>key.mpr (by cases h;rfl)⟩,SeqAt.EqAt.of_refs hab (SeqAt.RcAt.tuples (A:=A) (e:=fun j=>Classical.choose (go j)) (show s.heap.IsTuple a its.toArray from p1) (show s.heap.IsTuple b bb.toArray from p2) (by omega) fun j g1 g2=>(hc j g1 g2).2)⟩
def R1(K:W.Frag):R2:=fun x y H Q=>KR K x y H Q\/∃ dl ts us n F G,ax K dl H x (.t ts) F/\ax K dl H y (.t us) G/\(∀(j:Nat)(x y:T),ts[j]? = some x->us[j]? = some y->Alk n x y)/\n<=100/\∀ c:Bool,(c=true ↔ ts=us)->Q (.bl c) H
theorem HF(hu:X.A.units+150<cLine)(hK:X.K=K):OpR X (compareOp .Eq) (R1 K):=by
 subst hK;refine OpR.or (sd (X:=X) (by omega) rfl) ?_
 intro j0 s σ H x y v u Q I rx ry h;obtain⟨dl,ts,us,n,F,G,r1,r2,ht,hn,k⟩:=h;obtain⟨a,vs,rfl,h1,f1⟩:=r1.tup;obtain⟨b,ws,rfl,h2,f2⟩:=r2.tup;cases rx;cases ry;obtain⟨its,q1,p1,_⟩:=I.tuple (SqT.of h1);obtain⟨bb,q2,p2,_⟩:=I.tuple (SqT.of h2);have l1:=q1.length;have l2:=q2.length;have l3:=f1.len;have l4:=f2.len;have go:∀ j,∃ c:Bool,∀(g1:j<its.toArray.size)(g2:j<bb.toArray.size),(∀(x y:T),ts[j]? = some x->us[j]? = some y ->(c=true ↔ x=y))/\SeqAt.EqAt X.A.in1 s its.toArray[j] bb.toArray[j] c:=fun j=>by
  by_cases g:j<its.toArray.size/\j<bb.toArray.size
  ·obtain⟨g1,g2⟩:=g;obtain⟨v1,e1,rv1⟩:=q1.at' g1;obtain⟨v2,e2,rv2⟩:=q2.at' g2;obtain⟨t1,G1,et1,rt1⟩:=fk f1 e1;obtain⟨t2,G2,et2,rt2⟩:=fk f2 e2;obtain⟨c,hc,hE⟩:=ze I rfl n X.A.in1 t1 t2 v1 v2 G1 G2 _ _ (ht j t1 t2 et1 et2) rt1 rt2 rv1 rv2 (by show X.A.units+1+n<_;omega)
   refine⟨c,fun _ _=>⟨fun x y hx hy=>?_,hE⟩⟩
   rw[et1]at hx;rw[et2]at hy;cases hx;cases hy;exact hc
  ·exact⟨true,fun g1 g2=>absurd ⟨g1,g2⟩ g⟩
 have hc:=fun j=>Classical.choose_spec (go j)
 have key:((Xt (min its.toArray.size bb.toArray.size)).all (fun j=>Classical.choose (go j))&&its.toArray.size==bb.toArray.size)=true ↔ ts=us:=by
  have e1:its.toArray.size=ts.length:=by simp;omega
  have e2:bb.toArray.size=us.length:=by simp;omega
  refine xo (n:=n) e1 e2 fun j x y hx hy=>?_
  have g1:=(VZ.mp hx).1;have g2:=(VZ.mp hy).1;exact(hc j (by omega) (by omega)).1 x y hx hy
 exact SeqAt.eq_tupleAt (e:=fun j=>Classical.choose (go j)) (show s.heap.IsTuple a its.toArray from p1) (show s.heap.IsTuple b bb.toArray from p2) (by omega) (fun j g1 g2=>(hc j g1 g2).2) ⟨.bl _,H,I,rfl,k _ key⟩
def Sz:Q2:=fun t u Q=>match t,u with
 | .t ts,.t us=>∃ n,n<=100/\(∀(j:Nat)(x y:T),ts[j]? = some x->us[j]? = some y->Alk n x y)/\∀ c:Bool,(c=true ↔ ts=us)->Q (.b c)
 | t,u=>G8 t u Q
theorem BW:cN K (R1 K) Sz:=by
 intro dl H x y t u F G Q R D r1 r2 hq k;unfold Sz at hq
 split at hq
 ·obtain⟨n,hn,ht,hq⟩:=hq;exact .inr ⟨dl,_,_,n,F,G,r1.r,r2.r,ht,hn,fun c hc=>k _ _ [] H (.refl D) (.c (.b _)) (fun _ z=>nomatch z) W2 (hq c hc)⟩
 ·exact .inl (nq dl H x y t u F G Q R D r1 r2 hq k)
end
variable{N':List Str}{sc:Scope}{fp:List Addr}
section
variable{X:Cx}{K:W.Frag}{e a b:Expr}{es:List Expr}{te ta tb:TE}{qe qa qb:QE}{tl:TA}{ql:QA}{pos p apos:Pos}{st:Stmt}{k k':Nat}{f:Addr}
structure Dn(K:W.Frag)(mg:Str->Option Value)(x:Str)(st:Stmt)(f:Addr)(fd:FuncData)(ps:List Str):Prop where
 F:Fun K x x st f fd
 m:mg x=some (.ref f)
 b:Binds K fd ps []
theorem bX{ps:PSp}(F:aP X.prog X.w X.K X.mg X.base CX0 k f fd prs (spQ K ps))(hr:bT k' X.A)(D:Dn X.K X.mg x st f fd prs)(ha:QPA X K (e::es) tl ql)(hk:k<=k':=by first|decide|omega)(hg:Gl X x:=by exact rfl)
  (hdb:(x ==("__debug__":Str))=false:=by decide) (he:QX (e::es) X.env =(false,eval e X.env)::QX es X.env:=by rfl) (hpl:(backTo pos (QX es X.env)).any (·.1)=false:=by rfl) :
  QPF X K (.Call (.Name x p) (e::es) [] pos) (qR (spQ K ps) [] E0 tl) (rO ps ql):=Ld F (hr.mono hk) hg D.m D.F.kp D.b ha hdb he hpl
theorem aH:QPA X K [] iS ko:=xR.w au
theorem ag{i j}:QPE X K (.Constant (.int i) j pos) (tC (.int i)) (qC (.i i)):=QPF.w jl
theorem vZ(hm:X.mg "len" = none)(ha:QPA X K (e::es) tl ql)(hg:Gl X "len":=by exact rfl)(hK:X.K=K:=by exact rfl)
  (he:QX (e::es) X.env =(false,eval e X.env)::QX es X.env:=by rfl) (hpl:(backTo pos (QX es X.env)).any (·.1)=false:=by rfl):QPF X K (.Call (.Name "len" p) (e::es) [] pos) (tCB (GG K) tl) (qCB OX ql):=iW (EL hK) Ky hg hm (by kernel_rfl) ha (by decide) (by decide) he hpl
theorem aJ(i:Nat)(hN:X.N.Nodup)(he:QPF X K e te qe)(hi:X.N[i]? = some x:=by rfl)(hx:Loc X.env.scope x:=by first|exact .inl rfl|exact .inr rfl)(hs:swapsWith e (some (.Name x pos')) pos.line X.env=pure false:=by rfl)(hf:X.fn x=true\/X.env.scope.names.lookup x=some .local:=by first|exact .inl rfl|exact .inr rfl|assumption) :
  QPS X K (.Assign [.Name x pos'] e pos) (ni te (gU i)) (yE i qe):=ON hN hi hx he hs hf
theorem eU(i:Nat)(hN:X.N.Nodup)(hi:X.N[i]? = some x:=by rfl)(hx:Loc X.env.scope x:=by first|exact .inl rfl|exact .inr rfl)(hf:X.fn x=true\/X.env.scope.names.lookup x=some .local:=by first|exact .inl rfl|exact .inr rfl|assumption):PG X (.Name x pos) (gU i):=nU hN hi hx hf
theorem mL{cl:List (Str×Addr)}{s₂:Shared}{H₂:Hp}(i:Nat)(hN:N'.Nodup:=by decide +kernel)(hi:N'[i]? = some x:=by rfl)(hx:Loc (blk X N' sc cl C s₂ H₂ fp).env.scope x:=by first|exact .inl rfl|exact .inr rfl)(hf:(blk X N' sc cl C s₂ H₂ fp).env.scope.names.lookup x=some .local:=by rfl):PG (blk X N' sc cl C s₂ H₂ fp) (.Name x pos) (gU i):=nU (X:=blk X N' sc cl C s₂ H₂ fp) hN hi hx (.inr hf)
theorem Hv{x1 x2:Str}{t1 t2:TG}{j:Nat}(h1:PG X (.Name x1 p1) t1)(h2:PG X (.Name x2 p2) t2)(hK:X.K=K:=by exact rfl)(hc:X.calm=true:=by exact rfl)
  (hn:(assignEach [.Name x1 p1,.Name x2 p2] X.env).length=2:=by rfl) (hst:(assignEach [.Name x1 p1,.Name x2 p2] X.env).findIdx? (·.1)=none:=by rfl):PG X (.Tuple [.Name x1 p1,.Name x2 p2] j pos) (MC K 2 (Cw t1 (Cw t2 Qc))):=nT hK hc (bD h1 (bD h2 nS)) hn hst
theorem cX(hu:X.A.units+1<cLine)(ha:QPE X K a ta qa)(hb:QPE X K b tb qb)(hK:X.K=K:=by exact rfl):QPT X K (.Compare a [.Eq] [b] pos) (yf (tOp (KR K) ta tb)) (B6 (qOp G8 qa qb)):=b9 (sd hu hK) nq (a7 _) ha hb
def B3(ha:QPE X K a ta qa)(hb:QPE X K b tb qb):=b9 (pos:=pos) SW (vG (K:=K) (g':=fun i j=>.b (decide (i<j))) fun _ _ _ _=>.b _) (a7 _) ha hb
def yy(ha:QPE X K a ta qa)(hb:QPE X K b tb qb):=b9 (pos:=pos) Ck (vG (K:=K) (g':=fun i j=>.b (decide (j<i))) fun _ _ _ _=>.b _) (a7 _) ha hb
end
abbrev NI(K:W.Frag)(x:Str)(f:Addr):Prop:=W.nsIn K mainGlobals x=some (some (.ref f))
abbrev LK(K:W.Frag)(f:Addr)(x q:Str)(st:Stmt)(oc:Value)(od:Option Addr)(kV dc pm:Value)(an:Option Addr)(cd ct:Value)(sl:Array (Option Value)):Prop:=K.lookup f=some ⟨oc,od,.func (W.fnOf x q (dZ st) (bG st) (ao st) .none kV dc pm an cd ct),sl⟩
abbrev CI(K:W.Frag)(cd:Value)(x:Str):Prop:=W.codeIn K cd x=true
abbrev KI(K:W.Frag)(f:Addr):Prop:=W.keepIn K (.ref f)=true
variable{p3:Str}
section
variable{K:W.Frag}{h:Heap}{q:Str}{f:Addr}{st:Stmt}{oc kV dc pm cd ct:Value}{od an:Option Addr}{sl:Array (Option Value)}{ps:List Str}
theorem Fun.b1{p1:Str}(F:Fun K x q st f fd)(hb:∀ kV dc pm an cd ct u1,bindArgs (W.fnOf x q (dZ st) (bG st) (ao st) .none kV dc pm an cd ct) ⟨[u1],[]⟩=pure [(p1,u1)]:=by intros;rfl):Binds K fd [p1] []:=F.binds fun kV dc pm an cd ct us hl=>Tw (P:=fun us=>bindArgs _ ⟨us,[]⟩=pure (ZM _ us)) (hb kV dc pm an cd ct) us hl
theorem Fun.b2{p1 p2:Str}(F:Fun K x q st f fd)(hb:∀ kV dc pm an cd ct u1 u2,bindArgs (W.fnOf x q (dZ st) (bG st) (ao st) .none kV dc pm an cd ct) ⟨[u1,u2],[]⟩=pure [(p1,u1),(p2,u2)]:=by intros;rfl):Binds K fd [p1,p2] []:=F.binds fun kV dc pm an cd ct us hl=>Tv (P:=fun us=>bindArgs _ ⟨us,[]⟩=pure (ZM _ us)) (hb kV dc pm an cd ct) us hl
theorem Fun.b3{p1 p2:Str}(F:Fun K x q st f fd)(hb:∀ kV dc pm an cd ct u1 u2 u3,bindArgs (W.fnOf x q (dZ st) (bG st) (ao st) .none kV dc pm an cd ct) ⟨[u1,u2,u3],[]⟩=pure [(p1,u1),(p2,u2),(p3,u3)]:=by intros;rfl):Binds K fd [p1,p2,p3] []:=F.binds fun kV dc pm an cd ct us hl=>Tt (P:=fun us=>bindArgs _ ⟨us,[]⟩=pure (ZM _ us)) (hb kV dc pm an cd ct) us hl
theorem Fun.b4{p1 p2 p4:Str}(F:Fun K x q st f fd)(hb:∀ kV dc pm an cd ct u1 u2 u3 u4,bindArgs (W.fnOf x q (dZ st) (bG st) (ao st) .none kV dc pm an cd ct) ⟨[u1,u2,u3,u4],[]⟩=pure [(p1,u1),(p2,u2),(p3,u3),(p4,u4)]:=by intros;rfl):Binds K fd [p1,p2,p3,p4] []:=F.binds fun kV dc pm an cd ct us hl=>Ts (P:=fun us=>bindArgs _ ⟨us,[]⟩=pure (ZM _ us)) (hb kV dc pm an cd ct) us hl
theorem Fun.b5{p1 p2 p4 p5:Str}(F:Fun K x q st f fd)(hb:∀ kV dc pm an cd ct u1 u2 u3 u4 u5,bindArgs (W.fnOf x q (dZ st) (bG st) (ao st) .none kV dc pm an cd ct) ⟨[u1,u2,u3,u4,u5],[]⟩=pure [(p1,u1),(p2,u2),(p3,u3),(p4,u4),(p5,u5)]:=by intros;rfl):Binds K fd [p1,p2,p3,p4,p5] []:=F.binds fun kV dc pm an cd ct us hl=>V7 (P:=fun us=>bindArgs _ ⟨us,[]⟩=pure (ZM _ us)) (hb kV dc pm an cd ct) us hl
end
mutual
def T.pln:T->Bool
 | .n=>true
 | .b _=>true
 | .i _=>true
 | .s _=>true
 | .t xs=>T.dE xs
 | .zl xs=>T.dE xs
 | .fd _ _ ks=>T.hJ ks
 | _=>false
def T.dE:List T->Bool
 | []=>true
 | x::r=>x.pln&&T.dE r
def T.hJ:List (Key×T)->Bool
 | []=>true
 | (_,x)::r=>x.pln&&T.hJ r
end
theorem nof{A:Prop}(h:false=true):A:=absurd h Xd
theorem ax.plain{K:W.Frag}{dl:Dl}(kt:∀ a vs,H a=some (.tup vs)->H' a=some (.tup vs))(kf:∀ a o u,H a=some (.frz o u)->H' a=some (.frz o u)){v:V}{t:T}{F:List Addr}(h:ax K dl H v t F):t.pln=true->ax K dl H' v t F :=
 ax.rec (motive_1:=fun v t F _=>t.pln=true->ax K dl H' v t F) (motive_2:=fun v t F _=>T.dE t=true->ak K dl H' v t F) (motive_3:=fun v t F _=>T.hJ t=true->aG K dl H' v t F)
  (fun _=>.n) (fun x _=>.b x) (fun x _=>.i x) (fun x _=>.s x) (fun _ h=>nof h) (fun h _ ih q=>.t (kt _ _ h) (ih q)) (fun _ _ _ h=>nof h) (fun _ _ _ h=>nof h) (fun _ h=>nof h) (fun _ h=>nof h) (fun _ h=>nof h) (fun h _ ih q=>.fd (kf _ _ _ h) (ih q)) (fun _ h=>nof h) (fun _ _ _ h=>nof h)
  (fun _ _ h=>nof h) (fun _ _ _ h=>nof h) (fun _ _ _ h=>nof h) (fun _ _ _ h=>nof h) (fun h _ ih q=>.zl (kf _ _ _ h) (ih q)) (fun _ h=>nof h) (fun _ _ _ _ _ h=>nof h) (fun _=>.nil) (fun _ _ i1 i2 q=>.cons (i1 (Xi _ _▸q).1) (i2 (Xi _ _▸q).2)) (fun _=>.nil) (fun _ _ i1 i2 q=>.cons (i1 (Xi _ _▸q).1) (i2 (Xi _ _▸q).2)) h
theorem ak.plain{K:W.Frag}{dl:Dl}{H H':Hp}(kt:∀ a vs,H a=some (.tup vs)->H' a=some (.tup vs))(kf:∀ a o u,H a=some (.frz o u)->H' a=some (.frz o u)){vs:List V}{ts:List T}{F:List Addr}(h:ak K dl H vs ts F):T.dE ts=true->ak K dl H' vs ts F :=
 h.ind (M:=fun vs ts F=>T.dE ts=true->ak K dl H' vs ts F) (fun _=>.nil) (fun _ _ _ _ _ _ h _ ih q=>.cons (h.plain kt kf (Xi _ _▸q).1) (ih (Xi _ _▸q).2))
theorem ax.O8{K:W.Frag}{dl:Dl}{v:V}{t:T}{F:List Addr}(h:ax K dl H v t F):t.pln=true->F = [] :=
 ax.rec (motive_1:=fun _ t F _=>t.pln=true->F = []) (motive_2:=fun _ t F _=>T.dE t=true->F = []) (motive_3:=fun _ _ _ _=>True)
  (fun _=>rfl) (fun _ _=>rfl) (fun _ _=>rfl) (fun _ _=>rfl) (fun _ h=>nof h) (fun _ _ ih=>ih) (fun _ _ _ h=>nof h) (fun _ _ _ h=>nof h) (fun _ h=>nof h) (fun _ h=>nof h) (fun _ h=>nof h) (fun _ _ _ _=>rfl) (fun _ h=>nof h) (fun _ _ _ h=>nof h)
  (fun _ _ h=>nof h) (fun _ _ _ h=>nof h) (fun _ _ _ h=>nof h) (fun _ _ _ h=>nof h) (fun _ _ _ _=>rfl) (fun _ h=>nof h) (fun _ _ _ _ _ h=>nof h) (fun _=>rfl) (fun _ _ i1 i2=>sP i1 i2) trivial (fun _ _ _ _=>trivial) h
theorem ak.O8{K:W.Frag}{dl:Dl}{H:Hp}{vs:List V}{ts:List T}{F:List Addr}(h:ak K dl H vs ts F):T.dE ts=true->F = []:=h.ind (M:=fun _ t F=>T.dE t=true->F = []) (fun _=>rfl) (fun _ _ _ _ _ _ h _ ih=>sP h.O8 ih)
variable{its:List Value}
section
variable{X:Cx}{K:W.Frag}{dl:Dl}{σ:St}{s:Shared}{e o:Expr}{te:TE}{qe:QE}{apos aT ef:Pos}
theorem Inv.MD(I:Inv X j0 σ H s)(ha:H a=some (.lst xs)):∃ o,Inv X j0 σ (upd H a (.frz o (.lst xs))) s:=by
 have hz:∀ o v,X.H₀ a≠some (.frz o v):=fun o v e=>by
  have:=I.base.n8 a o v e
  rw[ha]at this;cases this
 obtain⟨z,its,n,r,e⟩:=(show bH X.prog X.w H s.heap a (.lst xs)from I.hok a _ ha);exact⟨_,I.NA ha (fun _ z=>nomatch z) (fun _ z=>nomatch z) (fun _ z=>nomatch z) hz ⟨e,z,its,n,r,e⟩⟩
def Nu(te:TE):TE:=fun σ H Q=>te σ H fun v H1=>∃ a xs,v = .ref a/\H1 a=some (.lst xs)/\∀ o,Q v (upd H1 a (.frz o (.lst xs)))
theorem LD(he:PE X e te):PE X e (Nu te):=by
 intro j0 s σ H Q I h;refine thn (he j0 s σ H _ I h) fun u s' hPP=>?_
 obtain⟨v,H',I',r,a,xs,e1,e2,q⟩:=hPP;obtain⟨o,I2⟩:=I'.MD e2;exact⟨v,_,I2,r,q o⟩
def Sv(qe:QE):QE:=fun q Q=>qe q fun t=>match t with
 | .l ts=>T.dE ts=true/\Q (.zl ts)
 | _=>False
theorem e7(he:QPF X K e te qe):QPF X K e (Nu te) (Sv qe):=⟨LD he.h,fun dl H σ q Q R rd hq k=>he.s dl H σ q _ _ rd hq fun v t F H1 e1 r1 f1 n1 hz=>by
 split at hz
 ·obtain⟨p,vs,G,rfl,rfl,h1,h2⟩:=r1.r.lst;obtain rfl:=h2.O8 hz.1;refine⟨p,vs,rfl,h1,fun o=>?_⟩
  have e2:=e1.fresh (o:=.frz o (.lst vs)) (f1 p j5) (r1.n p j5);have ne:∀{a:Addr}{u:HO},H1 a=some u ->(∀ xs,u ≠ .lst xs)->a≠p:=fun h n z=>by rw[z,h1]at h;exact n _ (Option.some.inj h).symm
  have ts:=h2.plain (H':=upd H1 p (.frz o (.lst vs))) (fun a us h=>by rw[ai (ne h fun _ z=>nomatch z)];exact h) (fun a o u h=>by rw[ai (ne h fun _ z=>nomatch z)];exact h) hz.1
  exact k _ (.zl _) [] _ e2 ⟨.zl aw ts,fun _ z=>nomatch z⟩ (fun _ z=>nomatch z) W2 hz.2
 ·exact hz.elim⟩
theorem M8{σ:St}{s:Shared}(I:Inv X j0 σ H s)(hK:X.K=K){vs ws:List V}{ts us:List T}{F:List Addr}{bb:List Value}(q1:Vals vs its)(q2:Vals ws bb)(f1:ak K dl H vs ts F)(f2:ak K dl H ws us G)(ht:∀(j:Nat)(x y:T),ts[j]? = some x->us[j]? = some y->Alk n x y)(hu:A.units+n<cLine) :
  ∃ e:Nat->Bool,(∀(j:Nat)(g1:j<its.toArray.size)(g2:j<bb.toArray.size),SeqAt.EqAt A s its.toArray[j] bb.toArray[j] (e j))/\∀(j:Nat)(x y:T),ts[j]? = some x->us[j]? = some y ->(e j=true ↔ x=y):=by
 have l1:=q1.length;have l2:=q2.length;have l3:=f1.len;have l4:=f2.len;have go:∀ j,∃ c:Bool,∀(g1:j<its.toArray.size)(g2:j<bb.toArray.size),(∀(x y:T),ts[j]? = some x->us[j]? = some y ->(c=true ↔ x=y))/\SeqAt.EqAt A s its.toArray[j] bb.toArray[j] c:=fun j=>by
  by_cases g:j<its.toArray.size/\j<bb.toArray.size
  ·obtain⟨g1,g2⟩:=g;obtain⟨v1,e1,rv1⟩:=q1.at' g1;obtain⟨v2,e2,rv2⟩:=q2.at' g2;obtain⟨t1,G1,et1,rt1⟩:=fk f1 e1;obtain⟨t2,G2,et2,rt2⟩:=fk f2 e2;obtain⟨c,hc,hE⟩:=ze I hK n A t1 t2 v1 v2 G1 G2 _ _ (ht j t1 t2 et1 et2) rt1 rt2 rv1 rv2 hu;refine⟨c,fun _ _=>⟨fun x y hx hy=>?_,hE⟩⟩
   rw[et1]at hx;rw[et2]at hy;cases hx;cases hy;exact hc
  ·exact⟨true,fun g1 g2=>absurd ⟨g1,g2⟩ g⟩
 refine⟨fun j=>Classical.choose (go j),fun j g1 g2=>(Classical.choose_spec (go j) g1 g2).2,fun j x y hx hy=>?_⟩
 have g1:=(VZ.mp hx).1;have g2:=(VZ.mp hy).1;exact(Classical.choose_spec (go j) (by simp;omega) (by simp;omega)).1 x y hx hy
def T.lst:T->Option (List T)
 | .l xs=>some xs
 | .zl xs=>some xs
 | _=>none
end
end L2
namespace L2
open PySem PySem.Spec PyProof.Rows
def nY(H:Hp)(F:List Addr):Hp:=fun b=>if b∈F then none else H b
variable{H:Hp}
theorem y7{F:List Addr}{b:Addr}(h:b∈F):nY H F b=none:=if_pos h
theorem sA{F:List Addr}{b:Addr}(h:b ∉ F):nY H F b=H b:=if_neg h
structure fW(dl:Dl)(H:Hp)(F:List Addr)(H':Hp):Prop where
 k:∀ b o,H b=some o->b ∉ F->Nd dl b->NR o->H' b=some o
 r:∀ a x,H a=some (.room x)->a ∉ F->∃ y,y<=x/\H' a=some (.room y)
 l:∀ b xs,b∈F->H b=some (.lst xs)->∃ ys,H' b=some (.lst ys)
 d:Dls dl H'
abbrev j8:=List T ->(T->T->Prop)->Prop
def Oth(K:W.Frag)(dl:Dl)(H:Hp)(vs:List V)(ts:List T)(j:Nat)(F0:List Addr):Prop:=∃ G:Nat->List Addr,(∀ i v t,i≠j->vs[i]? = some v->ts[i]? = some t->Rp K dl H v t (G i)/\∀ b∈G i,b ∉ F0)/\∀ i,ts.length<=i->G i = []
variable{j:Nat}
theorem Oth.im{K:W.Frag}{dl:Dl}{vs:List V}{ts:List T}{F0:List Addr}(h:∀ i v t,i≠j->vs[i]? = some v->ts[i]? = some t->Rp K dl H v t []):Oth K dl H vs ts j F0:=⟨fun _=>[],fun i v t h1 h2 h3=>⟨h i v t h1 h2 h3,fun _ z=>nomatch z⟩,fun _ _=>rfl⟩
def spL(K:W.Frag)(j:Nat)(ps:j8):Sp:=fun vs H Q _=>∃(dl:Dl)(ts:List T)(v0:V)(t0:T)(F0:List Addr)(Qp:T->T->Prop),Dls dl H/\vs.length=ts.length/\vs[j]? = some v0/\ts[j]? = some t0/\Rp K dl H v0 t0 F0/\F0.Nodup /\
 Oth K dl H vs ts j F0/\ps ts Qp /\
 ∀ v r Fr t' F' H',fW dl H F0 H'->Rp K dl H' v0 t' F'->F'.Nodup ->(∀ b∈F',b∈F0\/H b=none)->Rp K dl H' v r Fr->Fr.Nodup ->(∀ b∈Fr,b∈F0\/H b=none) ->(∀ b∈Fr,b ∉ F')->Qp r t'->Q v H'
def hsq(H:Hp)(F:List Addr):List (V×T):=F.filterMap fun b=>match H b with
 | some (.lst _)=>some (.ref b,.q)
 | _=>none
theorem P2{K:W.Frag}{dl:Dl}{F:List Addr}:∀ p∈hsq H F,Rp K dl H p.1 p.2 []:=fun p hp=>by
 obtain⟨b,_,e⟩:=YK.mp hp
 split at e
 ·rename_i xs h;cases e;exact⟨.q h,fun _ z=>nomatch z⟩
 ·cases e
variable{xs:List V}
theorem Mv{F:List Addr}{b:Addr}(hb:b∈F)(h:H b=some (.lst xs)):(V.ref b,T.q)∈hsq H F:=YK.mpr ⟨b,hb,by rw[h]⟩
variable{N:List Str}
theorem Ao{K:W.Frag}{dl:Dl}{vs:List V}{ts:List T}{v0:V}{t0:T}{F0:List Addr}{hs:List (V×T)}(D:Dls dl H)(hl:vs.length=ts.length)(hv:vs[j]? = some v0)(r0:Rp K dl H v0 t0 F0)(n0:F0.Nodup){G:Nat->List Addr}(ro:∀ i v t,i≠j->vs[i]? = some v->ts[i]? = some t->Rp K dl H v t (G i)/\∀ b∈G i,b ∉ F0)(rz:∀ i,ts.length<=i->G i = [])(hj:j<ts.length)(hh:∀ p∈hs,Rp K dl H p.1 p.2 []) :
  Rel K dl (nY H F0) hs H (start N vs) ((ts.map Sl.r).set j (.o t0)++Xp (N.length - ts.length) .no) (fun i=>if i=j then F0 else G i):=by
 have lk:∀(i:Nat)(y:Sl),((ts.map Sl.r).set j (.o t0)++Xp (N.length - ts.length) Sl.no)[i]? = some y ->(i=j/\y = .o t0)\/(i≠j/\∃ t,ts[i]? = some t/\y = .r t)\/(ts.length<=i/\y = .no):=fun i y h=>by
  by_cases hi:i<ts.length
  ·rw[XN (by simpa using hi)]at h
   rcases get_set h with⟨e1,e2,_⟩ |⟨e1,e2⟩
   ·exact .inl ⟨e1,e2⟩
   ·rw[Xc,RH hi]at e2;exact .inr (.inl ⟨e1,ts[i],by simp,(Option.some.inj e2).symm⟩)
  ·rw[XG (by simpa using hi),Yv]at h
   split at h
   ·exact .inr (.inr ⟨by omega,(Option.some.inj h).symm⟩)
   ·cases h
 have vat:∀(i:Nat)(v:V),vs[i]? = some v ->(start N vs)[i]? = some (some v):=fun i v e=>by
  have hi:i<vs.length:=(VZ.mp e).1;show(vs.map some++Xp (N.length - vs.length) none)[i]? = _;rw[XN (by simpa using hi),Xc,e]
  rfl
 have inF:∀ b o,nY H F0 b=some o->H b=some o:=fun b o h=>by
  by_cases e:b∈F0
  ·rw[y7 e]at h;cases h
  ·rw[sA e]at h;exact h
 refine⟨D,fun i y t h1 h2=>?_,fun i y h1 h2=>?_,fun i hi=>?_,fun i t h1=>?_,fun p hp=>⟨[],hh p hp,fun _ _ _ _ _ z=>nomatch z⟩,⟨fun b o h _ _=>inF b o h,fun b x h=>⟨x,X0 _,inF b _ h⟩⟩,?_⟩
 ·rcases lk i y h1 with⟨rfl,rfl⟩ |⟨ne,u,e,rfl⟩ |⟨_,rfl⟩
  ·cases h2;refine⟨v0,vat _ _ hv,?_⟩;rw[if_pos rfl];exact r0
  ·cases h2;obtain⟨v,ev⟩:∃ v,vs[i]? = some v:=⟨vs[i]'(by rw[hl];exact(VZ.mp e).1),RH _⟩
   refine⟨v,vat _ _ ev,?_⟩;show Rp K dl H v t (if i=j then F0 else G i)
   rw[if_neg ne];exact(ro i v t ne ev e).1
  ·cases h2
 ·rcases lk i y h1 with⟨rfl,rfl⟩ |⟨ne,u,e,rfl⟩ |⟨hi,rfl⟩
  ·cases h2
  ·cases h2
  ·rw[if_neg (by omega)];exact rz i hi
 ·have hi':ts.length<=i:=by simp at hi;omega
  rw[if_neg (by omega)];exact rz i hi'
 ·rcases lk i _ h1 with⟨rfl,e⟩ |⟨ne,u,e,z⟩ |⟨_,z⟩
  ·refine⟨by rw[if_pos rfl];exact n0,fun b hb=>?_,fun k hk b hb=>?_⟩
   ·rw[if_pos rfl]at hb;exact y7 hb
   ·rw[if_pos rfl]at hb;rw[if_neg hk];intro z;by_cases hkl:k<ts.length
    ·exact(ro k (vs[k]'(by omega)) ts[k] hk (RH _) (RH _)).2 b z hb
    ·rw[rz k (by omega)]at z;cases z
  ·cases z
  ·cases z
 ·show _ =(vs.map some++Xp (N.length - vs.length) none).length;simp[hl]
def T.adr:T->Option Addr
 | .lp a _=>some a
 | .dp a _=>some a
 | .om a _ _ _=>some a
 | _=>none
theorem ax.adr{K:W.Frag}{dl:Dl}{H:Hp}{v:V}{t:T}{F:List Addr}{a:Addr}(h:ax K dl H v t F)(e:t.adr=some a):v = .ref a:=by
 cases t with
 | lp b xs=>cases e;obtain⟨_,_,z,_⟩:=h.lpp;exact z
 | dp b xs=>cases e;obtain⟨_,_,z,_⟩:=h.dpp;exact z
 | om b _ _ _=>cases e;obtain⟨_,_,_,z,_⟩:=h.omm;exact z
 | _=>cases e
variable{P:Program}{mg:Str->Option Value}{base:Heap}{x:Str}{qual:Str}{fd:FuncData}
theorem Fun.okL{w:World}{K:W.Frag}{st:Stmt}{f:Addr}{ps:List Str}{k:Nat}{psp:j8}(F:Fun K x qual st f fd)(S:aC N ps (ao st))(len:∀ ts Q,psp ts Q->ts.length=ps.length)
  (kT:∀(cdv:Value)(A:Around)(outer:List Env)(s:Shared)(H:Hp)(E:XK),bT k (A.deeper (envOfC qual (ao st) s.heap.objs.size f cdv)) ->
   ∃ t qs,m7 (sV CX0 P w K mg base N qual (ao st) f cdv A outer s H E).nox K (bG st) t qs/\∀ ts Q t0 a,psp ts Q->ts[j]? = some t0->t0.adr=some a->qs { nx:=fun q=>∃ t',q[j]? = some (.o t')/\t'.adr=some a/\Q .n t',rt:=fun _=>False,ru:=fun q r=>∃ t',q[j]? = some (.o t')/\t'.adr=some a/\Q r t' } ((ts.map Sl.r).set j (.o t0)++Xp (N.length - ts.length) .no))
  (Wz:∀ ts Q,psp ts Q->∃ t0 a,ts[j]? = some t0/\t0.adr=some a):aP P w K mg base CX0 (k+1) f fd ps (spL K j psp):=by
 refine F.ok S (fun vs H Q E h=>?_) (fun cdv A outer s H vs Q E hr h=>?_)
 ·obtain⟨dl,ts,v0,t0,F0,Qp,_,hl,_,_,_,_,_,h,_⟩:=h;rw[hl];exact len ts Qp h
 ·obtain⟨dl,ts,v0,t0,F0,Qp,D,hl,hv,ht,r0,n0,ro,h,fin⟩:=h;obtain⟨t,qs,hb,hq⟩:=kT cdv A outer s H E hr;refine⟨t,hb.h,?_⟩;obtain⟨t0',a,ht',ea⟩:=Wz ts Qp h;rw[ht]at ht';cases ht';have z:=hq ts Qp t0 a h ht ea;have hj:j<ts.length:=(VZ.mp ht).1;obtain⟨G,ro,rz⟩:=ro;have R:=Ao (N:=N) (hs:=hsq H F0) D hl hv r0 n0 ro rz hj P2;have ev0:=r0.r.adr ea;have inF:∀{b:Addr}{o:HO},H b=some o->b ∉ F0->nY H F0 b=some o:=fun h n=>by rw[sA n];exact h
  have ug:∀{H':Hp}{σ:St}{q:Sq}{F':Nat->List Addr},Rel K dl (nY H F0) (hsq H F0) H' σ q F'->fW dl H F0 H':=fun{H' σ q F'} r' =>
   ⟨fun b o e n nd nr=>r'.f.k b o (inF e n) nd nr,fun b x e n=>r'.f.r b x (inF e n),fun b xs hb e=>(by
    obtain⟨Fp,rq,_⟩:=r'.h _ (Mv hb e);cases rq.r with
    | q h=>exact⟨_,h⟩),r'.d⟩
  have fr:∀{b:Addr},nY H F0 b=none->b∈F0\/H b=none:=fun{b} h=>by
   by_cases e:b∈F0
   ·exact .inl e
   ·rw[sA e]at h;exact .inr h
  have at':∀{H':Hp}{σ:St}{q:Sq}{F':Nat->List Addr}{t':T},Rel K dl (nY H F0) (hsq H F0) H' σ q F'->q[j]? = some (.o t')->t'.adr=some a->Rp K dl H' v0 t' (F' j):=fun{H' σ q F' t'} r' e1 e2=>by
   obtain⟨v',_,rp⟩:=r'.g j _ _ e1 rfl;rw[ev0,<- rp.r.adr e2];exact rp
  refine hb.s dl (nY H F0) (hsq H F0) H _ _ _ _ ⟨_,R⟩ z ⟨fun H' σ q hr hz=>?_,fun _ _ _ _ hz=>hz.elim,fun _ _ _ _ hz=>hz.elim,fun _ _ _ _ _ _ _ _ _ hz=>hz.elim,fun H' σ q F' v r Fr r' rv f1 n1 dj hz=>?_⟩
  ·obtain⟨F',r'⟩:=hr;obtain⟨t',e1,e2,hz⟩:=hz;obtain⟨o1,o2,_⟩:=r'.o j t' e1;exact fin .non .n [] t' (F' j) H' (ug r') (at' r' e1 e2) o1 (fun b hb=>fr (o2 b hb)) ⟨.n,fun _ z=>nomatch z⟩ W2 (fun _ z=>nomatch z) (fun _ z=>nomatch z) hz
  ·obtain⟨t',e1,e2,hz⟩:=hz;obtain⟨o1,o2,_⟩:=r'.o j t' e1;exact fin v r Fr t' (F' j) H' (ug r') (at' r' e1 e2) o1 (fun b hb=>fr (o2 b hb)) rv n1 (fun b hb=>fr (f1 b hb)) (dj j) hz
variable{F':List Addr}
section
variable{X:Cx}{K:W.Frag}{dl:Dl}{H₀ H':Hp}{hs:List (V×T)}{σ:St}{q:Sq}{F:Nat->List Addr}
theorem Rel.Tr{i:Nat}{t t':T}{v:V}(r:Rel K dl H₀ hs H σ q F)(hi:q[i]? = some (.o t))(hv:σ[i]? = some (some v))(f:fW dl H (F i) H')(hr:Rp K dl H' v t' F')(n':F'.Nodup)(hF:∀ b∈F',b∈F i\/H b=none):Rel K dl H₀ hs H' σ (q.set i (.o t')) (pU F i F'):=by
 have th:∀{b:Addr},b∈F i->cI H b:=fun hb=>r.fA hb
 have ne:∀{b:Addr}{o:HO},H b=some o->o.mt=false->b ∉ F i:=fun{b o} h n1 z=>by
  obtain⟨_,e,m⟩:=th z;rw[h]at e;cases e;rw[n1]at m;cases m
 have tf:TF H H':=⟨fun b vs h=>f.k b _ h (ne h rfl) (r.d.nd h (fun _ z=>nomatch z) fun _ z=>nomatch z) (fun _ z=>nomatch z),fun b o u h=>f.k b _ h (ne h rfl) (r.d.nd h (fun _ z=>nomatch z) fun _ z=>nomatch z) (fun _ z=>nomatch z),
  fun b φ h=>f.k b _ h (ne h rfl) (r.d.nd h (fun _ z=>nomatch z) fun _ z=>nomatch z) (fun _ z=>nomatch z),fun b xs h=>(by
  by_cases hb:b∈F i
  ·exact f.l b xs hb h
  ·by_cases hn:Nd dl b
   ·exact⟨xs,f.k b _ h hb hn (fun _ z=>nomatch z)⟩
   ·unfold Nd at hn;obtain⟨p,hp,z⟩:∃ p∈dl,¬(b≠p.1/\b≠p.2):=Classical.byContradiction fun c=>hn fun p hp=>Classical.byContradiction fun z=>c ⟨p,hp,z⟩
    obtain⟨s,n,ls,Q⟩:=r.d p hp;obtain⟨s',n',ls',Q'⟩:=f.d p hp;have h1:b≠p.1:=jS h Q.hd (fun z=>nomatch z)
    have h2:b=p.2:=Classical.byContradiction fun z'=>z ⟨h1,z'⟩
    exact⟨_,by rw[h2];exact Q'.hl⟩),fun b x h=>f.r b x h (ne h rfl)⟩
 have st:∀{w:V}{u:T}{Fw:List Addr},Rp K dl H w u Fw ->(∀ b∈Fw,b ∉ F i)->Rp K dl H' w u Fw:=fun{w u Fw} h np =>
  ⟨h.r.b6 tf (fun _ z=>z) fun b hb o e=>f.k b o e (np b hb) (h.n b hb) (.of (h.r.there b hb) e),h.n⟩
 obtain⟨o1,o2,o3⟩:=r.o i t hi;have out:∀ j,j≠i->∀ b∈F',b ∉ F j:=fun j hj b hb z=>by
  rcases hF b hb with h|h
  ·exact o3 j hj b h z
  ·exact(r.fA z).no h
 refine⟨f.d,fun j x u h1 h2=>?_,fun j x h1 h2=>?_,fun j hj=>?_,fun j u h1=>?_,fun p hp=>?_,⟨fun b o h n nr=>?_,fun b x h=>?_⟩,by simp[r.l]⟩
 ·rcases get_set h1 with⟨rfl,rfl,_⟩ |⟨ne',h1⟩
  ·cases h2;exact⟨v,hv,by rw[aI];exact hr⟩
  ·obtain⟨w,h3,h4⟩:=r.g j x u h1 h2;exact⟨w,h3,by rw[aB ne'];exact st h4 fun b hb z=>o3 j ne' b z hb⟩
 ·rcases get_set h1 with⟨rfl,rfl,_⟩ |⟨ne',h1⟩
  ·cases h2
  ·rw[aB ne'];exact r.n j x h1 h2
 ·have hl:i<q.length:=(VZ.mp hi).1;rw[XW]at hj;rw[aB (by omega)]
  exact r.z j hj
 ·rcases get_set h1 with⟨rfl,e,_⟩ |⟨ne',h1⟩
  ·rw[aI];exact⟨n',fun b hb=>(hF b hb).elim (o2 b) r.fz,fun k hk b hb=>by rw[aB hk];exact out k hk b hb⟩
  ·obtain⟨p1,p2,p3⟩:=r.o j u h1;rw[aB ne'];refine⟨p1,p2,fun k hk b hb z=>?_⟩
   by_cases ek:k=i
   ·subst ek;rw[aI]at z;exact out j ne' b z hb
   ·rw[aB ek]at z;exact p3 k hk b hb z
 ·obtain⟨Fp,h1,h2⟩:=r.h p hp;refine⟨Fp,st h1 (fun b hb z=>h2 i t hi b z hb),fun j u hj b hb z=>?_⟩
  rcases get_set hj with⟨rfl,e,_⟩ |⟨ne',hj⟩
  ·rw[aI]at hb;rcases hF b hb with h|h
   ·exact h2 j t hi b h z
   ·exact cI.no (h1.r.there b z) h
  ·rw[aB ne']at hb;exact h2 j u hj b hb z
 ·exact f.k b o (r.f.k b o h n nr) (fun z=>by rw[o2 b z]at h;cases h) n nr
 ·obtain⟨y,hy,e1⟩:=r.f.r b x h;obtain⟨y',hy',e2⟩:=f.r b y e1 (fun z=>by rw[o2 b z]at h;cases h)
  exact⟨y',X9 hy' hy,e2⟩
end
section
variable{X:Cx}{K:W.Frag}{dl:Dl}{H₀ H':Hp}{hs:List (V×T)}{σ:St}{q:Sq}{F:Nat->List Addr}{a b e o:Expr}{es:List Expr}{te tk tv:TE}{qe qk qv:QE}{tl:TA}{ql:QA}{pos pos' p apos aT ef:Pos}
theorem KW(he:QPF X K e te qe):QPS X K (.Return (some e) pos) (Ke te) (fun D q=>qe q fun r=>D.ru q r):=⟨oM he.h,fun dl H₀ hs H σ q Dq D ⟨F,r⟩ hq E =>
 he.s dl H σ q _ _ r.rd hq fun v t F' H' e1 r1 f1 n1 hz=>E.ru H' σ q F v t F' (r.evo e1) r1 (fun b hb=>r.fz (f1 b hb)) n1 (fun _ b hb z=>(r.fA z).no (f1 b hb)) hz⟩
end
section
variable{X:Cx}{K:W.Frag}{a b:Expr}{ta tb:TE}{qa qb:QE}{pos p:Pos}
def GJ:R2:=fun x y H Q=>∃ l b xs zs,x = .ref l/\y = .ref b/\Rd H l (.lst xs)/\Rd H b (.lst zs)/\xs.length+zs.length<=WT/\∀ p,H p=none->Q (.ref p) (upd H p (.lst (xs++zs)))
theorem LO:OpR X (binaryOp .Add) GJ:=by
 intro j0 s σ H x y v u Q I rx ry h;obtain⟨l,b,xs,zs,rfl,rfl,hH,hB,hz,q⟩:=h;cases rx;cases ry;obtain⟨z,its,n,r,e⟩:=(show bH X.prog X.w H s.heap l (.lst xs)from hH.ok I.hok);obtain⟨z2,bb,n2,r2,e2⟩:=(show bH X.prog X.w H s.heap b (.lst zs)from hB.ok I.hok);have hl:=r.length;have hl2:=r2.length;refine PySem.P.add_list e e2 ?_ (by rw[Wc,Wc];omega)
 have ea:its.toArray++bb.toArray =(its++bb).toArray:=by simp
 rw[ea];exact⟨.ref _,_,I.Tq (t':=s.toks) (r.append r2) (by rw[Xl];omega),rfl,q _ I.fresh⟩
theorem Rp.Tp{dl:Dl}{v:V}{t:T}{F:List Addr}{ts:List T}(r:Rp K dl H v t F)(h:t.lst=some ts):∃ p vs G,v = .ref p/\Rd H p (.lst vs)/\ak K dl H vs ts G:=by
 cases t with
 | l xs=>cases h;obtain⟨p,vs,G,rfl,rfl,h1,h2⟩:=r.r.lst;exact⟨p,vs,G,rfl,.inl h1,h2⟩
 | zl xs=>cases h;obtain⟨p,o,vs,rfl,rfl,h1,h2⟩:=r.r.zls;exact⟨p,vs,[],rfl,.inr ⟨o,h1⟩,h2⟩
 | _=>cases h
def NK:Q2:=fun t u Q=>∃ xs ys,t.lst=some xs/\u.lst=some ys/\xs.length+ys.length<=WT/\T.ims xs=true/\T.ims ys=true/\Q (.l (xs++ys))
theorem Gk:cN K GJ NK:=by
 intro dl H x y t u F G Q R D r1 r2 hq k;obtain⟨xs,ys,e1,e2,hl,i1,i2,hq⟩:=hq;obtain⟨p,vs,G1,rfl,h1,f1⟩:=r1.Tp e1;obtain⟨p',ws,G2,rfl,h2,f2⟩:=r2.Tp e2;obtain rfl:=f1.im i1;obtain rfl:=f2.im i2;refine⟨p,p',vs,ws,rfl,rfl,h1,h2,by rw[f1.len,f2.len];exact hl,fun p hp=>?_⟩
 have rs:Rps K dl H (vs++ws) _ ([] ++ []):=⟨f1.append f2,fun c hc=>nomatch hc⟩
 exact k _ _ _ _ ((Evo.refl D).new hp) (rs.lst D hp) (fun b hb=>by rw[qr.mp hb];exact hp) (by simp) hq
theorem Le(ha:QPE X K a ta qa)(hb:QPE X K b tb qb):QPF X K (.BinOp a .Add b pos) (tOp GJ ta tb) (qOp NK qa qb):=⟨cx LO ha.h hb.h,vD Gk ha.s hb.s⟩
end
end L2
namespace PySem
open Sem (wp)
end PySem
namespace PySem
open Sem (wp)
end PySem
namespace PySem
open Sem (wp)
namespace F
end F
end PySem
namespace PySem
open Sem (wp)
end PySem
namespace PySem
open Sem (wp)
open PyProof.Rows (StrsAre strOf strsAre_map)
end PySem
namespace PySem
open Sem (wp)
open PyProof.Rows (StrsAre strOf strsAre_map seqObj)
end PySem
namespace L2
open PySem PySem.Spec PyProof.Rows
abbrev Way:=List (Sum Str Nat)
def putN(f:Str):List Str->List Str
 | []=>[f]
 | g::r=>if g=f then g::r else g::putN f r
def eD{α:Type}(f:Str)(y:α):List Str->List α->List α
 | [],_=>[y]
 | g::r,x::ts=>if g=f then y::ts else x::eD f y r ts
 | _::_,[]=>[]
def T.sub:Way->T->Option T
 | [],x=>some x
 | .inl f::p,.om _ _ ns ts=>match(ns.zip ts).lookup f with
  | some u=>T.sub p u
  | none=>none
 | .inr m::p,.l ts=>match ts[m]? with
  | some u=>T.sub p u
  | none=>none
 | _::_,_=>none
def T.put(u:T):Way->T->T
 | [],_=>u
 | .inl f::p,.om a C ns ts=>match(ns.zip ts).lookup f with
  | some x=>.om a C ns (eD f (T.put u p x) ns ts)
  | none=>.om a C ns ts
 | .inr m::p,.l ts=>match ts[m]? with
  | some x=>.l (ts.set m (T.put u p x))
  | none=>.l ts
 | _::_,x=>x
def VAt(H:Hp):Way->V->V->Prop
 | [],v,w=>v=w
 | .inl f::p,v,w=>∃ a C dx fs x,v = .ref a/\H a=some (.ins C dx fs)/\fs.lookup f=some x/\VAt H p x w
 | .inr m::p,v,w=>∃ a xs x,v = .ref a/\H a=some (.lst xs)/\xs[m]? = some x/\VAt H p x w
theorem VAt.uniq{H:Hp}:∀{p:Way}{v w w':V},VAt H p v w->VAt H p v w'->w=w'
 | [],_,_,_,h,h'=>h.symm.trans h'
 | .inl f::p,_,_,_,⟨a,C,dx,fs,x,e,h1,h2,h3⟩,⟨a',C',dx',fs',x',e',h1',h2',h3'⟩=>by
  subst e;cases e';rw[h1]at h1';cases h1';rw[h2]at h2';cases h2';exact VAt.uniq h3 h3'
 | .inr m::p,_,_,_,⟨a,xs,x,e,h1,h2,h3⟩,⟨a',xs',x',e',h1',h2',h3'⟩=>by
  subst e;cases e';rw[h1]at h1';cases h1';rw[h2]at h2';cases h2';exact VAt.uniq h3 h3'
theorem VAt.snoc{H:Hp}{s:Sum Str Nat}:∀{p:Way}{v w x:V},VAt H p v w->VAt H [s] w x->VAt H (p ++ [s]) v x
 | [],_,_,_,h,h'=>by cases h;exact h'
 | .inl f::p,_,_,_,⟨a,C,dx,fs,x,e,h1,h2,h3⟩,h'=>⟨a,C,dx,fs,x,e,h1,h2,h3.snoc h'⟩
 | .inr m::p,_,_,_,⟨a,xs,x,e,h1,h2,h3⟩,h'=>⟨a,xs,x,e,h1,h2,h3.snoc h'⟩
theorem T.sub_snoc{s:Sum Str Nat}:∀{p:Way}{t u x:T},T.sub p t=some u->T.sub [s] u=some x->T.sub (p ++ [s]) t=some x
 | [],_,_,_,h,h'=>by cases h;exact h'
 | .inl f::p,y,_,_,h,h'=>by
  cases y with
  | om a C ns ts =>
   unfold T.sub at h;show T.sub (.inl f ::(p ++ [s])) _=_;unfold T.sub
   split at h
   ·exact T.sub_snoc h h'
   ·cases h
  | _=>cases h
 | .inr m::p,y,_,_,h,h'=>by
  cases y with
  | l ts =>
   unfold T.sub at h;show T.sub (.inr m ::(p ++ [s])) _=_;unfold T.sub
   split at h
   ·exact T.sub_snoc h h'
   ·cases h
  | _=>cases h
theorem BK{f:Str}{v:V}:∀{ns:List Str}{vs:List V},ns.length=vs.length->dD f v (ns.zip vs) =(putN f ns).zip (eD f v ns vs)
 | [],[],_=>rfl
 | g::r,x::vs,h=>by
  show dD f v ((g,x)::r.zip vs)=_;unfold dD putN eD
  split
  ·rfl
  ·rw[BK (Nat.succ.inj h)];rfl
theorem B7{α:Type}{f:Str}{y:α}:∀{ns:List Str}{ts:List α},ns.length=ts.length ->(putN f ns).length =(eD f y ns ts).length
 | [],[],_=>rfl
 | g::r,x::ts,h=>by
  unfold putN eD
  split
  ·exact h
  ·exact congrArg (· + 1) (B7 (Nat.succ.inj h))
theorem yF{f:Str}{v:V}:∀{ns:List Str}{vs:List V},(ns.zip vs).lookup f=some v->putN f ns=ns/\(ns.length=vs.length->eD f v ns vs=vs)
 | [],_,h=>by cases h
 | g::r,[],h=>by cases h
 | g::r,x::vs,h=>by
  rw[show(g::r).zip (x::vs) =(g,x)::r.zip vs from rfl,Xk]at h;unfold putN eD;by_cases e:g=f
  ·subst e;rw[beq_self_eq_true]at h;cases h;exact⟨if_pos rfl,fun _=>if_pos rfl⟩
  ·have hb:(f==g)=false:=beq_eq_false_iff_ne.mpr fun z=>e z.symm
   rw[hb]at h;obtain⟨h1,h2⟩:=yF h;rw[if_neg e,if_neg e,h1];exact⟨rfl,fun l=>by rw[h2 (Nat.succ.inj l)]⟩
theorem HX{α β:Type}{f:Str}:∀{ns:List Str}{vs:List α}{ts:List β},vs.length=ts.length ->((ns.zip ts).lookup f=none ↔ (ns.zip vs).lookup f=none)
 | [],_,_,_=>by simp
 | g::r,[],[],_=>by simp
 | g::r,x::vs,y::ts,h=>by
  rw[show(g::r).zip (x::vs) =(g,x)::r.zip vs from rfl,show(g::r).zip (y::ts) =(g,y)::r.zip ts from rfl,Xk,Xk]
  split
  ·simp
  ·exact HX (Nat.succ.inj h)
variable{a:Addr}
section
variable{X:Cx}{K:W.Frag}{dl:Dl}{H:Hp}
theorem ak.fld{f:Str}{vs:List V}{ts:List T}{F:List Addr}(h:ak K dl H vs ts F):∀{ns:List Str}{c:T},(ns.zip ts).lookup f=some c->∃ w Fc G,(ns.zip vs).lookup f=some w/\ax K dl H w c Fc/\F.Perm (Fc++G) /\
  ∀ H' w' c' Fc',TF H H' ->(∀ b∈G,∀ o,H b=some o->H' b=some o)->ax K dl H' w' c' Fc'->∃ F',ak K dl H' (eD f w' ns vs) (eD f c' ns ts) F'/\F'.Perm (Fc'++G) :=
 h.ind (M:=fun vs ts F=>∀{ns:List Str}{c:T},(ns.zip ts).lookup f=some c->∃ w Fc G,(ns.zip vs).lookup f=some w/\ax K dl H w c Fc/\F.Perm (Fc++G) /\
  ∀ H' w' c' Fc',TF H H' ->(∀ b∈G,∀ o,H b=some o->H' b=some o)->ax K dl H' w' c' Fc'->∃ F',ak K dl H' (eD f w' ns vs) (eD f c' ns ts) F'/\F'.Perm (Fc'++G))
  (fun{ns c} e=>by cases ns <;> cases e) fun v x vs ts F G hx hr ih ns c e=>by
  cases ns with
  | nil=>cases e
  | cons g r =>
   rw[show(g::r).zip (x::ts) =(g,x)::r.zip ts from rfl,Xk]at e;by_cases eg:g=f
   ·subst eg;rw[beq_self_eq_true]at e;cases e;refine⟨v,F,G,?_,hx,.refl _,fun H' w' c' Fc' tf k h'=>⟨Fc'++G,?_,.refl _⟩⟩
    ·rw[show(g::r).zip (v::vs) =(g,v)::r.zip vs from rfl,Xk,beq_self_eq_true]
    ·unfold eD;rw[if_pos rfl,if_pos rfl];exact .cons h' (hr.b6 tf (fun _ z=>z) k)
   ·have hb:(f==g)=false:=beq_eq_false_iff_ne.mpr fun z=>eg z.symm
    rw[hb]at e;obtain⟨w,Fc,G1,h1,h2,h3,h4⟩:=ih e;refine⟨w,Fc,F++G1,?_,h2,((h3.append_left F).trans (Yf _ _ _)),fun H' w' c' Fc' tf k h'=>?_⟩
    ·rw[show(g::r).zip (v::vs) =(g,v)::r.zip vs from rfl,Xk,hb];exact h1
    ·obtain⟨F',q1,q2⟩:=h4 H' w' c' Fc' tf (fun b hb=>k b (W7 _ hb)) h'
     unfold eD;rw[if_neg eg,if_neg eg];exact⟨F++F',.cons (hx.b6 tf (fun _ z=>z) fun b hb=>k b (Xf _ hb)) q1,(q2.append_left F).trans (Yf _ _ _)⟩
theorem ak.II{f:Str}{w:V}{c:T}{Fc:List Addr}(hw:ax K dl H w c Fc):∀{ns:List Str}{vs:List V}{ts:List T}{F:List Addr},ak K dl H vs ts F->ns.length=ts.length ->(ns.zip ts).lookup f=none->ak K dl H (eD f w ns vs) (eD f c ns ts) (F++(Fc ++ []))
 | [],_,_,_,.nil,_,_=>.cons (F:=Fc) (G:=[]) hw .nil
 | [],_,_,_,.cons _ _,l,_=>nomatch l
 | g::r,_,_,_,.nil,l,_=>nomatch l
 | g::r,_,_,_,.cons (x:=x) (ts:=ts) hx hr,l,e=>by
  rw[show(g::r).zip (x::ts) =(g,x)::r.zip ts from rfl,Xk]at e;by_cases eg:g=f
  ·subst eg;rw[beq_self_eq_true]at e;cases e
  ·have hb:(f==g)=false:=beq_eq_false_iff_ne.mpr fun z=>eg z.symm
   rw[hb]at e;unfold eD;rw[if_neg eg,if_neg eg,Yl];exact .cons hx (ak.II hw hr (Nat.succ.inj l) e)
theorem ak.itm{vs:List V}{ts:List T}{F:List Addr}(h:ak K dl H vs ts F):∀{i:Nat}{c:T},ts[i]? = some c->∃ w Fc G,vs[i]? = some w/\ax K dl H w c Fc/\F.Perm (Fc++G) /\
  ∀ H' w' c' Fc',TF H H' ->(∀ b∈G,∀ o,H b=some o->H' b=some o)->ax K dl H' w' c' Fc'->∃ F',ak K dl H' (vs.set i w') (ts.set i c') F'/\F'.Perm (Fc'++G) :=
 h.ind (M:=fun vs ts F=>∀{i:Nat}{c:T},ts[i]? = some c->∃ w Fc G,vs[i]? = some w/\ax K dl H w c Fc/\F.Perm (Fc++G) /\
  ∀ H' w' c' Fc',TF H H' ->(∀ b∈G,∀ o,H b=some o->H' b=some o)->ax K dl H' w' c' Fc'->∃ F',ak K dl H' (vs.set i w') (ts.set i c') F'/\F'.Perm (Fc'++G))
  (fun{i c} e=>nomatch e) fun v x vs ts F G hx hr ih i c e=>by
  cases i with
  | zero =>
   cases e;exact⟨v,F,G,rfl,hx,.refl _,fun H' w' c' Fc' tf k h'=>⟨Fc'++G,.cons h' (hr.b6 tf (fun _ z=>z) k),.refl _⟩⟩
  | succ i =>
   obtain⟨w,Fc,G1,h1,h2,h3,h4⟩:=ih (i:=i) (by simpa using e)
   refine⟨w,Fc,F++G1,by simpa using h1,h2,((h3.append_left F).trans (Yf _ _ _)),fun H' w' c' Fc' tf k h'=>?_⟩
   obtain⟨F',q1,q2⟩:=h4 H' w' c' Fc' tf (fun b hb=>k b (W7 _ hb)) h'
   exact⟨F++F',.cons (hx.b6 tf (fun _ z=>z) fun b hb=>k b (Xf _ hb)) q1,(q2.append_left F).trans (Yf _ _ _)⟩
theorem pm2{b:Addr}{A B C:List Addr}:(a::b ::(A++B++C)).Perm (A++(a::b ::(B++C))):=by
 rw[Yl];exact(ZS.trans (List.perm_middle.cons _)).symm
theorem pm1{A B C:List Addr}:(a ::(A++B++C)).Perm (A++(a ::(B++C))):=by
 rw[Yl];exact ZS.symm
theorem Du{α:Type}{xs:List α}{i:Nat}{x:α}(h:xs[i]? = some x):xs.set i x=xs:=by
 obtain⟨hl,rfl⟩:=VZ.mp h;exact List.set_getElem_self hl
theorem ax.zip:∀(p:Way){v:V}{t u:T}{F:List Addr},ax K dl H v t F->T.sub p t=some u->∃ w Fu G,(∀ H1:Hp,(∀ b∈G,∀ o,H b=some o->H1 b=some o)->VAt H1 p v w)/\ax K dl H w u Fu/\F.Perm (Fu++G) /\
  ∀ H' u' Fu',TF H H' ->(∀ b∈G,∀ o,H b=some o->H' b=some o)->ax K dl H' w u' Fu'->∃ F',ax K dl H' v (T.put u' p t) F'/\F'.Perm (Fu'++G)
 | [],v,y,u,F,h,ex=>by
  cases ex;exact⟨v,F,[],fun _ _=>rfl,h,by rw[Xh],fun H' u' Fu' _ _ h'=>⟨Fu',h',by rw[Xh]⟩⟩
 | .inl f::p,v,y,u,F,h,ex=>by
  cases y with
  | om a C ns ts =>
   obtain⟨dx,vs,G0,rfl,rfl,h1,h2,h3,h4⟩:=h.omm;unfold T.sub at ex
   split at ex
   ·next c ec =>
    obtain⟨w1,F1,G1,a1,a2,a3,a4⟩:=h4.fld ec;obtain⟨w,Fu,G2,b1,b2,b3,b4⟩:=ax.zip p a2 ex;refine⟨w,Fu,a::dx ::(G2++G1),fun H1 k1=>⟨a,C,dx,_,w1,rfl,k1 a j5 _ h1,a1,b1 H1 fun b hb=>k1 b (Es _ (Es _ (Xf _ hb)))⟩,b2,((a3.trans (b3.append_right G1)).cons dx |>.cons a).trans pm2,fun H' u' Fu' tf k h'=>?_⟩
    obtain⟨F',q1,q2⟩:=b4 H' u' Fu' tf (fun b hb=>k b (Es _ (Es _ (Xf _ hb)))) h'
    obtain⟨F2,q3,q4⟩:=a4 H' w1 _ F' tf (fun b hb=>k b (Es _ (Es _ (W7 _ hb)))) q1
    obtain⟨s1,s2⟩:=yF a1;have hl:=h4.len;rw[s2 (by omega)]at q3
    refine⟨a::dx::F2,?_,((q4.trans (q2.append_right G1)).cons dx |>.cons a).trans pm2⟩
    unfold T.put;rw[ec];exact .om (k a j5 _ h1) (k dx (Es _ j5) _ h2) (h3.trans (h4.len.symm.trans q3.len)) q3
   ·cases ex
  | _=>cases ex
 | .inr m::p,v,y,u,F,h,ex=>by
  cases y with
  | l ts =>
   obtain⟨a,vs,G0,rfl,rfl,h1,h4⟩:=h.lst;unfold T.sub at ex
   split at ex
   ·next c ec =>
    obtain⟨w1,F1,G1,a1,a2,a3,a4⟩:=h4.itm ec;obtain⟨w,Fu,G2,b1,b2,b3,b4⟩:=ax.zip p a2 ex;refine⟨w,Fu,a ::(G2++G1),fun H1 k1=>⟨a,_,w1,rfl,k1 a j5 _ h1,a1,b1 H1 fun b hb=>k1 b (Es _ (Xf _ hb))⟩,b2,((a3.trans (b3.append_right G1)).cons a).trans pm1,fun H' u' Fu' tf k h'=>?_⟩
    obtain⟨F',q1,q2⟩:=b4 H' u' Fu' tf (fun b hb=>k b (Es _ (Xf _ hb))) h'
    obtain⟨F2,q3,q4⟩:=a4 H' w1 _ F' tf (fun b hb=>k b (Es _ (W7 _ hb))) q1
    rw[Du a1]at q3;refine⟨a::F2,?_,((q4.trans (q2.append_right G1)).cons a).trans pm1⟩;unfold T.put;rw[ec];exact .l (k a j5 _ h1) q3
   ·cases ex
  | _=>cases ex
end
variable{H:Hp}{H':Hp}
theorem fW.tf{dl:Dl}{F:List Addr}(f:fW dl H F H')(th:∀ b∈F,cI H b)(D:Dls dl H):TF H H':=by
 have ne:∀{b:Addr}{o:HO},H b=some o->o.mt=false->b ∉ F:=fun{b o} h n1 z=>by
  obtain⟨_,e,m⟩:=th b z;rw[h]at e;cases e;rw[n1]at m;cases m
 refine⟨fun b vs h=>f.k b _ h (ne h rfl) (D.nd h (fun _ z=>nomatch z) fun _ z=>nomatch z) (fun _ z=>nomatch z),fun b o u h=>f.k b _ h (ne h rfl) (D.nd h (fun _ z=>nomatch z) fun _ z=>nomatch z) (fun _ z=>nomatch z),
  fun b φ h=>f.k b _ h (ne h rfl) (D.nd h (fun _ z=>nomatch z) fun _ z=>nomatch z) (fun _ z=>nomatch z),fun b xs h=>?_,fun b x h=>f.r b x h (ne h rfl)⟩
 by_cases hb:b∈F
 ·exact f.l b xs hb h
 ·by_cases hn:Nd dl b
  ·exact⟨xs,f.k b _ h hb hn (fun _ z=>nomatch z)⟩
  ·unfold Nd at hn;obtain⟨p,hp,z⟩:∃ p∈dl,¬(b≠p.1/\b≠p.2):=Classical.byContradiction fun c=>hn fun p hp=>Classical.byContradiction fun z=>c ⟨p,hp,z⟩
   obtain⟨s,n,ls,Q⟩:=D p hp;obtain⟨s',n',ls',Q'⟩:=f.d p hp;have h1:b≠p.1:=jS h Q.hd (fun z=>nomatch z)
   have h2:b=p.2:=Classical.byContradiction fun z'=>z ⟨h1,z'⟩
   exact⟨_,by rw[h2];exact Q'.hl⟩
variable{j:Nat}
section
variable{X:Cx}{K:W.Frag}{dl:Dl}{H₀:Hp}{hs:List (V×T)}{σ:St}{q:Sq}{F:Nat->List Addr}
theorem Rel.mod{i:Nat}{p:Way}{t u:T}(r:Rel K dl H₀ hs H σ q F)(hi:q[i]? = some (.o t))(hu:T.sub p t=some u):∃ v w Fu,σ[i]? = some (some v)/\(∀ H1,Evo dl H H1->VAt H1 p v w)/\Rp K dl H w u Fu/\Fu.Nodup /\
  ∀ H' u' Fu',fW dl H Fu H'->Rp K dl H' w u' Fu'->Fu'.Nodup ->(∀ b∈Fu',b∈Fu\/H b=none)->∃ F',Rel K dl H₀ hs H' σ (q.set i (.o (T.put u' p t))) F':=by
 obtain⟨v,hv,rp⟩:=r.g i _ t hi rfl;obtain⟨w,Fu,G,h1,h2,h3,h4⟩:=rp.r.zip p hu;obtain⟨o1,o2,o3⟩:=r.o i t hi;have nd:=(h3.nodup_iff.mp o1);obtain⟨n1,n2,n3⟩:=XT.mp nd;have inF:∀ b,b∈Fu\/b∈G->b∈F i:=fun b hb=>h3.mem_iff.mpr (Xj.mpr hb)
 refine⟨v,w,Fu,hv,fun H1 e=>h1 H1 fun b hb o eo=>e.k b o eo (rp.n b (inF b (.inr hb))) (.of (r.fA (inF b (.inr hb))) eo),⟨h2,fun b hb=>rp.n b (inF b (.inl hb))⟩,n1,fun H' u' Fu' f r' n' hF=>?_⟩
 have kG:∀ b∈G,∀ o,H b=some o->H' b=some o:=fun b hb o e=>f.k b o e (fun z=>n3 b z b hb rfl) (rp.n b (inF b (.inr hb))) (.of (r.fA (inF b (.inr hb))) e)
 obtain⟨F',q1,q2⟩:=h4 H' u' Fu' (f.tf (fun b hb=>h2.there b hb) r.d) kG r'.r
 have f2:fW dl H (F i) H':=⟨fun b o e n=>f.k b o e fun z=>n (inF b (.inl z)),fun b x e n=>f.r b x e fun z=>n (inF b (.inl z)),fun b xs hb e=>(by
  by_cases z:b∈Fu
  ·exact f.l b xs z e
  ·exact⟨xs,f.k b _ e z (rp.n b hb) fun _ z=>nomatch z⟩),f.d⟩
 refine⟨_,r.Tr hi hv f2 ⟨q1,fun b hb=>?_⟩ (q2.nodup_iff.mpr (XT.mpr ⟨n',n2,fun x hx y hy e=>?_⟩)) fun b hb=>?_⟩
 ·rcases Xj.mp (q2.mem_iff.mp hb)with z|z
  ·exact r'.n b z
  ·exact rp.n b (inF b (.inr z))
 ·subst e;rcases hF x hx with z|z
  ·exact n3 x z x hy rfl
  ·exact(r.fA (inF x (.inr hy))).no z
 ·rcases Xj.mp (q2.mem_iff.mp hb)with z|z
  ·rcases hF b z with z|z
   ·exact .inl (inF b (.inl z))
   ·exact .inr z
  ·exact .inl (inF b (.inr z))
theorem RdR.part{p:Way}{t u:T}{v w:V}(rd:RdR K dl H σ q)(hj:q[j]? = some (.o t))(hv:σ[j]? = some (some v))(hu:T.sub p t=some u)(hw:VAt H p v w):∃ Fu,Rp K dl H w u Fu:=by
 obtain⟨v',F,h1,rp⟩:=rd.g j _ t hj rfl;rw[hv]at h1;cases h1;obtain⟨w',Fu,G,h1,h2,h3,_⟩:=rp.r.zip p hu;cases hw.uniq (h1 H fun _ _ _ z=>z)
 exact⟨Fu,h2,fun b hb=>rp.n b (h3.mem_iff.mpr (Xf _ hb))⟩
end
abbrev QL:=Sq ->(Way->T->Prop)->Prop
def UJ(K:W.Frag)(j:Nat)(te:TE)(ql:QL):Prop:=∀(dl:Dl)(H:Hp)(σ:St)(q:Sq)(P:Way->T->Prop)(R:V->Hp->Prop),RdR K dl H σ q->ql q P ->
 (∀ t v p u w,q[j]? = some (.o t)->σ[j]? = some (some v)->T.sub p t=some u->VAt H p v w->P p u->R w H)->te σ H R
structure QPL(X:Cx)(K:W.Frag)(j:Nat)(e:Expr)(te:TE)(ql:QL):Prop where
 h:PE X e te
 s:UJ K j te ql
variable{x:Str}
section
variable{X:Cx}{K:W.Frag}{a b e o:Expr}{es:List Expr}{te tb tv:TE}{qe qb qv:QE}{tl:TA}{qa:QA}{ql:QL}{pos pos' apos aT ef:Pos}{f:Str}{C:Addr}
def NC(j:Nat):QL:=fun q P=>match q[j]? with
 | some (.o t)=>P [] t
 | _=>False
theorem aF{pos:Pos}(hN:X.N[j]? = some x:=by rfl)(hv:Vis X.env.scope x:=by first|exact Or.inl rfl|exact Or.inr (Or.inl rfl)|exact Or.inr (Or.inr rfl))(hd:(x ==("__debug__":Str))=false:=by decide)
  (hcd:(x ==("__classdict__":Str))=false:=by decide):QPL X K j (.Name x pos) (cm j) (NC j):=⟨wb hN hv hd hcd,fun dl H σ q P R rd hq k=>by
 unfold NC at hq
 split at hq
 ·rename_i t e;obtain⟨v,F,h1,h2⟩:=rd.g j _ t e rfl;exact⟨v,h1,k t v [] t v e h1 rfl rfl hq⟩
 ·exact hq.elim⟩
def R6(j i:Nat):QL:=fun q P=>∃ x t p C ns ts,(q[i]? = some (.r (.rf x))\/q[i]? = some (.o (.rf x)))/\q[j]? = some (.o t)/\T.sub p t=some (.om x C ns ts)/\P p (.om x C ns ts)
theorem cQ{i:Nat}{pos:Pos}(hN:X.N[i]? = some x:=by rfl)(hv:Vis X.env.scope x:=by first|exact Or.inl rfl|exact Or.inr (Or.inl rfl)|exact Or.inr (Or.inr rfl))(hd:(x ==("__debug__":Str))=false:=by decide)
  (hcd:(x ==("__classdict__":Str))=false:=by decide):QPL X K j (.Name x pos) (cm i) (R6 j i):=⟨wb hN hv hd hcd,fun dl H σ q P R rd hq k=>by
 obtain⟨x,t,p,C,ns,ts,hi,hj,hs,hp⟩:=hq;obtain⟨v,F,h1,rp⟩:=rd.g j _ t hj rfl;obtain⟨w,Fu,G,h2,h3,_,_⟩:=rp.r.zip p hs;obtain⟨dx,vs,G',rfl,_⟩:=h3.omm;have hi':σ[i]? = some (some (.ref x)):=by
  rcases hi with hi|hi
  ·obtain⟨vi,Fi,e1,e2⟩:=rd.g i _ _ hi rfl;obtain⟨rfl,_⟩:=e2.r.rff;exact e1
  ·obtain⟨vi,Fi,e1,e2⟩:=rd.g i _ _ hi rfl;obtain⟨rfl,_⟩:=e2.r.rff;exact e1
 exact⟨_,hi',k t v p _ _ hj h1 hs (h2 H fun _ _ _ z=>z) hp⟩⟩
def R7(C:Addr)(f:Str)(ql:QL):QL:=fun q P=>ql q fun p u=>match u with
 | .om _ C' ns ts=>C'=C/\∃ x,(ns.zip ts).lookup f=some x/\P (p ++ [.inl f]) x
 | _=>False
theorem bQ(hc:Cls K C)(hn:bw K C f)(he:QPL X K j e te ql)(hb:attributeBase e f X.env (eval e X.env)=eval e X.env:=by rfl)(hK:X.K=K:=by rfl):QPL X K j (.Attribute e f pos) (Om K te f) (R7 C f ql) :=
 ⟨by subst hK;exact Hz he.h hb,fun dl H σ q P R rd hq k=>he.s dl H σ q _ _ rd hq fun t v p u w hj hv hs hw hz=>by
  split at hz
  ·rename_i x C' ns ts;obtain⟨rfl,y,hy,hz⟩:=hz;obtain⟨Fu,rp⟩:=rd.part hj hv hs hw;obtain⟨dx,vs,G,rfl,rfl,h1,h2,h3,h4⟩:=rp.r.omm;obtain⟨w1,_,_,l1,_⟩:=h4.fld hy;exact⟨x,_,dx,_,w1,rfl,h1,hc,hn,l1,k t v _ y w1 hj hv (T.sub_snoc hs (by unfold T.sub;rw[hy];rfl)) (hw.snoc (show VAt H [.inl f] (.ref x) w1 from⟨x,_,dx,_,w1,rfl,h1,l1,rfl⟩)) hz⟩
  ·exact hz.elim⟩
def VH(n:Int)(ql:QL):QL:=fun q P=>ql q fun p u=>match u with
 | .l xs=>∃ m x,ixN xs.length n=some m/\xs[m]? = some x/\P (p ++ [.inr m]) x
 | _=>False
theorem R5{n:Int}(he:QPL X K j e te ql)(hb:PE X b tb)(hn:∀ σ H R,R (.int n) H->tb σ H R)(hs:oy b:=by intro _ _;rfl)(hK:X.K=K:=by rfl):QPL X K j (.Subscript e b pos) (tOp (rIx K) te tb) (VH n ql) :=
 ⟨by subst hK;exact Cf Ba he.h hb hs,fun dl H σ q P R rd hq k=>he.s dl H σ q _ _ rd hq fun t v p u w hj hv hs hw hz=>by
  split at hz
  ·obtain⟨m,x,hm,hx,hz⟩:=hz;obtain⟨Fu,rp⟩:=rd.part hj hv hs hw;obtain⟨a,vs,G,rfl,rfl,h1,h2⟩:=rp.r.lst;obtain⟨w1,_,_,l1,_⟩:=h2.itm hx;refine hn _ _ _ (.inl ⟨a,vs,n,w1,rfl,rfl,SqL.of h1,pw (by rw[h2.len];exact hm) l1,k t v _ x w1 hj hv (T.sub_snoc hs (by unfold T.sub;rw[hx];rfl)) (hw.snoc (show VAt H [.inr m] (.ref a) w1 from⟨a,_,w1,rfl,h1,l1,rfl⟩)) hz⟩)
  ·exact hz.elim⟩
def VJ(ql:QL):QE:=fun q Q=>ql q fun _ u=>Q u
theorem a6(he:QPL X K j e te ql):QPE X K e te (VJ ql):=⟨he.h,fun dl H σ q Q R rd hq k=>he.s dl H σ q _ _ rd hq fun t v p u w hj hv hs hw hz=>by
 obtain⟨Fu,rp⟩:=rd.part hj hv hs hw;exact k w u Fu H (.refl rd.d) rp hz⟩
def VI(ql:QL):QE:=fun q Q=>ql q fun _ u=>match u with
 | .om x _ _ _=>Q (.rf x)
 | _=>False
theorem OP(he:QPL X K j e te ql):QPF X K e te (VI ql):=⟨he.h,fun dl H σ q Q R rd hq k=>he.s dl H σ q _ _ rd hq fun t v p u w hj hv hs hw hz=>by
 split at hz
 ·obtain⟨Fu,rp⟩:=rd.part hj hv hs hw;obtain⟨dx,vs,G,rfl,_⟩:=rp.r.omm;exact k _ _ [] H (.refl rd.d) ⟨.rf _,fun _ z=>nomatch z⟩ (fun _ z=>nomatch z) W2 hz
 ·exact hz.elim⟩
end
theorem zX{x b:Addr}{o:HO}{S:List Addr}(hx:x ∉ S)(hb:b∈S):upd H x o b=H b:=ai fun z=>hx (by rw[<- z];exact hb)
theorem FH{x b:Addr}{o:HO}{S:List Addr}(hx:x∈S)(hb:b ∉ S):upd H x o b=H b:=ai fun z=>hb (by rw[z];exact hx)
variable{H1:Hp}
theorem fW.ye{dl:Dl}{Fu:List Addr}{x:Addr}{o:HO}(e:Evo dl H H1)(hx:x∈Fu)(hn:∀ b∈Fu,Nd dl b)(hl:∀ xs,H x=some (.lst xs)->∃ ys,o = .lst ys):fW dl H Fu (upd H1 x o) where
 k:=fun b ob h nb n nr=>by rw[FH hx nb];exact e.k b ob h n nr
 r:=fun b y h nb=>by rw[FH hx nb];exact e.r b y h
 l:=fun b xs hb h=>by
  by_cases z:b=x
  ·subst z;obtain⟨ys,rfl⟩:=hl xs h;exact⟨ys,aw⟩
  ·exact⟨xs,by rw[ai z];exact e.k b _ h (hn b hb) fun _ z=>nomatch z⟩
 d:=fun p hp=>(e.d p hp).other (hn x hx p hp).1 (hn x hx p hp).2
section
variable{X:Cx}{K:W.Frag}{dl:Dl}
theorem Rp.dD{f:Str}{x C dx:Addr}{ns:List Str}{vs:List V}{ts:List T}{G Fy:List Addr}{y:V}{ty:T}{w:V}(hu:Rp K dl H w (.om x C ns ts) (x::dx::G))(e:Evo dl H H1)(D:Dls dl H)(hvs:H1 x=some (.ins C dx (ns.zip vs)))(hy:Rp K dl H1 y ty Fy)(nu:(x::dx::G).Nodup)(ny:Fy.Nodup)(fy:∀ b∈Fy,H b=none)(hv:vs.length=ns.length) :
  ∃ Fu',Rp K dl (upd H1 x (.ins C dx (L2.dD f y (ns.zip vs)))) w (.om x C (putN f ns) (eD f ty ns ts)) Fu'/\Fu'.Nodup/\∀ b∈Fu',b∈x::dx::G\/H b=none:=by
 have hu1:=hu.evo D e;obtain⟨dx',vs',G',rfl,eG,h1,h2,h3,h4⟩:=hu1.r.omm;injection eG with _ eG
 injection eG with e1 eG
 subst e1 eG;rw[hvs]at h1;injection h1 with h1
 injection h1 with _ _ h1
 have hl4:=h4.len;obtain rfl:=zip_inj hv (hl4.trans h3.symm) h1;have nxd:x≠dx:=fun z=>(Xm.mp nu).1 (by rw[z];exact j5)
 have nxG:x ∉ G:=fun z=>(Xm.mp nu).1 (Es _ z)
 have L:=fW.ye (o:=.ins C dx (L2.dD f y (ns.zip vs))) e (j5 (a:=x) (l:=dx::G)) hu.n (fun xs h=>by
  rw[e.k x _ h (hu.n x j5) (fun _ z=>nomatch z)]at hvs;cases hvs)
 have tf1:TF H1 (upd H1 x (.ins C dx (L2.dD f y (ns.zip vs)))):=fW.tf (F:=[x]) (fW.ye (.refl e.d) (j5 (a:=x) (l:=[])) (fun b hb=>by rw[qr.mp hb];exact hu.n x j5) (fun xs h=>by rw[h]at hvs;cases hvs)) (fun b hb=>by rw[qr.mp hb];exact⟨_,hvs,rfl⟩) e.d
 have th:∀ b,b∈x::dx::G->cI H b:=fun b hb=>hu.r.there b hb
 have yx:∀ b∈Fy,b ∉ x::dx::G:=fun b hb z=>(th b z).no (fy b hb)
 have ky:∀ b∈Fy,∀ o,H1 b=some o->upd H1 x (.ins C dx (L2.dD f y (ns.zip vs))) b=some o:=fun b hb o h=>by
  rw[ai fun z=>yx b hb (by rw[z];exact j5)];exact h
 have ry:=hy.r.b6 tf1 (fun _ z=>z) ky
 have hd2:upd H1 x (.ins C dx (L2.dD f y (ns.zip vs))) dx=some (.own x):=by rw[ai nxd.symm];exact h2
 have hx2:upd H1 x (.ins C dx (L2.dD f y (ns.zip vs))) x=some (.ins C dx ((putN f ns).zip (eD f y ns vs))):=by rw[aw,BK (by omega)]
 obtain⟨F',q1,q2,q3⟩:∃ F',ak K dl (upd H1 x (.ins C dx (L2.dD f y (ns.zip vs)))) (eD f y ns vs) (eD f ty ns ts) F'/\F'.Nodup/\∀ b∈F',b∈G\/b∈Fy:=by
  have nG:G.Nodup:=(Xm.mp (Xm.mp nu).2).2;cases hl:(ns.zip ts).lookup f with
  | none =>
   refine⟨G++(Fy ++ []),ak.II ry (h4.b6 tf1 (fun _ z=>z) fun b hb o h=>by rw[zX nxG hb];exact h) h3 hl,?_,fun b hb=>?_⟩
   ·rw[Xh];exact XT.mpr ⟨nG,ny,fun a ha b hb z=>yx b hb (by rw[<- z];exact Es _ (Es _ ha))⟩
   ·rw[Xh]at hb;exact Xj.mp hb
  | some c =>
   obtain⟨w1,Fc,G1,_,_,a3,a4⟩:=h4.fld hl;obtain⟨F',q1,q2⟩:=a4 _ y ty Fy tf1 (fun b hb o h=>by rw[zX nxG (a3.mem_iff.mpr (W7 _ hb))];exact h) ry
   have n1:=(XT.mp (a3.nodup_iff.mp nG)).2.1;refine⟨F',q1,q2.nodup_iff.mpr (XT.mpr ⟨ny,n1,fun a ha b hb z=>yx a ha (by rw[z];exact Es _ (Es _ (a3.mem_iff.mpr (W7 _ hb))))⟩),fun b hb=>?_⟩
   rcases Xj.mp (q2.mem_iff.mp hb)with z|z
   ·exact .inr z
   ·exact .inl (a3.mem_iff.mpr (W7 _ z))
 have out:∀ b∈F',b≠x/\b≠dx:=fun b hb=>by
  rcases q3 b hb with z|z
  ·exact⟨fun e=>nxG (e▸z),fun e=>(Xm.mp (Xm.mp nu).2).1 (e▸z)⟩
  ·exact⟨fun e=>yx b z (by rw[e];exact j5),fun e=>yx b z (by rw[e];exact Es _ j5)⟩
 refine⟨x::dx::F',⟨.om hx2 hd2 (B7 (by omega)) q1,fun b hb=>?_⟩,Xm.mpr ⟨fun z=>?_,Xm.mpr ⟨fun z=>(out dx z).2 rfl,q2⟩⟩,fun b hb=>?_⟩
 ·rcases QH.mp hb with z|hb
  ·rw[z];exact hu.n x j5
  ·rcases QH.mp hb with z|hb
   ·rw[z];exact hu.n dx (Es _ j5)
   ·rcases q3 b hb with z|z
    ·exact hu.n b (Es _ (Es _ z))
    ·exact hy.n b z
 ·rcases QH.mp z with z|z
  ·exact nxd z
  ·exact(out x z).1 rfl
 ·rcases QH.mp hb with z|hb
  ·rw[z];exact .inl j5
  ·rcases QH.mp hb with z|hb
   ·rw[z];exact .inl (Es _ j5)
   ·rcases q3 b hb with z|z
    ·exact .inl (Es _ (Es _ z))
    ·exact .inr (fy b z)
end
section
variable{X:Cx}{K:W.Frag}{a b e o:Expr}{es:List Expr}{te tb tv:TE}{qe qb qv:QE}{tl:TA}{qa:QA}{ql:QL}{pos pos' apos aT ef FN:Pos}{f:Str}{C:Addr}
def Sd(j:Nat)(C:Addr)(f:Str)(ql:QL)(qv:QE):QS:=fun D q=>qv q fun y=>ql q fun p u=>match u with
 | .om x C' ns ts=>C'=C/\ns.length<1000/\∃ t,q[j]? = some (.o t)/\D.nx (q.set j (.o (T.put (.om x C (putN f ns) (eD f y ns ts)) p t)))
 | _=>False
theorem c8(hc:Cls K C)(hn:bw K C f)(he:QPL X K j o te ql)(hv:QPF X K b tv qv)(hs:swapsWith b (some (.Attribute o f pos')) pos.line X.env=pure false:=by rfl)(hK:X.K=K:=by rfl) :
  QPS X K (.Assign [.Attribute o f pos'] b pos) (RP K te tv f) (Sd j C f ql qv):=⟨by subst hK;exact v9 he.h hv.h hs,fun dl H₀ hs H σ q Dq D ⟨F,r⟩ hq E=>by
 refine hv.s dl H σ q _ _ r.rd hq fun y ty Fy H1 e1 r1 f1 n1 hz=>?_
 refine he.s dl H1 σ q _ _ (r.rd.evo e1) hz fun t v p u w hj hv' hs hw hz=>?_
 split at hz
 ·rename_i x C' ns ts;obtain⟨rfl,hl,t',hj',hz⟩:=hz;rw[hj]at hj';cases hj';obtain⟨v2,w2,Fu,hv2,hw2,ru,nu,md⟩:=r.mod hj hs;rw[hv']at hv2;cases hv2;cases hw.uniq (hw2 H1 e1);obtain⟨dx,vs,G,rfl,rfl,h1,h2,h3,h4⟩:=ru.r.omm;have hl4:=h4.len;have hx1:=e1.k x _ h1 (ru.n x j5) (fun _ z=>nomatch z)
  obtain⟨Fu',q1,q2,q3⟩:=Rp.dD (f:=f) ru e1 r.d hx1 r1 nu n1 f1 (by omega)
  obtain⟨F',r'⟩:=md _ _ Fu' (fW.ye e1 j5 ru.n fun xs h=>by rw[h]at h1;cases h1) q1 q2 q3
  exact⟨x,_,dx,_,rfl,hx1,hc,hn,by rw[Yd];omega,E.nx _ σ _ ⟨_,r'⟩ hz⟩
 ·exact hz.elim⟩
end
variable{l:Addr}{G:List Addr}{d:Addr}
section
variable{X:Cx}{K:W.Frag}{dl:Dl}
theorem Rp.putL{w:V}{xs ys:List T}{ws:List V}{G':List Addr}(hu:Rp K dl H w (.l xs) (l::G))(D:Dls dl H)(nu:(l::G).Nodup)(e:Evo dl H H1)(rs:ak K dl H1 ws ys G')(nG:∀ b∈G',Nd dl b)(hn:G'.Nodup)(hG:∀ b∈G',b∈G\/H b=none) :
  Rp K dl (upd H1 l (.lst ws)) w (.l ys) (l::G')/\(l::G').Nodup/\(∀ b∈l::G',b∈l::G\/H b=none)/\fW dl H (l::G) (upd H1 l (.lst ws)):=by
 obtain⟨l',vs,G0,rfl,eG,h1,h2⟩:=hu.r.lst;injection eG with e1 eG
 subst e1 eG;have lG:l ∉ G':=fun z=>by
  rcases hG l z with z|z
  ·exact(Xm.mp nu).1 z
  ·rw[h1]at z;cases z
 have h1':=e.k l _ h1 (hu.n l j5) (fun _ z=>nomatch z)
 have tf1:TF H1 (upd H1 l (.lst ws)):=fW.tf (F:=[l]) (fW.ye (.refl e.d) (j5 (a:=l) (l:=[])) (fun b hb=>by rw[qr.mp hb];exact hu.n l j5) (fun xs _=>⟨ws,rfl⟩)) (fun b hb=>by rw[qr.mp hb];exact⟨_,h1',rfl⟩) e.d
 refine⟨⟨.l aw (rs.b6 tf1 (fun _ z=>z) fun b hb o h=>by rw[zX lG hb];exact h),fun b hb=>?_⟩,Xm.mpr ⟨lG,hn⟩,fun b hb=>?_,fW.ye e j5 hu.n fun xs _=>⟨ws,rfl⟩⟩
 ·rcases QH.mp hb with z|z
  ·rw[z];exact hu.n l j5
  ·exact nG b z
 ·rcases QH.mp hb with z|z
  ·rw[z];exact .inl j5
  ·exact(hG b z).imp (Es _) id
theorem Rp.putD{w:V}{xs ys:List (Key×T)}{ws:List (Key×V)}(hu:Rp K dl H w (.d xs) (d::G))(D:Dls dl H)(e:Evo dl H H1)(rs:aG K dl H1 ws ys []) :
  Rp K dl (upd H1 d (.dK ws)) w (.d ys) [d]/\fW dl H (d::G) (upd H1 d (.dK ws)):=by
 obtain⟨d',vs,G0,rfl,eG,h1,h2⟩:=hu.r.dic;injection eG with e1 eG
 subst e1 eG;have h1':=e.k d _ h1 (hu.n d j5) (fun _ z=>nomatch z)
 have tf1:TF H1 (upd H1 d (.dK ws)):=fW.tf (F:=[d]) (fW.ye (.refl e.d) (j5 (a:=d) (l:=[])) (fun b hb=>by rw[qr.mp hb];exact hu.n d j5) (fun xs h=>by rw[h]at h1';cases h1')) (fun b hb=>by rw[qr.mp hb];exact⟨_,h1',rfl⟩) e.d
 exact⟨⟨.d aw (rs.b6 tf1 (fun _ z=>z) fun _ z=>nomatch z),fun b hb=>by rw[qr.mp hb];exact hu.n d j5⟩,fW.ye e j5 hu.n fun xs h=>by rw[h]at h1;cases h1⟩
end
section
variable{X:Cx}{K:W.Frag}{a b e o:Expr}{es:List Expr}{te tb tk tv:TE}{qe qb qk qv:QE}{tl:TA}{qa:QA}{ql:QL}{pos pos' apos aT ef FN:Pos}{f:Str}{C:Addr}
def SD(j:Nat)(C:Addr)(f:Str)(ql:QL)(qv:QE):QS:=fun D q=>ql q fun p u=>match u with
 | .om x C' ns ts=>C'=C/\ns.length<1000/\∃ n,(ns.zip ts).lookup f=some (.i n)/\qv q fun y=>match y with
  | .i m=>∃ t,q[j]? = some (.o t)/\D.nx (q.set j (.o (T.put (.om x C (putN f ns) (eD f (.i (n+m)) ns ts)) p t)))
  | _=>False
 | _=>False
theorem vX(hc:Cls K C)(hn:bw K C f)(hop:Qs X .Add OM)(he:QPL X K j o te ql)(hv:QPE X K b tv qv)(hK:X.K=K:=by rfl) :
  QPS X K (.AugAssign (.Attribute o f FN) .Add b pos) (BY K te tv OM f) (SD j C f ql qv):=⟨by subst hK;exact DE he.h hv.h hop,fun dl H₀ hs H σ q Dq D ⟨F,r⟩ hq E=>by
 refine he.s dl H σ q _ _ r.rd hq fun t v p u w hj hv' hs hw hz=>?_
 split at hz
 ·rename_i x C' ns ts;obtain⟨rfl,hl,n,hlk,hz⟩:=hz;obtain⟨v2,w2,Fu,hv2,hw2,ru,nu,md⟩:=r.mod hj hs;rw[hv']at hv2;cases hv2;cases hw.uniq (hw2 H (.refl r.d));obtain⟨dx,vs,G,rfl,rfl,h1,h2,h3,h4⟩:=ru.r.omm;obtain⟨w1,_,_,l1,l2,_⟩:=h4.fld hlk;obtain⟨rfl,_⟩:=l2.int;refine⟨x,_,dx,_,_,rfl,h1,hc,hn,l1,hv.s dl H σ q _ _ r.rd hz fun y ty Fy H1 e1 r1 hz=>?_⟩
  split at hz
  ·rename_i m;obtain⟨t',hj',hz⟩:=hz;rw[hj]at hj';cases hj';obtain⟨rfl,rfl⟩:=r1.r.int;have hl4:=h4.len;have hx1:=e1.k x _ h1 (ru.n x j5) (fun _ z=>nomatch z)
   obtain⟨Fu',q1,q2,q3⟩:=Rp.dD (f:=f) (y:=.int (n+m)) (ty:=.i (n+m)) (Fy:=[]) ru e1 r.d hx1 ⟨.i _,fun _ z=>nomatch z⟩ nu W2 (fun _ z=>nomatch z) (by omega)
   obtain⟨F',r'⟩:=md _ _ Fu' (fW.ye e1 j5 ru.n fun xs h=>by rw[h]at h1;cases h1) q1 q2 q3
   exact⟨n,m,rfl,rfl,dx,_,hx1,by rw[Yd];omega,E.nx _ σ _ ⟨_,r'⟩ hz⟩
  ·exact hz.elim
 ·exact hz.elim⟩
def SE(j:Nat)(ql:QL)(qv:QE):QS:=fun D q=>ql q fun p u=>match u with
 | .l xs=>xs.length<WT/\qv q fun y=>∃ t,q[j]? = some (.o t)/\D.nx (q.set j (.o (T.put (.l (xs ++ [y])) p t)))
 | _=>False
theorem K5(he:QPL X K j o te ql)(hv:QPF X K e tv qv)(hK:X.K=K:=by rfl)(c6:attributeBase o "append" X.env (eval o X.env)=eval o X.env:=by rfl)
  (kR:((backTo aT (QX [e] X.env)).all (fun x=>!x.1)&&(backToKw aT (keywordEach [] X.env)).all (fun x=>x.1.isSome)
   && decide (([e]:List Expr).length+([]:List Keyword).length+(if([]:List Keyword).isEmpty then 0 else 1)<30))=true:=by rfl)
  (c5:(apos.endLine==aT.line)=true:=by rfl) (hs:QX [e] X.env =(false,eval e X.env)::QX [] X.env:=by rfl) (cF:(backTo aT (QX [] X.env)).any (·.1)=false:=by rfl)
  (hsw:swapsWith (.Call (.Attribute o "append" apos) [e] [] aT) none ef.line X.env=pure false:=by rfl) :
  QPS X K (.Expr (.Call (.Attribute o "append" apos) [e] [] aT) ef) (jP (tBM K "list" nK te (fY tv iS))) (SE j ql qv) :=
 ⟨jr (by subst hK;exact uV PySem.F.plainAttrs_list PySem.F.slot_list_append PySem.F.type_list_append uX he.h (bV hv.h gN hs) c6 kR c5 hs cF) hsw,fun dl H₀ hs H σ q Dq D ⟨F,r⟩ hq E=>by
 refine he.s dl H σ q _ _ r.rd hq fun t v p u w hj hv' hs hw hz=>?_
 split at hz
 ·rename_i xs;obtain⟨hl,hz⟩:=hz;obtain⟨v2,w2,Fu,hv2,hw2,ru,nu,md⟩:=r.mod hj hs;rw[hv']at hv2;cases hv2;cases hw.uniq (hw2 H (.refl r.d));obtain⟨l,vs,G,rfl,rfl,h1,h2⟩:=ru.r.lst;refine⟨.inl ⟨rfl,vs,SqL.of h1⟩,hv.s dl H σ q _ _ r.rd hz fun y ty Fy H1 e1 r1 f1 n1 hz=>?_⟩
  obtain⟨t',hj',hz⟩:=hz;rw[hj]at hj';cases hj';have ru1:=ru.evo r.d e1;obtain⟨l',vs',G',el,eG,h1',h2'⟩:=ru1.r.lst;cases el;cases eG;have e0:=e1.k l _ h1 (ru.n l j5) (fun _ z=>nomatch z)
  rw[e0]at h1';cases h1';obtain⟨q1,q2,q3,q4⟩:=Rp.putL ru r.d nu e1 (h2'.append (.cons r1.r .nil)) (fun b hb=>by
   rw[Xh]at hb;rcases Xj.mp hb with z|z
   ·exact ru.n b (Es _ z)
   ·exact r1.n b z) (by
   rw[Xh];exact XT.mpr ⟨(Xm.mp nu).2,n1,fun a ha b hb z=>(ru.r.there a (Es _ ha)).no (f1 a (by rw[z];exact hb))⟩) (fun b hb=>by
   rw[Xh]at hb;rcases Xj.mp hb with z|z
   ·exact .inl z
   ·exact .inr (f1 b z))
  obtain⟨F',r'⟩:=md _ _ _ q4 q1 q2 q3;exact⟨l,_,y,rfl,rfl,e0,by rw[h2.len];exact hl,E.nx _ σ _ ⟨_,r'⟩ hz⟩
 ·exact hz.elim⟩
def Se(j:Nat)(ql:QL)(qk qv:QE):QS:=fun D q=>qv q fun y=>ql q fun p u=>match u with
 | .d xs=>qk q fun z=>match z.key with
  | some k=>xs.length<WT/\T.imk xs=true/\y.im=true/\∃ t,q[j]? = some (.o t)/\D.nx (q.set j (.o (T.put (.d (dC xs k y)) p t)))
  | none=>False
 | _=>False
theorem KY(hu:X.A.units+1<cLine)(he:QPL X K j o te ql)(hk:QPE X K a tk qk)(hv:QPE X K b tv qv)(hs:swapsWith b (some (.Subscript o a pos')) pos.line X.env=pure false:=by rfl) :
  QPS X K (.Assign [.Subscript o a pos'] b pos) (uN te tk tv) (Se j ql qk qv):=⟨lO hu he.h hk.h hv.h hs,fun dl H₀ hs H σ q Dq D ⟨F,r⟩ hq E=>by
 refine hv.s dl H σ q _ _ r.rd hq fun y ty Fy H1 e1 r1 hz=>?_
 refine he.s dl H1 σ q _ _ (r.rd.evo e1) hz fun t v p u w hj hv' hs hw hz=>?_
 split at hz
 ·rename_i xs;refine hk.s dl H1 σ q _ _ (r.rd.evo e1) hz fun z tz Fz H2 e2 r2 hz=>?_
  split at hz
  ·rename_i k ek;obtain⟨hl,im1,im2,t',hj',hz⟩:=hz;rw[hj]at hj';cases hj';obtain⟨v2,w2,Fu,hv2,hw2,ru,nu,md⟩:=r.mod hj hs;rw[hv']at hv2;cases hv2;cases hw.uniq (hw2 H1 e1);obtain rfl:=r1.r.im im2;have e12:=e1.trans e2;obtain⟨d,vs,G,rfl,rfl,h1,h2⟩:=ru.r.dic;obtain rfl:=h2.im im1;have h1':=e12.k d _ h1 (ru.n d j5) (fun _ z=>nomatch z)
   rw[r2.r.key ek];obtain⟨q1,q2⟩:=Rp.putD ru r.d e12 (aG.put (r1.evo e1.d e2).r (h2.b6 (e12.tf r.d) (fun _ z=>z) fun _ z=>nomatch z))
   obtain⟨F',r'⟩:=md _ _ _ q2 q1 (by simp) (fun b hb=>by rw[qr.mp hb];exact .inl j5)
   exact⟨d,_,rfl,tT.k h1' (by rw[h2.len];exact hl),E.nx _ σ _ ⟨_,r'⟩ hz⟩
  ·exact hz.elim
 ·exact hz.elim⟩
end
theorem fW.pre{dl:Dl}{F:List Addr}(e:Evo dl H H1)(f:fW dl H1 F H')(hn:∀ b∈F,Nd dl b):fW dl H F H' where
 k:=fun b o h nb n nr=>f.k b o (e.k b o h n nr) nb n nr
 r:=fun b x h nb=>let⟨y,hy,e1⟩:=e.r b x h;let⟨z,hz,e2⟩:=f.r b y e1 nb;⟨z,X9 hz hy,e2⟩
 l:=fun b xs hb h=>f.l b xs hb (e.k b _ h (hn b hb) fun _ z=>nomatch z)
 d:=f.d
variable{n:Nat}{H₀:Hp}{q:Sq}
section
variable{X:Cx}{K:W.Frag}{k:Nat}{a b e o:Expr}{es:List Expr}{te to:TE}{qo:QE}{tl:TA}{qa:QA}{ql:QL}{pos pos' apos aT ef:Pos}{m:Str}{C f:Addr}{fd:FuncData}{prs:List Str}{ps:PSp}{pl:j8}
def Ar(C:Addr)(m:Str)(ps:PSp)(qo:QE)(qa:QA):QE:=fun q Q=>qo q fun t=>match t with
 | .om x C' ns ts=>C'=C/\(ns.zip ts).lookup m=none/\qa q fun us=>ps (.om x C' ns ts::us) Q
 | _=>False
theorem uM(ho:j6 K to qo)(ha:BD K n tl qa):m5 K (mn C m (spQ K ps) [] E0 to tl) (Ar C m ps qo qa):=fun dl H σ q Q R rd hq kk=>ho dl H σ q _ _ rd hq fun w t Fu H1 e1 r1 hz=>by
 split at hz
 ·rename_i x C' ns ts;obtain⟨rfl,hl,hz⟩:=hz;obtain⟨dx,vs,G,rfl,rfl,h1,h2,h3,h4⟩:=r1.r.omm;refine⟨x,dx,_,rfl,h1,(HX h4.len).mp hl,ha dl H1 σ q _ _ (rd.evo e1) hz fun ws us Fa H2 e2 r2 _ hz=>?_⟩
  show spQ K ps (V.ref x ::(ws ++ [])) H2 _ _;rw[Xh];have r1':=r1.evo e1.d e2;refine⟨dl,_,_,_,e2.d,⟨.cons r1'.r r2.r,fun b hb=>(Xj.mp hb).elim (r1'.n b) (r2.n b)⟩,hz,fun v t F' H' e3 r3 f3 n3 hz=>kk v t F' H' ((e1.trans e2).trans e3) r3 (fun b hb=>(e1.trans e2).free (f3 b hb)) n3 hz⟩
 ·exact hz.elim
theorem yz(hc:Cls K C)(hm:Meth K C m f)(G:aP X.prog X.w X.K X.mg X.base CX0 k f fd prs (spQ K ps))(hr:bT k X.A)(hb:Binds K fd prs [])(ho:QPE X K o to qo)(ha:QPA X K (e::es) tl qa)(hK:X.K=K:=by rfl)
  {plb:Sem Bool} (hst:QX (e::es) X.env =(false,eval e X.env)::QX es X.env:=by rfl) (hpl:(backTo pos (QX es X.env)).any (·.1)=false:=by rfl)
  (ht:eval (.Call (.Attribute o m apos) (e::es) [] pos) X.env =(do
   let ov <- eval o X.env
   standAt apos.atName
   let(f,first) <- holding [ov] (getMethod ov m plb)
   callWith pos f first (backTo pos (QX (e::es) X.env)) (backToKw pos (keywordEach [] X.env))):=by rfl) :
  QPF X K (.Call (.Attribute o m apos) (e::es) [] pos) (mn C m (spQ K ps) [] E0 to tl) (Ar C m ps qo qa):=⟨by subst hK;exact Ce ho.h hc hm G hr hb .nil kB ha.h hst hpl ht,uM ho.s ha.s⟩
theorem nk:BD K 0 iS (fun _ Q=>Q []):=fun dl H σ q Q R rd hq kk=>kk [] [] [] H (.refl rd.d) ⟨.nil,fun _ z=>nomatch z⟩ rfl hq
theorem bq(hc:Cls K C)(hm:Meth K C m f)(G:aP X.prog X.w X.K X.mg X.base CX0 k f fd prs (spQ K ps))(hr:bT k X.A)(hb:Binds K fd prs [])(ho:QPE X K o to qo)(hK:X.K=K:=by rfl)
  {plb:Sem Bool} (ht:eval (.Call (.Attribute o m apos) [] [] pos) X.env =(do
   let ov <- eval o X.env
   standAt apos.atName
   let(f,first) <- holding [ov] (getMethod ov m plb)
   callWith pos f first (backTo pos (QX [] X.env)) (backToKw pos (keywordEach [] X.env))):=by rfl) :
  QPF X K (.Call (.Attribute o m apos) [] [] pos) (mn C m (spQ K ps) [] E0 to iS) (Ar C m ps qo fun _ Q=>Q []):=⟨by subst hK;exact nV ho.h hc hm G hr hb .nil kB ht,uM ho.s nk⟩
def rN(j:Nat)(C:Addr)(m:Str)(pl:j8)(ql:QL)(qa:QA)(q:Sq)(R:T->Sq->Prop):Prop:=ql q fun p u=>match u with
 | .om x C' ns ts=>C'=C/\(ns.zip ts).lookup m=none/\qa q fun us=>T.ims us=true/\pl (.om x C' ns ts::us) fun r u'=>u'.adr=some x/\r.im=true/\∃ t,q[j]? = some (.o t)/\R r (q.set j (.o (T.put u' p t)))
 | _=>False
theorem lH{dl:Dl}{hs:List (V×T)}{σ:St}{R:T->Sq->Prop}{Q:VK}(ho:UJ K j to ql)(ha:BD K n tl qa)(hr:fu K dl H₀ hs H σ q)(hq:rN j C m pl ql qa q R)
  (kk:∀ v r q' H',fu K dl H₀ hs H' σ q'->Rp K dl H' v r []->R r q'->Q v H'):mn C m (spL K 0 pl) [] E0 to tl σ H Q:=by
 obtain⟨F,r⟩:=hr;refine ho dl H σ q _ _ r.rd hq fun t v p u w hj hv hs' hw hz=>?_
 split at hz
 ·rename_i x C' ns ts;obtain⟨rfl,hl,hz⟩:=hz;obtain⟨v2,w2,Fu,hv2,hw2,ru,nu,md⟩:=r.mod hj hs';rw[hv]at hv2;cases hv2;cases hw.uniq (hw2 H (.refl r.d));obtain⟨dx,vs,G,rfl,eF,h1,h2,h3,h4⟩:=ru.r.omm;refine⟨x,dx,_,rfl,h1,(HX h4.len).mp hl,ha dl H σ q _ _ r.rd hz fun ws us Fa H2 e2 r2 _ hz=>?_⟩
  obtain⟨him,hz⟩:=hz;show spL K 0 pl (V.ref x ::(ws ++ [])) H2 _ _;rw[Xh];refine⟨dl,_,.ref x,.om x C' ns ts,Fu,_,e2.d,by rw[Xn,Xn,r2.r.len],rfl,rfl,ru.evo r.d e2,nu,.im fun i v t ne a1 a2=>?_,hz,fun v rr Fr t' F' H' ug rp' n' hF' rv _ _ _ hz=>?_⟩
  ·cases i with
   | zero=>exact absurd rfl ne
   | succ i=>exact⟨r2.r.im1 him i v t (by simpa using a1) (by simpa using a2),fun _ z=>nomatch z⟩
  ·obtain⟨_,ri,t0,hj0,hz⟩:=hz;rw[hj]at hj0;cases hj0;obtain⟨F2,r'⟩:=md H' t' F' (ug.pre e2 ru.n) rp' n' fun b hb=>(hF' b hb).imp id e2.free
   obtain rfl:=rv.r.im ri;exact kk v rr _ H' ⟨F2,r'⟩ rv hz
 ·exact hz.elim
theorem cY(hc:Cls K C)(hm:Meth K C m f)(G:aP X.prog X.w X.K X.mg X.base CX0 k f fd prs (spL K 0 pl))(hr:bT k X.A)(hb:Binds K fd prs [])(ho:QPL X K j o to ql)(ha:QPA X K (e::es) tl qa)(hK:X.K=K:=by rfl)
  {plb:Sem Bool} (hst:QX (e::es) X.env =(false,eval e X.env)::QX es X.env:=by rfl) (hpl:(backTo pos (QX es X.env)).any (·.1)=false:=by rfl)
  (ht:eval (.Call (.Attribute o m apos) (e::es) [] pos) X.env =(do
   let ov <- eval o X.env
   standAt apos.atName
   let(f,first) <- holding [ov] (getMethod ov m plb)
   callWith pos f first (backTo pos (QX (e::es) X.env)) (backToKw pos (keywordEach [] X.env))):=by rfl) (hs:swapsWith (.Call (.Attribute o m apos) (e::es) [] pos) none ef.line X.env=pure false:=by rfl) :
  QPS X K (.Expr (.Call (.Attribute o m apos) (e::es) [] pos) ef) (jP (mn C m (spL K 0 pl) [] E0 to tl)) (fun D q=>rN j C m pl ql qa q fun _ q'=>D.nx q') :=
 ⟨jr (by subst hK;exact Ce ho.h hc hm G hr hb .nil kB ha.h hst hpl ht) hs,fun dl H₀ hs H σ q Dq D r hq E=>lH ho.s ha.s r hq fun v rr q' H' r' _ hz=>E.nx H' σ q' r' hz⟩
theorem uR(hc:Cls K C)(hm:Meth K C m f)(G:aP X.prog X.w X.K X.mg X.base CX0 k f fd prs (spL K 0 pl))(hr:bT k X.A)(hb:Binds K fd prs [])(ho:QPL X K j o to ql)(hK:X.K=K:=by rfl)
  {plb:Sem Bool} (ht:eval (.Call (.Attribute o m apos) [] [] pos) X.env =(do
   let ov <- eval o X.env
   standAt apos.atName
   let(f,first) <- holding [ov] (getMethod ov m plb)
   callWith pos f first (backTo pos (QX [] X.env)) (backToKw pos (keywordEach [] X.env))):=by rfl) (hs:swapsWith (.Call (.Attribute o m apos) [] [] pos) none ef.line X.env=pure false:=by rfl) :
  QPS X K (.Expr (.Call (.Attribute o m apos) [] [] pos) ef) (jP (mn C m (spL K 0 pl) [] E0 to iS)) (fun D q=>rN j C m pl ql (fun _ Q=>Q []) q fun _ q'=>D.nx q') :=
 ⟨jr (by subst hK;exact nV ho.h hc hm G hr hb .nil kB ht) hs,fun dl H₀ hs H σ q Dq D r hq E=>lH ho.s nk r hq fun v rr q' H' r' _ hz=>E.nx H' σ q' r' hz⟩
theorem ak.each{dl:Dl}{vs:List V}{ts:List T}{F:List Addr}(h:ak K dl H vs ts F):∃ G:Nat->List Addr,(∀ i v t,vs[i]? = some v->ts[i]? = some t->ax K dl H v t (G i)/\∀ b∈G i,b∈F)/\∀ i,ts.length<=i->G i = [] :=
 h.ind (M:=fun vs ts F=>∃ G:Nat->List Addr,(∀ i v t,vs[i]? = some v->ts[i]? = some t->ax K dl H v t (G i)/\∀ b∈G i,b∈F)/\∀ i,ts.length<=i->G i = []) ⟨fun _=>[],fun i v t h=>by simp at h,fun _ _=>rfl⟩ fun v x vs ts F1 F2 r _ ih=>by
  obtain⟨G,g1,g2⟩:=ih;refine⟨fun i=>match i with | 0=>F1|i+1=>G i,fun i w t h1 h2=>?_,fun i hi=>?_⟩
  ·cases i with
   | zero=>cases h1;cases h2;exact⟨r,fun b hb=>Xf _ hb⟩
   | succ i=>exact⟨(g1 i w t (by simpa using h1) (by simpa using h2)).1,fun b hb=>W7 _ ((g1 i w t (by simpa using h1) (by simpa using h2)).2 b hb)⟩
  ·cases i with
   | zero=>simp at hi
   | succ i=>exact g2 i (by simpa using hi)
def G4(C:Addr)(pl:j8)(qa:QA):QE:=fun q Q=>qa q fun us=>∀ x,pl (.om x C [] []::us) fun r u'=>r = .n/\u'.adr=some x/\Q u'
theorem Dt(ha:BD K n tl qa):m5 K (FT C (spL K 0 pl) [] E0 tl) (G4 C pl qa):=fun dl H σ q Q R rd hq kk=>ha dl H σ q _ _ rd hq fun ws us Fa H1 e1 r1 _ hz=>by
 intro x dx nx ndx ne;show spL K 0 pl (V.ref x ::(ws ++ [])) _ _ _;rw[Xh];have e2:Evo dl H1 (upd (upd H1 dx (.own x)) x (.ins C dx [])):=((Evo.refl e1.d).new ndx).new (by rw[ai ne.symm];exact nx)
 have r2:=r1.evo e1.d e2;have ro:Rp K dl (upd (upd H1 dx (.own x)) x (.ins C dx [])) (.ref x) (.om x C [] []) [x,dx]:=⟨.om (vs:=[]) aw (by rw[ai ne,aw]) rfl .nil,fun b hb=>by
  rcases QH.mp hb with z|z
  ·rw[z];exact e1.d.nd0 nx
  ·rw[qr.mp z];exact e1.d.nd0 ndx⟩
 refine⟨dl,_,.ref x,.om x C [] [],[x,dx],_,e2.d,by rw[Xn,Xn,r2.r.len],rfl,rfl,ro,by simp[ne.symm],?_,hz x,fun v rr Fr t' F' H' ug rp' n' hF' rv _ _ _ hz=>?_⟩
 ·obtain⟨G,g1,g2⟩:=r1.r.each;refine⟨fun i=>match i with | 0=>[]|i+1=>G i,fun i v t hi a1 a2=>?_,fun i hi=>?_⟩
  ·cases i with
   | zero=>exact absurd rfl hi
   | succ i =>
    obtain⟨p1,p2⟩:=g1 i v t (by simpa using a1) (by simpa using a2)
    have rp:Rp K dl H1 v t (G i):=⟨p1,fun b hb=>r1.n b (p2 b hb)⟩
    refine⟨rp.evo e1.d e2,fun b hb z=>?_⟩
    have th:=p1.there b hb;rcases QH.mp z with z|z
    ·rw[z]at th;exact th.no nx
    ·rw[qr.mp z]at th;exact th.no ndx
  ·cases i with
   | zero=>rfl
   | succ i=>exact g2 i (by simpa using hi)
 ·obtain⟨rfl,_,hz⟩:=hz;obtain⟨rfl,_⟩:=rv.r.non;have out:∀{b:Addr}{o:HO},H b=some o->b ∉ [x,dx]:=fun{b o} h z=>by
   rcases QH.mp z with z|z
   ·rw[z,e1.free nx]at h;cases h
   ·rw[qr.mp z,e1.free ndx]at h;cases h
  have ev:Evo dl H H':=⟨fun b o h n nr=>ug.k b o (e2.k b o (e1.k b o h n nr) n nr) (out h) n nr,ug.d,fun b y h=>let⟨y1,l1,h1⟩:=(e1.trans e2).r b y h;let⟨y2,l2,h2⟩:=ug.r b y1 h1 (out h);⟨y2,X9 l2 l1,h2⟩⟩
  refine⟨rfl,kk _ t' F' H' ev rp' (fun b hb=>?_) n' hz⟩
  rcases hF' b hb with z|z
  ·rcases QH.mp z with z|z
   ·rw[z];exact e1.free nx
   ·rw[qr.mp z];exact e1.free ndx
  ·exact(e1.trans e2).free z
theorem km(M:Mk K C f)(G:aP X.prog X.w X.K X.mg X.base CX0 k f fd prs (spL K 0 pl))(hr:bT (k+1) X.A)(hg:Gl X x)(hm:X.mg x=some (.ref C))(hb:Binds K fd prs [])(ha:QPA X K (e::es) tl qa)(hK:X.K=K:=by rfl)
  (hdb:(x ==("__debug__":Str))=false:=by decide) (hst:QX (e::es) X.env =(false,eval e X.env)::QX es X.env:=by rfl) (hpl:(backTo pos (QX es X.env)).any (·.1)=false:=by rfl) :
  QPF X K (.Call (.Name x pos') (e::es) [] pos) (FT C (spL K 0 pl) [] E0 tl) (G4 C pl qa):=⟨by subst hK;exact LB M G hr hg hm hb .nil kB ha.h hdb hst hpl,Dt ha.s⟩
end
abbrev QTL:=Sq ->(Bool->Sq->Prop)->Prop
def Oc(K:W.Frag)(tc:TT)(qc:QTL):Prop:=∀(dl:Dl)(H₀:Hp)(hs:List (V×T))(H:Hp)(σ:St)(q:Sq)(R:Bool->Sq->Prop)(Q:Bool->Hp->Prop),fu K dl H₀ hs H σ q->qc q R ->(∀ b q' H',fu K dl H₀ hs H' σ q'->R b q'->Q b H')->tc σ H Q
structure uE(X:Cx)(K:W.Frag)(c:Expr)(tc:TT)(qc:QTL):Prop where
 h:PT X c tc
 s:Oc K tc qc
structure tN(X:Cx)(K:W.Frag)(c:Expr)(tc:TT)(qc:QTL):Prop where
 h:PW X c tc
 s:Oc K tc qc
section
variable{X:Cx}{K:W.Frag}{k:Nat}{a b c e o:Expr}{es rest:List Expr}{tA tB tc:TT}{qA:QT}{qa' qB qc:QTL}{te to:TE}{ql:QL}{pos apos:Pos}{m:Str}{C f:Addr}{fd:FuncData}{prs:List Str}{pl:j8}{body:List Stmt}{t:TS}{qt:QS}
theorem Ap(h:QPT X K a tA qA):uE X K a tA (fun q R=>qA q fun b=>R b q):=⟨h.h,fun dl H₀ hs H σ q R Q ⟨F,r⟩ hq kk=>h.s dl H σ q _ _ r.rd hq fun b H' e1 hz=>kk b q H' ⟨F,r.evo e1⟩ hz⟩
theorem tN.pt(h:tN X K a tA qa'):uE X K a tA qa':=⟨PW.pt h.h,h.s⟩
theorem GN(h:uE X K a tA qa'):tN X K (.BoolOp .And [a] pos) tA qa':=⟨v8 h.h,h.s⟩
theorem KS(h:uE X K a tA qa')(h2:tN X K (.BoolOp .And (b::rest) pos) tB qB):tN X K (.BoolOp .And (a::b::rest) pos) (Kf tA tB) (fun q R=>qa' q fun c q'=>if c=true then qB q' R else R false q'):=⟨As h.h h2.h,fun dl H₀ hs H σ q R Q r hq kk=>h.s dl H₀ hs H σ q _ _ r hq fun b q' H' r' hz=>by
 cases b with
 | true=>exact h2.s dl H₀ hs H' σ q' _ _ r' hz kk
 | false=>exact kk false q' H' r' hz⟩
theorem DA(hc:Cls K C)(hm:Meth K C m f)(G:aP X.prog X.w X.K X.mg X.base CX0 k f fd prs (spL K 0 pl))(hr:bT k X.A)(hb:Binds K fd prs [])(ho:QPL X K j o to ql)(hK:X.K=K:=by rfl)
  {plb:Sem Bool} (ht:eval (.Call (.Attribute o m apos) [] [] pos) X.env =(do
   let ov <- eval o X.env
   standAt apos.atName
   let(f,first) <- holding [ov] (getMethod ov m plb)
   callWith pos f first (backTo pos (QX [] X.env)) (backToKw pos (keywordEach [] X.env))):=by rfl)
  (he:∀ whole,isTrue (.Call (.Attribute o m apos) [] [] pos) X.env whole =(do let v <- whole;standAt (Expr.pos (.Call (.Attribute o m apos) [] [] pos));holding [v] (truthy v)):=by intro _;rfl) :
  uE X K (.Call (.Attribute o m apos) [] [] pos) (L2.tB (mn C m (spL K 0 pl) [] E0 to iS)) (fun q R=>rN j C m pl ql (fun _ Q=>Q []) q fun r q'=>match r with | .b x=>R x q' | _=>False) :=
 ⟨OZ (by subst hK;exact nV ho.h hc hm G hr hb .nil kB ht) he,fun dl H₀ hs H σ q R Q r hq kk=>lH ho.s nk r hq fun v rr q' H' r' rv hz=>by
  split at hz
  ·obtain⟨rfl,_⟩:=rv.r.bl;exact⟨_,rfl,kk _ q' H' r' hz⟩
  ·exact hz.elim⟩
inductive Qq(c:QTL)(tb:QS)(D:pR)(q:Sq):Prop
 | mk (W:Nat->Sq->Prop) (h0:∃ m,W m q) (turn:∀ m q,W m q->c q fun b q'=>if b=true then Ob tb D W m q' else D.nx q')
theorem DB(hp:Zt (model X.prog X.w) X.A X.env X.xe)(hc:uE X K c tc qc)(hb:m7 X K body t qt):QPS X K (.While c body [] pos) (vy tc t) (fun D q=>Qq qc qt D q):=⟨rP hp hc.h hb.h,fun dl H₀ hs H σ q Dq D r hq E=>by
 obtain⟨W,⟨m0,w0⟩,turn⟩:=hq;refine⟨fun m σ H=>∃ q,fu K dl H₀ hs H σ q/\W m q,⟨m0,q,r,w0⟩,?_⟩
 rintro m σ H ⟨q,r,w⟩
 refine hc.s dl H₀ hs H σ q _ _ r (turn m q w) fun b q1 H1 r1 hz=>?_
 cases b with
 | false=>exact E.nx H1 σ q1 r1 hz
 | true =>
  obtain⟨N,hN,hz⟩:=hz;refine⟨fun σ' H'=>∃ q',fu K dl H₀ hs H' σ' q'/\N q',fun σ' H' ⟨q',r',n'⟩=>?_,?_⟩
  ·obtain⟨m',hm,w'⟩:=hN q' n';exact⟨m',hm,q',r',w'⟩
  ·exact hb.s dl H₀ hs H1 σ q1 _ _ r1 hz ⟨fun H σ q r n=>⟨q,r,n⟩,fun H σ q r n=>E.nx H σ q r n,fun H σ q r n=>⟨q,r,n⟩,E.rt,E.ru⟩⟩
end
end L2
namespace PySem
open Sem (wp)
section
variable{prog:Program}{w:World}{A:Around}{E:Value->Shared->Prop}
theorem uh:typeLookup (.type "zip") "keys" = pure none:=am_miss_of_fast (by decide +kernel)
theorem mj:typeLookup (.type "zip") "__getattr__" = pure none:=by rw[typeLookup_type,builtinLookup_eq_fast];kernel_rfl
theorem hU:entryFor table "zip.__getattribute__" = some Builtin.«object.__getattribute__» :=
 entryFor_alias (id':="object.__getattribute__") (by kernel_rfl) (by decide +kernel) (by decide +kernel) (by kernel_rfl)
theorem sk(a:Addr)(vs:Array Value)(sl:Array (Option Value))(u:Tok) :
  Meets (Builtin.«object.__getattribute__» ⟨[.ref a,.str "keys" u],[]⟩) (fun A R s=>s.heap.get? a=some { cls:=.type "zip",dict:=none,data:=.fields vs,slots:=sl }/\raisesAttr (.ref a) "keys" A R s) :=
 Meets.of_wp fun prog w A R s hs=>by
  obtain⟨hp,g,d,tk,os⟩:=s;obtain⟨hx,hs⟩:=hs;have hT:(⟨hp,g,d,tk,os⟩:Shared).TypeIs (.ref a) "zip":=⟨_,hx,rfl⟩;have W0:=uh;have sQ:(["__module__","__name__","__qualname__","__doc__","__annotations__"]:List Str).contains (Str.ofString "keys")=false:=by decide +kernel
  unfold Builtin.«object.__getattribute__»
  repeat (any_goals (first|assumption|wp_step))
  try simp only[sQ,X2,if_false]
  repeat (any_goals (first|assumption|wp_step))
  exact wpAny_raiseAttrError hs.1 hs.2 (attrMsg_fits (by decide +kernel) (by size_fits))
set_option maxRecDepth 8000 in
theorem uk{s:Shared}{a:Addr}{vs:Array Value}{sl:Array (Option Value)}{Q:Option Value->Shared->Prop}
  (hx:s.heap.get? a=some { cls:=.type "zip",dict:=none,data:=.fields vs,slots:=sl }) (hA:A.handled=none)
  (h:∀ h' tk,(∀ b o,s.heap.get? b=some o->h'.get? b=some o)->Q none { s with heap:=h',toks:=tk }) :
  wpAny (model prog w) A (getAttr? (.ref a) "keys") Q E s:=by
 obtain⟨hp,g,d,tk,os⟩:=s;have hT:∀ tk',(⟨hp,g,d,tk',os⟩:Shared).TypeIs (.ref a) "zip":=fun _=>⟨_,hx,rfl⟩
 have f1:=sub_AttributeError;have f3:=F.slot_zip_getattribute.lookup;have f4:=F.slot_zip_getattribute.bind (.ref a);have f5:=mj;unfold getAttr? getAttrBy? getAttrBy
 repeat (any_goals (first|assumption|exact hT _ |((with_reducible show wpAny _ _ (call (Value.builtin "zip.__getattribute__") _ _) _ _ _);refine call_meets F.slot_zip_getattribute (hT _) hU (F.args_zip_getattribute_2 _ _) (sk a vs sl _) ⟨hx,hA,fun h' tk' e hx'=>?_⟩)|wp_step))
 obtain⟨t',u',he⟩:=hx'.there;show wpAny _ _ (getattributeRaised _ _ _ _ _ _ _) _ _ _;unfold getattributeRaised
 repeat (any_goals (first|assumption|wp_step))
 exact h _ _ hx'.keeps
end
end PySem
namespace L2
open PySem PySem.Spec PyProof.Rows
variable{R:Result->Shared->Prop}{S:Addr}{z:Addr}{i1:Addr}{i2:Addr}{l1:Addr}{l2:Addr}{ys:Array Value}{n:Nat}
section
variable{prog:Program}{w:World}{A:Around}{s:Shared}{κ:Type}[DecidableEq κ]{knd:KeyKind prog w κ}
theorem Kb{TI TO:Addr}{t1 t2:Bool}{xs:Array Value}{pairs:List (κ×Value)}(hh:A.handled=none)(D:ZipApart z TI TO i1 i2 l1 l2)(hzS:z≠S)(WA:TI≠S)(P9:TO≠S)(h1S:i1≠S)(h2S:i2≠S)(Wo:l1≠S)(Wn:l2≠S)
  (en:n=min xs.size ys.size) (hn:n<=WT) (hpl:pairs.length=n) (hpr:∀(i:Nat) x y,xs[i]? = some x->ys[i]? = some y->∃ k,pairs[i]? = some (k,y)/\knd.is k x=true) (res:Value) {h₁:Heap}
  (hR:∀ h' tk,(∀ b o,b≠S->b≠z->b≠TO->b≠i1->b≠i2->h₁.get? b=some o->h'.get? b=some o)->h'.DictOf knd S (merged [] pairs)->R (.ok (.ret res)) { s with heap:=h',toks:=tk }) :
  ∀(k i:Nat)(h:Heap)(tk:Nat),n - i=k->i<=n->ZSt h z TI TO i1 i2 l1 l2 S t1 t2 i->aX h t1 l1 xs->aX h t2 l2 ys ->(∀ b o,b≠S->b≠z->b≠TO->b≠i1->b≠i2->h₁.get? b=some o->h.get? b=some o) ->
   h.DictOf knd S (merged [] (pairs.take i))->codeAny (model prog w) A (.builtin "dict.update.loop" ⟨[.ref S,.ref z,rawInt i,res],[]⟩) R { s with heap:=h,toks:=tk }:=by
 intro k
 induction k with
 | zero =>
  intro i h tk hk hi hst hL1 hL2 Iv hS;have hin:i=n:=by omega
  refine YJ PySem.F.dY ?_;rw[Ym PySem.F.bx _];show wpAny _ A.in1 (pyNext (.ref z) >>= _) _ _ _;refine j2 (J9 (s:={ s with heap:=h,toks:=tk }) (A:=A.in1) hh D hst hL1 hL2 ?_ fun h' he=>?_)
  ·by_cases q:xs.size<=i
   ·exact .inl (Zf q)
   ·exact .inr (Zf (by omega))
  show wpAny _ A.in1 (Builtin.Dict.addKeywords S [] >>= _) _ _ _;refine j2 (TH (TH (hR h' tk (fun b o b1 b2 b3 b4 b5 e=>he b o b2 b3 b4 b5 (Iv b o b1 b2 b3 b4 b5 e)) ?_)))
  rw[hin,<- hpl,Xv]at hS;obtain⟨o,es,ep,ho,r⟩:=hS;exact⟨o,es,ep,he S o hzS.symm P9.symm h1S.symm h2S.symm ho,r⟩
 | succ k ih =>
  intro i h tk hk hi hst hL1 hL2 Iv hS;have hlt:i<n:=by omega
  obtain⟨x,hx⟩:∃ x,xs[i]? = some x:=⟨xs[i]'(by omega),by simp[show i<xs.size by omega]⟩
  obtain⟨y,hy⟩:∃ y,ys[i]? = some y:=⟨ys[i]'(by omega),by simp[show i<ys.size by omega]⟩
  obtain⟨key,hp1,hp2⟩:=hpr i x y hx hy;have WB:S<h.objs.size:=by obtain⟨_,_,_,e,_⟩:=hS;exact Xe e
  refine YJ PySem.F.dY ?_;rw[Ym PySem.F.bx _];show wpAny _ A.in1 (pyNext (.ref z) >>= _) _ _ _;refine j2 (J8 (s:={ s with heap:=h,toks:=tk }) (S:=S) D hst WB hL1 hL2 hx hy fun h' um ht hz hkp=>?_)
  dsimp only at ht hz hkp ⊢;have hS':h'.DictOf knd S (merged [] (pairs.take i)):=by
   obtain⟨o,es,ep,ho,r⟩:=hS;exact⟨o,es,ep,hkp S o hzS.symm P9.symm h1S.symm h2S.symm ho,r⟩
  show wpAny _ A.in1 (holding [Value.ref h.objs.size] _ >>= _) _ _ _;refine j2 (XJ ?_);refine j2 (wpAny_tryCatch ?_);unfold Builtin.Dict.pairItems;refine j2 (Yg (T:="tuple") ⟨_,ht,rfl⟩ ?_);rw[if_pos (by decide)]
  refine j2 (wpAny_seqItems ht rfl (TH ?_));show wpAny _ A.in1 (holding [x,y] (dictSet S x y)) _ _ _;have hml:(merged [] (pairs.take i)).length<=WT:=by
   have h1:=PySem.uc [] (pairs.take i);rw[X7,YG]at h1;omega
  refine XJ (wpAny_dictSet_pairs (hsz:=hml) hp2 hS' fun h'' MA hsb=>?_)
  have e:=merged_take_succ [] pairs i (key,y) hp1;rw[<- e]at MA;have fr:∀ b o,b≠S->h'.get? b=some o->h''.get? b=some o:=fun b o hb eb=>(hsb.2 b hb).trans eb
  obtain⟨ob3,g3⟩:=hL1.obj;obtain⟨ob4,g4⟩:=hL2.obj;refine TH ⟨Yt PySem.F.bx _,ih (i+1) h'' (tk+1) (by omega) hlt (um.keep fr hzS WA P9 h1S h2S) ?_ ?_ (fun b o b1 b2 b3 b4 b5 eb=>fr b o b1 (hkp b o b2 b3 b4 b5 (Iv b o b1 b2 b3 b4 b5 eb))) MA⟩
  ·exact hL1.at fun o e=>fr _ o Wo (hkp _ o D.l1z D.l1TO D.l1i1 D.l1i2 e)
  ·exact hL2.at fun o e=>fr _ o Wn (hkp _ o D.l2z D.l2TO D.l2i1 D.l2i2 e)
end
def yg(K:W.Frag)(t1 t2:Bool)(tl:TA):TE:=fun σ H R=>tl σ H fun vs H1=>∃(l1 l2:Addr)(ks:List Key)(ys:List V),vs = [.ref l1,.ref l2]/\SqB K t1 H1 l1 (ks.map kV)/\SqB K t2 H1 l2 ys/\∀ d,H1 d=none->R (.ref d) (upd H1 d (.dK (cV [] (ks.zip ys))))
theorem Ia:∀{ks:List Key}{ys:List V}{us:List Value},Vals ys us->KV (ks.zip ys) (ks.zip us)
 | [],_,_,_=>.nil
 | _::_,_,_,.nil=>.nil
 | k::ks,_,_,.cons h r=>.cons ⟨rfl,h⟩ (Ia r)
section
variable{X:Cx}{a b:Expr}{tl:TA}{pos p b7 p2:Pos}{t1 t2:Bool}
theorem AF(hg:Gl X "dict")(hm:X.mg "dict" = none)(hg2:Gl X "zip")(hm2:X.mg "zip" = none)(ha:PA X [a,b] tl)(hs:QX [a,b] X.env = [(false,eval a X.env),(false,eval b X.env)])(hs2:QX [b] X.env = [(false,eval b X.env)])
  (hs3:QX [.Call (.Name "zip" p2) [a,b] [] b7] X.env =(false,eval (.Call (.Name "zip" p2) [a,b] [] b7) X.env)::QX [] X.env) (hc:X.calm=true) :
  PE X (.Call (.Name "dict" p) [.Call (.Name "zip" p2) [a,b] [] b7] [] pos) (yg X.K t1 t2 tl):=by
 intro j0 s σ H R I h;refine Call_ (fO I hg hm (by kernel_rfl) (PyProof.Rows.callWith_type1 (T:="dict") ?_ hs3 (by rfl)))
 rw[hs3];refine Calls.spliced_cons ?_;refine Call_ (fO I hg2 hm2 (by kernel_rfl) (PyProof.Rows.callWith_type1 (T:="zip") (thn (ha b7 j0 s σ H _ I h) fun us s1 ⟨vs,H1,I1,r1,q1⟩=>?_) (by rw[hs,hs2]) (by rw[hs2];rfl)))
 obtain⟨l1,l2,ks,ys,e,q2,q3,q⟩:=q1;subst e;obtain⟨u1,u2,rfl,ru1,ru2⟩:=vals2 r1;cases ru1;cases ru2;obtain⟨Mn,rv1,o1,z1⟩:=I1.qX (tp:=t1) q2;obtain⟨bb,rv2,o2,z2⟩:=I1.qX (tp:=t2) q3;obtain⟨ob1,e1⟩:=o1.obj;obtain⟨ob2,e2⟩:=o2.obj;have g1:l1<s1.heap.objs.size:=Xe e1;have g2:l2<s1.heap.objs.size:=Xe e2;have hh:X.A.handled=none:=I1.ok.hd hc;refine oq o1 o2 fun h1 hz hTI hTO hi1 hi2 hk=>?_
 refine Calls.spliced_nil ?_;have nz:s1.heap.objs.size+4<h1.objs.size:=Xe hz;have rl1:=rv1.length;have rl2:=rv2.length;rw[PZ]at rl1 z1;refine callType_codes (s:={ s1 with heap:=h1 }) (Q₁:=fun obj s₁=>obj = .ref h1.objs.size/\s₁ ={ s1 with heap:=h1.push { cls:=.type "dict",data:=.dict #[] } }) F.kt_called_dict (F.kt_typeCall_dict_1 _) F.entry_dict_init (kt_code_dict_new _ ⟨rfl,rfl⟩) ?_
 rintro obj s₁ ⟨rfl,rfl⟩
 have Be:(h1.push { cls:=.type "dict",data:=.dict #[] }).DictOf (br X.prog X.w) h1.objs.size []:=Heap.DictOf.new h1;refine⟨Be.typeIs,F.args_dict_init_2 _ _,?_⟩;unfold Builtin.«dict.__init__»;refine j2 ?_;unfold Builtin.Dict.selfAndRest;refine j2 (wpAny_notOrdered_dict Be.typeIs ?_);refine TH ?_;show wpAny _ _ (Builtin.Dict.updateFrom "dict.__init__" h1.objs.size (.ref (s1.heap.objs.size+4)) [] .none) _ _ _;unfold Builtin.Dict.updateFrom;have up:∀ b o,h1.get? b=some o ->(h1.push { cls:=.type "dict",data:=.dict #[] }).get? b=some o:=fun b o e=>j3 _ e
 refine j2 (Yg (T:="zip") ⟨_,up _ _ hz,rfl⟩ ?_);rw[if_pos (by decide)]
 refine j2 (uk (up _ _ hz) hh fun h2 tk2 k2=>?_)
 rw[if_pos (show(none:Option Value).isNone=true from rfl)];refine j2 (Yu ?_);refine j2 (wpAny_pyIter_zip (s:={ s1 with heap:=h2,toks:=tk2 }) (k2 _ _ (up _ _ hz)) ?_)
 have up2:∀ b o,h1.get? b=some o->h2.get? b=some o:=fun b o e=>k2 b o (up b o e)
 obtain⟨oi1,gi1,_⟩:=hi1.obj;obtain⟨oi2,gi2,_⟩:=hi2.obj;have ne:∀{b:Addr}{o:Obj},h1.get? b=some o->b≠h1.objs.size:=fun e=>Xo (Xe e)
 refine TH ⟨Yt F.bx _,Kb (A:=X.A.in1) (s:=s1) (knd:=br X.prog X.w) (h₁:=h2) (t1:=t1) (t2:=t2) (xs:=Mn.toArray) (ys:=bb.toArray) (pairs:=ks.zip bb) hh (pB g1 g2) (ne hz) (ne hTI) (ne hTO) (ne gi1) (ne gi2) (ne (hk _ _ e1)) (ne (hk _ _ e2)) rfl ?_ ?_ (fun i x y hx hy=>?_) .none (fun h' tk' hk' hd=>?_) _ 0 h2 tk2 rfl (XU _) ⟨up2 _ _ hTI,hi1.at fun o e=>up2 _ o e,hi2.at fun o e=>up2 _ o e,.inl ⟨up2 _ _ hz,.none,.none,up2 _ _ hTO⟩⟩ (o1.at fun o e=>up2 _ o (hk _ o e)) (o2.at fun o e=>up2 _ o (hk _ o e)) (fun _ _ _ _ _ _ _ e=>e) ?_⟩
 ·rw[Wc,Wc];omega
 ·rw[Yd,Wc,Wc];omega
 ·rw[YO]at hx hy;have hik:i<ks.length:=by rw[rl1];exact(VZ.mp hx).1
  obtain⟨u,hu,ru⟩:=rv1.get (i:=i) (x:=kV ks[i]) (by rw[Xc,RH hik];rfl)
  rw[hx]at hu;cases hu;exact⟨ks[i],YD.mpr ⟨RH hik,hy⟩,uZ ru⟩
 ·have fr:∀ b u,s1.heap.get? b=some u->h'.get? b=some u:=fun b u e=>by
   have lt:b<s1.heap.objs.size:=Xe e;have ne':∀ m:Nat,s1.heap.objs.size<=m->b≠m:=fun m hm z=>absurd (z▸lt:m<s1.heap.objs.size) (by omega)
   exact hk' b u (ne (hk _ _ e)) (ne' _ (by omega)) (ne' _ (by omega)) (ne' _ (Xa _)) (ne' _ (by omega)) (up2 b u (hk b u e))
  have fresh:s1.heap.objs.size<=h1.objs.size:=by omega
  refine⟨rfl,.ref h1.objs.size,_,I1.laid (t':=tk') (h':=h') (a:=h1.objs.size) (o:=.dK (cV [] (ks.zip ys))) fr fresh ?_,rfl,q _ (I1.hok.fresh fresh)⟩;refine xp ?_ ?_ (KV.merge (Ia rv2) .nil) hd
  ·have:=iO (ks.zip ys) []
   rw[Yd,YG]at this;omega
  ·have:=I1.big
   exact beq_eq_false_iff_ne.mpr (XY (Xr this fresh))
 ·obtain⟨o,es,ep,ho,r⟩:=Be;exact⟨o,es,ep,k2 _ _ ho,r⟩
end
def kM:List T->Option (List Key)
 | []=>some []
 | x::r=>match x.key,kM r with
  | some k,some ks=>some (k::ks)
  | _,_=>none
theorem ak.NW{K:W.Frag}{dl:Dl}{H:Hp}:∀{xs:List T}{vs:List V}{F:List Addr}{ks:List Key},ak K dl H vs xs F->kM xs=some ks->vs=ks.map kV
 | [],_,_,_,h,e=>by cases h;cases e;rfl
 | x::r,_,_,_,h,e=>by
  cases h with
  | cons h1 h2 =>
   unfold kM at e
   split at e
   ·next k ks e1 e2 =>
    cases e;rw[h1.key e1,ak.NW h2 e2];rfl
   ·cases e
theorem aG.Rw{K:W.Frag}{dl:Dl}{H:Hp}:∀{ks:List Key}{vs:List V}{ts:List T}{F:List Addr},ak K dl H vs ts F->F = []->aG K dl H (ks.zip vs) (ks.zip ts) []
 | [],_,_,_,_,_=>.nil
 | _::_,_,_,_,.nil,_=>.nil
 | k::ks,_,_,_,.cons (F:=F) (G:=G) h r,e=>by
  obtain⟨e1,e2⟩:=XZ.mp e;subst e1 e2;exact .cons (F:=[]) h (aG.Rw r rfl)
section
variable{X:Cx}{K:W.Frag}{a b:Expr}{tl:TA}{ql:QA}{pos p b7 p2:Pos}
def G9(t2:Bool)(ql:QA):QE:=fun q Q=>ql q fun ts=>match ts with
 | [.l xs,.t ys]=>t2=true/\T.ims ys=true/\∃ ks,kM xs=some ks/\Q (.d (aS [] (ks.zip ys)))
 | [.l xs,.zl ys]=>t2=false/\T.ims ys=true/\∃ ks,kM xs=some ks/\Q (.d (aS [] (ks.zip ys)))
 | [.l xs,.l ys]=>t2=false/\T.ims ys=true/\∃ ks,kM xs=some ks/\Q (.d (aS [] (ks.zip ys)))
 | _=>False
theorem rL{t2:Bool}(hg:Gl X "dict")(hm:X.mg "dict" = none)(hg2:Gl X "zip")(hm2:X.mg "zip" = none)(ha:QPA X K [a,b] tl ql)(hK:X.K=K:=by rfl)(hs:QX [a,b] X.env = [(false,eval a X.env),(false,eval b X.env)]:=by rfl)(hs2:QX [b] X.env = [(false,eval b X.env)]:=by rfl)
  (hs3:QX [.Call (.Name "zip" p2) [a,b] [] b7] X.env =(false,eval (.Call (.Name "zip" p2) [a,b] [] b7) X.env)::QX [] X.env:=by rfl) (hc:X.calm=true:=by rfl) :
  QPF X K (.Call (.Name "dict" p) [.Call (.Name "zip" p2) [a,b] [] b7] [] pos) (yg K false t2 tl) (G9 t2 ql):=⟨by subst hK;exact AF hg hm hg2 hm2 ha.h hs hs2 hs3 hc,fun dl H σ q Q R rd hq k=>ha.s dl H σ q _ _ rd hq fun vs ts F H1 e1 r1 l1 hz=>by
 have go:∀{v1 v2:V}{xs ys:List T}{F1:List Addr},ax K dl H1 v1 (.l xs) F1 ->(∃ l2 ws G,v2 = .ref l2/\SqB K t2 H1 l2 ws/\ak K dl H1 ws ys G)->T.ims ys=true ->(∃ ks,kM xs=some ks/\Q (.d (aS [] (ks.zip ys)))) ->
   ∃(l1 l2:Addr)(ks:List Key)(ws:List V),[v1,v2] = [.ref l1,.ref l2]/\SqB K false H1 l1 (ks.map kV)/\SqB K t2 H1 l2 ws/\∀ d,H1 d=none->R (.ref d) (upd H1 d (.dK (cV [] (ks.zip ws)))):=by
  rintro v1 v2 xs ys F1 h1 ⟨l2,ws,G,rfl,h2,h3⟩ im ⟨ks,ek,hq⟩
  obtain⟨l,vs,G1,rfl,rfl,a1,a2⟩:=h1.lst;obtain rfl:=ak.NW a2 ek;obtain rfl:=h3.im im;refine⟨l,l2,ks,ws,rfl,SqL.of a1,h2,fun d hd=>?_⟩
  have rk:aG K dl H1 (cV [] (ks.zip ws)) (aS [] (ks.zip ys)) []:=aG.aS (kvs':=[]) (kts':=[]) (aG.Rw h3 rfl) rfl .nil;have e2:=(Evo.refl e1.d).new (o:=.dK (cV [] (ks.zip ws))) hd;exact k _ _ [d] _ (e1.new hd) ⟨.d aw (rk.b6 (e2.tf e1.d) (fun _ z=>z) fun _ z=>nomatch z),fun b hb=>by rw[qr.mp hb];exact e1.d.nd0 hd⟩ (fun b hb=>by rw[qr.mp hb];exact e1.free hd) (by simp) hq
 split at hz
 ·obtain⟨rfl,im,hz⟩:=hz;cases r1.r with
  | cons h1 r=>cases r with
   | cons h2 r2 =>
    cases r2;obtain⟨l2,ws,rfl,b1,b2⟩:=h2.tup;exact go h1 ⟨l2,ws,_,rfl,SqT.of b1,b2⟩ im hz
 ·obtain⟨rfl,im,hz⟩:=hz;cases r1.r with
  | cons h1 r=>cases r with
   | cons h2 r2 =>
    cases r2;obtain⟨l2,o,ws,rfl,_,b1,b2⟩:=h2.zls;exact go h1 ⟨l2,ws,_,rfl,.inl (.inr ⟨o,b1⟩),b2⟩ im hz
 ·obtain⟨rfl,im,hz⟩:=hz;cases r1.r with
  | cons h1 r=>cases r with
   | cons h2 r2 =>
    cases r2;obtain⟨l2,ws,G,rfl,_,b1,b2⟩:=h2.lst;exact go h1 ⟨l2,ws,_,rfl,SqL.of b1,b2⟩ im hz
 ·exact hz.elim⟩
end
end L2
namespace PySem
open Sem (wp)
section
variable{prog:Program}{w:World}{A:Around}{R:Result->Shared->Prop}{I:Addr}{fp wr:List Addr}{n:Nat}{P:Nat->Value->Prop}{St:Nat->Heap->Prop}{kw:List (Str×Value)}
theorem D8(W:Walks prog w A.in1 I fp wr n P St)(bt:Nat->Nat->Bool)(Ww:CmpOf prog w A.in1 .Gt P bt)(S:Addr)(hSf:S ∉ fp) :
  ∀(k j:Nat)(s:Shared)(vb:Value)(c:Nat),n - (j+1)=k->j+1<=n->St (j+1) s.heap->P (argBest bt j) vb ->
  s.heap.get? S=some { cls:=.type "list",dict:=none,data:=.seq #[vb,vb] c,slots:=#[] } ->
  (∀ v h' tk,P (argBest bt (n - 1)) v ->(∀ b o,b ∉ wr->b≠S->s.heap.get? b=some o->h'.get? b=some o)->R (.ok (.ret v)) { s with heap:=h',toks:=tk }) ->
  codeAny (model prog w) A (.builtin "max.loop" ⟨[.ref I,.none,.ref S],kw⟩) R s:=by
 have hSw:S ∉ wr:=fun h=>hSf (W.sub _ h)
 have sQ:(toString "max" ++ toString ".loop":String) = "max.loop":=by decide
 intro k
 induction k with
 | zero =>
  intro j s vb c hk hj hst hPb hS hR;have hin:j+1=n:=by omega
  refine YJ F.entry_max_loop ?_;rw[Ym F.plain_max_loop _];show wpAny _ A.in1 (seqItems? (.ref S) >>= _) _ _ s;refine j2 (wpAny_seqItems hS rfl ?_);show wpAny _ A.in1 (tryCatch (pyNext (.ref I)) _ >>= _) _ _ s;refine j2 (wpAny_tryCatch (W.done s _ _ (hin▸hst) fun h' tk hk'=>?_))
  have hS':=hk' S _ hSw hS;show wpAny _ A.in1 (updateSeq S (fun _=>#[]) >>= _) _ _ _
  refine j2 ?_;refine Yj hS' rfl (j2 (wpAny_letGo (TH ?_)));refine hR vb _ tk (by rw[<- hin];exact hPb) fun b o hbw hbS e=>(Xx _ _ (Ne.symm hbS)).trans (hk' b o hbw e)
 | succ k ih =>
  intro j s vb c hk hj hst hPb hS hR;have hlt:j+1<n:=by omega
  refine YJ F.entry_max_loop ?_;rw[Ym F.plain_max_loop _];show wpAny _ A.in1 (seqItems? (.ref S) >>= _) _ _ s;refine j2 (wpAny_seqItems hS rfl ?_);show wpAny _ A.in1 (tryCatch (pyNext (.ref I)) _ >>= _) _ _ s;refine j2 (wpAny_tryCatch (W.item (j+1) s _ _ hlt hst fun v h' tk hP um hk'=>?_))
  have hS':=hk' S _ hSw hS;show wpAny _ A.in1 (tryCatch (holding [v,v] (richCompare .Gt v vb >>= _)) _ >>= _) _ _ _;refine j2 (wpAny_tryCatch (XJ (j2 (Ww (j+1) (argBest bt j) v vb _ _ _ hP hPb ?_))));refine j2 (XJ (wpAny_truthy_bool ?_));refine j2 (wpAny_letGo (TH ?_));cases hb:bt (j+1) (argBest bt j)with
  | true =>
   simp only[if_true];refine j2 ?_;refine Yj hS' rfl (j2 (wpAny_letGo ?_));rw[sQ];refine TH ⟨Yt F.plain_max_loop _,ih (j+1) _ v _ (by omega) hlt (W.frame _ _ _ um fun b hbf o e=>?_) (by simp only[argBest,hb,if_true];exact hP) (XR _ hS' rfl)
    fun v' h'' FP hP' Iw=>?_⟩
   ·exact(Xx _ _ (fun h:S=b=>hSf (by rw[h];exact hbf))).trans e
   ·exact hR v' h'' FP hP' fun b o hbw hbS e=>Iw b o hbw hbS ((Xx _ _ (Ne.symm hbS)).trans (hk' b o hbw e))
  | false =>
   simp only[X2,if_false];refine j2 (wpAny_letGo ?_);rw[sQ];refine TH ⟨Yt F.plain_max_loop _,ih (j+1) _ vb c (by omega) hlt um (by simp only[argBest,hb,X2,if_false];exact hPb) hS' fun v' h'' FP hP' Iw=>?_⟩
   exact hR v' h'' FP hP' fun b o hbw hbS e=>Iw b o hbw hbS (hk' b o hbw e)
end
theorem F.EN(a d:Value):argsOk "max" ⟨[a],[("default",d)]⟩:=by unfold argsOk;kernel_rfl
section
variable{prog:Program}{w:World}{A:Around}{E:Value->Shared->Prop}{s:Shared}
theorem pq{id:String}{b:Builtin}{args:List Value}{kw:List (Str×Value)}{Q:Value->Shared->Prop}(hk:builtinKind id=none)(hp:plainId id=true)(hb:entryFor table id=some b)(ha:argsOk id ⟨args,kw⟩)
  (hc:wpAny (model prog w) A.in1 (b ⟨args,kw⟩) (fun fin s'=>match fin with
   | .done f=>(match(Except.ok f:Result)with | .ok (.ret v)=>Q v s' | .ok _=>False | .error e=>E e s')
   | .again c'=>c'.quiet=true/\codeAny (model prog w) A c' (fun r s'=>match r with | .ok (.ret v)=>Q v s' | .ok _=>False | .error e=>E e s') s') E s) :
  wpAny (model prog w) A (call (.builtin id) args kw) Q E s:=by
 refine wpAny_call (codeAny_call_builtin hp hb ?_);simp only[checkBuiltinCall,hk];cases Wh:Manifest.signature? id with
 | none=>exact TH hc
 | some sig =>
  simp only[argsOk,Wh]at ha;have h2:Bind.checkArgs id sig ⟨args,kw⟩=pure ():=ha;show wpAny _ A.in1 (Bind.checkArgs id sig ⟨args,kw⟩) _ _ s;rw[h2];exact TH hc
theorem EJ{l:Addr}{its:Array Value}{d:Value}{Q:Value->Shared->Prop}(val:Nat->Int)(hh:A.handled=none)(hl:s.heap.IsList l its)(hv:∀(i:Nat) v,its[i]? = some v->∃ t,v = .int (val i) t)
  (hQ:∀ v h' tk,(its.size=0->v=d) ->(0<its.size->its[argBest (fun i j=>decide (val i > val j)) (its.size - 1)]? = some v) ->(∀ b o,s.heap.get? b=some o->h'.get? b=some o)->Q v { s with heap:=h',toks:=tk }) :
  wpAny (model prog w) A (call (.builtin "max") [.ref l] [("default",d)]) Q E s:=by
 have sQ:(toString "max" ++ toString ".loop":String) = "max.loop":=by decide
 obtain⟨ol,hol,hcl,nl,hdl⟩:=id hl;refine pq F.kind_max F.plain_max F.entry_max (F.EN _ _) ?_;show wpAny _ A.in1 (Builtin.Builtins.bindParams "max" ["key","default"] 0 ⟨[],[("default",d)]⟩ >>= _) _ _ s;refine j2 (Yp (show Builtin.Builtins.bindParams "max" ["key","default"] 0 ⟨[],[("default",d)]⟩=pure [none,some d]from by kernel_rfl) ?_)
 refine j2 (TH ?_);refine j2 (wpAny_pyIter_list hl ?_);refine j2 (XI ?_);rw[sQ];have hlt:l<s.heap.objs.size:=Xe hol;have hsz:∀ o:Obj,(s.heap.push o).objs.size=s.heap.objs.size+1:=fun o=>Xq _ _
 have W:=Walks.list (prog:=prog) (w:=w) (A:=A.in1) hh s.heap.objs.size l (Xo hlt) its;have hst:(fun i (h:Heap)=>h.IsListIter s.heap.objs.size l i/\h.IsList l its) 0 ((s.heap.push { cls:=.type "list_iterator",data:=.fields #[.ref l,.int 0 0] }).push { cls:=.type "list",data:=.seq ([]:List Value).toArray }) :=
  ⟨⟨_,j3 _ (W8 _ rfl),rfl,rfl⟩,⟨ol,j3 _ (j3 _ hol),hcl,nl,hdl⟩⟩
 have hS:((s.heap.push { cls:=.type "list_iterator",data:=.fields #[.ref l,.int 0 0] }).push { cls:=.type "list",data:=.seq ([]:List Value).toArray }).get? (s.heap.objs.size+1)=some { cls:=.type "list",dict:=none,data:=.seq #[],slots:=#[] }:=by
  rw[<- hsz];exact W8 _ rfl
 have hSf:s.heap.objs.size+1 ∉ [s.heap.objs.size,l]:=fun z=>by
  rcases QH.mp z with z|z
  ·exact absurd z (XY (XE _))
  ·exact absurd (qr.mp z) (XY (XS hlt))
 have hSw:s.heap.objs.size+1 ∉ [s.heap.objs.size]:=fun z=>hSf (QH.mpr (.inl (qr.mp z)))
 have up:∀ b o,s.heap.get? b=some o ->((s.heap.push { cls:=.type "list_iterator",data:=.fields #[.ref l,.int 0 0] }).push { cls:=.type "list",data:=.seq ([]:List Value).toArray }).get? b=some o:=fun b o e=>j3 _ (j3 _ e)
 have old:∀ b o,s.heap.get? b=some o->b ∉ [s.heap.objs.size]/\b≠s.heap.objs.size+1:=fun b o e=>by
  have:@LT.lt Nat _ b s.heap.objs.size:=Xe e
  exact⟨fun z=>Xo this (qr.mp z),Xo (XS this)⟩
 rw[hsz];refine TH ⟨Yt F.plain_max_loop _,YJ F.entry_max_loop ?_⟩;rw[Ym F.plain_max_loop _];show wpAny _ A.in1 (seqItems? (.ref (s.heap.objs.size+1)) >>= _) _ _ _;refine j2 (wpAny_seqItems hS rfl ?_);show wpAny _ A.in1 (tryCatch (pyNext (.ref s.heap.objs.size)) _ >>= _) _ _ _;by_cases h0:its.size=0
 ·refine j2 (wpAny_tryCatch (W.done _ _ _ (by rw[h0];exact hst) fun h' tk hk'=>?_))
  refine j2 (Yu (TH ?_));exact hQ d h' tk (fun _=>rfl) (fun z=>absurd z (by omega)) fun b o e=>hk' b o (old b o e).1 (up b o e)
 ·refine j2 (wpAny_tryCatch (W.item 0 _ _ _ (by omega) hst fun v h' tk hP um hk'=>?_))
  have hS':=hk' _ _ hSw hS;show wpAny _ A.in1 (updateSeq (s.heap.objs.size+1) (fun _=>#[v,v]) >>= _) _ _ _
  refine j2 ?_;refine Yj hS' rfl ?_;rw[sQ];refine TH ⟨Yt F.plain_max_loop _,D8 W _ (CmpOf.ints_gt val hv) (s.heap.objs.size+1) hSf _ 0 _ v _ rfl (by omega) (W.frame _ _ _ um fun b hbf o e=>?_) hP (XR _ hS' rfl) fun v' h'' FP hP' Iw=>?_⟩
  ·exact(Xx _ _ (fun h=>hSf (by rw[h];exact hbf))).trans e
  ·exact hQ v' h'' FP (fun z=>absurd z h0) (fun _=>hP') fun b o e=>Iw b o (old b o e).1 (old b o e).2 ((Xx _ _ (Ne.symm (old b o e).2)).trans (hk' b o (old b o e).1 (up b o e)))
end
end PySem
namespace L2
open PySem PySem.Spec PyProof.Rows
def nX(ns:List Int)(d:Int):Int:=match ns with
 | []=>d
 | x::r=>r.foldl max x
theorem foldl_max:∀(r:List Int)(x:Int),(r.foldl max x=x\/r.foldl max x∈r)/\x<=r.foldl max x/\∀ y∈r,y<=r.foldl max x
 | [],x=>⟨.inl rfl,X0 _,fun _ h=>nomatch h⟩
 | y::r,x=>by
  obtain⟨h1,h2,h3⟩:=foldl_max r (max x y);refine⟨?_,X9 (Int.le_max_left x y) h2,fun z hz=>?_⟩
  ·rcases h1 with h1|h1
   ·show ZV max (max x y) r=x\/ZV max (max x y) r∈y::r;rw[h1];by_cases e:x<=y
    ·rw[Int.max_eq_right e];exact .inr j5
    ·rw[Int.max_eq_left (by omega)];exact .inl rfl
   ·exact .inr (Es _ h1)
  ·rcases QH.mp hz with rfl|hz
   ·exact X9 (Int.le_max_right x _) h2
   ·exact h3 z hz
variable{ns:List Int}
theorem Mc{d M:Int}(h1:M∈ns)(h2:∀ y∈ns,y<=M):M=nX ns d:=by
 cases ns with
 | nil=>cases h1
 | cons x r =>
  obtain⟨a1,a2,a3⟩:=foldl_max r x;show M=r.foldl max x;refine Int.le_antisymm ?_ ?_
  ·rcases QH.mp h1 with rfl|h
   ·exact a2
   ·exact a3 M h
  ·rcases a1 with a1|a1
   ·rw[a1];exact h2 x j5
   ·exact h2 _ (Es _ a1)
variable{x:Str}{pos':Pos}{C:Addr}{P:Program}{mg:Str->Option Value}{base:Heap}{CX:CXT}{fd:FuncData}
section
variable{X:Cx}{K:W.Frag}{e b:Expr}{es:List Expr}{te td tv:TE}{qe qd qv:QE}{p pos kpos:Pos}
theorem zy(h:0<ns.length):∃ M,ns[argBest (fun i j=>decide (ns.getD i 0 > ns.getD j 0)) (ns.length - 1)]? = some M/\M=nX ns 0:=by
 obtain⟨h1,h2⟩:=argBest_gt (fun i=>ns.getD i 0) (ns.length - 1)
 have hlt:argBest (fun i j=>decide (ns.getD i 0 > ns.getD j 0)) (ns.length - 1)<ns.length:=by omega
 refine⟨_,RH hlt,Mc (YA hlt) fun y hy=>?_⟩
 obtain⟨j,hj,rfl⟩:=Ye hy
 have:=h2 j (by omega)
 rw[X4,X4,RH hj,RH hlt]at this;exact this
theorem gu:∀{ns:List Int}{its:List Value},Vals (ns.map V.int) its->∀(i:Nat)(v:Value),its[i]? = some v->∃ t,v = .int (ns.getD i 0) t
 | [],_,h,i,v,e=>by cases h;simp at e
 | n::r,_,h,i,v,e=>by
  cases h with
  | cons h1 h2 =>
   cases i with
   | zero =>
    simp at e;obtain⟨t,e1⟩:=h1;exact⟨t,by rw[<- e,e1];rfl⟩
   | succ i =>
    obtain⟨t,e1⟩:=gu h2 i v (by simpa using e)
    exact⟨t,by rw[e1];rfl⟩
def Nt(K:W.Frag)(te:TE)(d:Int):TE:=fun σ H Q=>te σ H fun v H1=>∃ l ns,v = .ref l/\SqL K H1 l (ns.map V.int)/\Q (.int (nX ns d)) H1
theorem LA{d:Int}{j1}{p3:Pos}(hg:Gl X "max")(hm:X.mg "max" = none)(he:PE X e te)(hc:X.calm=true)(hs:QX [e] X.env = [(false,eval e X.env)]:=by rfl) :
  PE X (.Call (.Name "max" p) [e] [⟨some "default",.Constant (.int d) j1 p3,kpos⟩] pos) (Nt X.K te d):=by
 intro j0 s σ H Q I h;refine XQ (fO (u:=.builtin "max") I hg hm (by kernel_rfl) ?_)
 refine PyProof.Rows.callWith_kw ?_ (by rw[hs];rfl) (by rw[hs];rfl)
 rw[hs];show wpAny _ _ (spliced ((false,eval e X.env)::backTo pos (QX [] X.env))) _ _ s;refine Calls.spliced_cons (thn (he j0 s σ H _ I h) fun u s1 hPP=>?_)
 obtain⟨x,H1,I1,r1,l,ns,ex,hl,q⟩:=hPP;subst ex;cases r1;refine Calls.spliced_nil ?_;refine thn (Lx (X:=X) (nm:=some "default") (kpos:=kpos) (bu (X:=X) (i:=d) (j:=j1) (pos:=p3)) O9 pos j0 s1 σ H1 (fun vs H2=>vs = [.int d]/\H2=H1) I1 ⟨rfl,rfl⟩) fun us s2 hPP=>?_
 obtain⟨vs,H2,I2,rv,e1,e2⟩:=hPP;subst e1 e2;obtain⟨ud,rfl,t,rfl⟩:=vals1 rv;obtain⟨its,rl,pl,hz⟩:=I2.list hl;have hlen:=rl.length;rw[PZ]at hlen;show wpAny _ _ (call (.builtin "max") [.ref l] [("default",.int d t)]) _ _ _;refine EJ (fun i=>ns.getD i 0) (I.ok.hd hc) pl.isList (fun i v ei=>gu rl i v (by simpa using ei)) fun v h' tk z0 z1 hk=>?_
 rw[Wc]at z0 z1;by_cases h0:its.length=0
 ·have hn:ns = []:=Yx.mp (by omega)
  subst hn;rw[z0 h0];exact⟨.int d,_,I2.kept hk,⟨_,rfl⟩,q⟩
 ·have:=z1 (by omega)
  obtain⟨M,hM,eM⟩:=zy (ns:=ns) (by omega)
  rw[<- hlen]at this;rw[YO]at this;obtain⟨t',rfl⟩:=gu rl _ v this;have e3:nX ns d=nX ns 0:=by cases ns with|nil=>simp at hlen;omega|cons _ _=>rfl
  refine⟨.int (nX ns d),_,I2.kept hk,⟨t',?_⟩,q⟩;rw[e3,<- eM,X4,hM];rfl
def Si(d:Int)(qe:QE):QE:=fun q Q=>qe q fun t=>match t with
 | .l xs=>∃ ns:List Int,xs=ns.map .i/\Q (.i (nX ns d))
 | _=>False
theorem ak.Ik{dl:Dl}{H:Hp}:∀{ns:List Int}{vs:List V}{F:List Addr},ak K dl H vs (ns.map T.i) F->vs=ns.map V.int/\F = []
 | [],_,_,h=>by cases h;exact⟨rfl,rfl⟩
 | w::r,_,_,h=>by
  cases h with
  | cons h1 h2 =>
   cases h1;obtain⟨rfl,rfl⟩:=ak.Ik h2;exact⟨rfl,rfl⟩
theorem La{d:Int}{j1}{p3:Pos}(hm:X.mg "max" = none)(he:QPE X K e te qe)(hg:Gl X "max":=by exact rfl)(hK:X.K=K:=by rfl)(hc:X.calm=true:=by rfl)(hs:QX [e] X.env = [(false,eval e X.env)]:=by rfl) :
  QPF X K (.Call (.Name "max" p) [e] [⟨some "default",.Constant (.int d) j1 p3,kpos⟩] pos) (Nt K te d) (Si d qe):=⟨by subst hK;exact LA hg hm he.h hc hs,fun dl H σ q Q R rd hq k=>he.s dl H σ q _ _ rd hq fun v t F H1 e1 r1 hz=>by
 split at hz
 ·obtain⟨ns,rfl,hz⟩:=hz;obtain⟨l,vs,G,rfl,rfl,h1,h2⟩:=r1.r.lst;obtain⟨rfl,rfl⟩:=h2.Ik;exact⟨l,ns,rfl,SqL.of h1,k _ _ [] H1 e1 (.c (.i _)) (fun _ z=>nomatch z) W2 hz⟩
 ·exact hz.elim⟩
theorem EI(hc:X.calm=true):c7 X (.builtin "max") (fun xs H Q=>∃ l ns,xs = [.ref l]/\SqL X.K H l (ns.map V.int)/\ns ≠ []/\Q (.int (nX ns 0)) H):=by
 intro j0 s σ H xs us Q I r h;obtain⟨l,ns,rfl,hl,hne,q⟩:=h;obtain⟨u,rfl,ru⟩:=vals1 r;cases ru;obtain⟨its,rl,pl,hz⟩:=I.list hl;have hlen:=rl.length;rw[PZ]at hlen;have Wj:0<ns.length:=List.length_pos_iff.mpr hne;refine call_max_walk (wpAny_pyIter_list pl.isList ?_);obtain⟨ol,hol,hcl,nl,hdl⟩:=id pl.isList;have hlt:l<s.heap.objs.size:=Xe hol;refine⟨_,_,_,_,_,_,_,rfl,Walks.list (A:=X.A.in1) (I.ok.hd hc) _ l (Xo hlt) its.toArray,⟨⟨_,W8 _ rfl,rfl,rfl⟩,⟨ol,j3 _ hol,hcl,nl,hdl⟩⟩,fun b hb=>?_,by rw[Wc];omega,CmpOf.ints_gt (fun i=>ns.getD i 0) (fun i v ei=>gu rl i v (by simpa using ei)),fun v h' tk hP hk=>?_⟩
 ·rw[Xq];rcases QH.mp hb with z|z
  ·rw[z];exact XE _
  ·rw[qr.mp z];exact XS hlt
 ·rw[Wc,<- hlen,YO]at hP;obtain⟨M,hM,eM⟩:=zy (ns:=ns) Wj;obtain⟨t',rfl⟩:=gu rl _ v hP;refine⟨.int (nX ns 0),_,I.kept (fun b o e=>hk b o (fun z=>?_) (j3 _ e)),⟨t',?_⟩,q⟩
  ·have:=Xe e
   rw[qr.mp z]at this;exact Yq _ this
  ·rw[<- eM,X4,hM];rfl
theorem Bm(hK:X.K=K)(hc:X.calm=true):c7 X (.builtin "max") (fun xs H Q=>∃ l ns,xs = [.ref l]/\SqL K H l (ns.map V.int)/\ns ≠ []/\Q (.int (nX ns 0)) H):=by subst hK;exact EI hc
theorem Gf:uD K (fun xs H Q=>∃ l ns,xs = [.ref l]/\SqL K H l (ns.map V.int)/\ns ≠ []/\Q (.int (nX ns 0)) H) (fun ts Q=>match ts with | [.l xs]=>∃ ns:List Int,xs=ns.map .i/\ns ≠ []/\Q (.i (nX ns 0)) | _=>False):=fun dl H vs ts F Q R D r hq k=>by
 dsimp only at hq
 split at hq
 ·obtain⟨v,rfl,r1⟩:=r.one;obtain⟨ns,rfl,hne,hq⟩:=hq;obtain⟨l,vs,G,rfl,rfl,h1,h2⟩:=r1.r.lst;obtain⟨rfl,rfl⟩:=h2.Ik;exact⟨l,ns,rfl,SqL.of h1,hne,k _ _ [] H (.refl D) (.c (.i _)) (fun _ z=>nomatch z) W2 hq⟩
 ·exact hq.elim
def SA(i:Nat)(qe:QE):QS:=fun D q=>∃ n,q[i]? = some (.o (.i n))/\qe q fun t=>match t with
 | .i m=>D.nx (q.set i (.o (.i (n+m))))
 | _=>False
theorem K4{i:Nat}(hN:X.N.Nodup)(he:QPE X K e te qe)(hi:X.N[i]? = some x:=by rfl)(hx:Loc X.env.scope x:=by first|exact .inl rfl|exact .inr rfl)(hf:X.fn x=true\/X.env.scope.names.lookup x=some .local:=by first|exact .inl rfl|exact .inr rfl|assumption) :
  QPS X K (.AugAssign (.Name x pos') .Add e pos) (RG i te (ipI fun i j=>i+j)) (SA i qe):=⟨O1 hN hi hx he.h PY hf,fun dl H₀ hs H σ q Dq D ⟨F,r⟩ hq E=>by
 obtain⟨n,hq0,hq⟩:=hq;obtain⟨v,hv,rp⟩:=r.g i _ _ hq0 rfl;obtain⟨rfl,hF⟩:=rp.r.int;refine⟨_,hv,he.s dl H σ q _ _ r.rd hq fun w t Fw H1 e1 r1 hz=>?_⟩
 split at hz
 ·rename_i m;obtain⟨rfl,_⟩:=r1.r.int;exact⟨n,m,rfl,rfl,E.nx H1 _ _ (r.eD e1 (.c (.i (n+m))) (fun _ z=>nomatch z) W2) hz⟩
 ·exact hz.elim⟩
def Sy(C:Addr)(f:Str)(qe:QE):QE:=fun q Q=>qe q fun t=>match t with
 | .om _ C' ns ts=>C'=C/\∃ u,(ns.zip ts).lookup f=some u/\Q u
 | _=>False
theorem h8{f:Str}(hc:Cls K C)(hn:bw K C f)(he:QPE X K e te qe)(hb:attributeBase e f X.env (eval e X.env)=eval e X.env:=by rfl)(hK:X.K=K:=by rfl):QPE X K (.Attribute e f pos) (Om K te f) (Sy C f qe) :=
 ⟨by subst hK;exact Hz he.h hb,fun dl H σ q Q R rd hq k=>he.s dl H σ q _ _ rd hq fun v t F H1 e1 r1 hz=>by
  split at hz
  ·obtain⟨rfl,u,hu,hz⟩:=hz;obtain⟨dx,vs,G,rfl,rfl,h1,h2,h3,h4⟩:=r1.r.omm;obtain⟨w1,Fc,G1,l1,l2,l3,_⟩:=h4.fld hu;exact⟨_,_,dx,_,w1,rfl,h1,hc,hn,l1,k w1 u Fc H1 e1 ⟨l2,fun b hb=>r1.n b (Es _ (Es _ (l3.mem_iff.mpr (Xf _ hb))))⟩ hz⟩
  ·exact hz.elim⟩
theorem aP.Tj{w:World}{k:Nat}{f:Addr}{ps:List Str}{pl:j8}(h:∀ ts Q,¬ pl ts Q):aP P w K mg base CX k f fd ps (spL K 0 pl):=⟨fun vs H Q E z=>by
 obtain⟨_,ts,_,_,_,Qp,_,_,_,_,_,_,_,z,_⟩:=z;exact(h _ _ z).elim,fun A outer s H args us vs Q E _ _ _ _ z=>by
 obtain⟨_,ts,_,_,_,Qp,_,_,_,_,_,_,_,z,_⟩:=z;exact(h _ _ z).elim⟩
end
variable{j:Nat}
section
variable{X:Cx}{K:W.Frag}{dl:Dl}{H₀ H H':Hp}{hs:List (V×T)}{σ:St}{q:Sq}{F:Nat->List Addr}{e o:Expr}{te:TE}{qe:QE}{pos apos aT ef:Pos}
theorem Rel.move{i:Nat}{t:T}{v:V}(r:Rel K dl H₀ hs H σ q F)(hij:i≠j)(hi:i<q.length)(hj:q[j]? = some (.o t))(hv:σ[j]? = some (some v)):fu K dl H₀ hs H (σ.set i (some v)) ((q.set j .no).set i (.o t)):=by
 obtain⟨o1,o2,o3⟩:=r.o j t hj;obtain⟨v',hv',rp⟩:=r.g j _ t hj rfl;rw[hv]at hv';cases hv';have lk:∀{k:Nat}{x:Sl},((q.set j .no).set i (.o t))[k]? = some x ->(k=i/\x = .o t)\/(k≠i/\k=j/\x = .no)\/(k≠i/\k≠j/\q[k]? = some x):=fun{k x} h=>by
  rcases get_set h with⟨e1,e2,_⟩ |⟨e1,e2⟩
  ·exact .inl ⟨e1,e2⟩
  ·rcases get_set e2 with⟨e3,e4,_⟩ |⟨e3,e4⟩
   ·exact .inr (.inl ⟨e1,e3,e4⟩)
   ·exact .inr (.inr ⟨e1,e3,e4⟩)
 refine⟨pU (pU F j []) i (F j),r.d,fun k x u h1 h2=>?_,fun k x h1 h2=>?_,fun k hk=>?_,fun k u h1=>?_,fun p hp=>?_,r.f,by simp[r.l]⟩
 ·rcases lk h1 with⟨rfl,rfl⟩ |⟨n1,rfl,rfl⟩ |⟨n1,n2,h1⟩
  ·cases h2;exact⟨v,by rw[XX (by rw[<- r.l];exact hi)],by rw[aI];exact rp⟩
  ·cases h2
  ·obtain⟨w,h3,h4⟩:=r.g k x u h1 h2;exact⟨w,by rw[XM (fun z=>n1 z.symm)];exact h3,by rw[aB n1,aB n2];exact h4⟩
 ·rcases lk h1 with⟨rfl,rfl⟩ |⟨n1,rfl,rfl⟩ |⟨n1,n2,h1⟩
  ·cases h2
  ·rw[aB n1,aI]
  ·rw[aB n1,aB n2];exact r.n k x h1 h2
 ·rw[XW,XW]at hk;have hjl:=(VZ.mp hj).1;rw[aB (by omega),aB (by omega)]
  exact r.z k hk
 ·have mem:∀{m:Nat}{b:Addr},b∈(pU (pU F j []) i (F j)) m ->(m=i/\b∈F j)\/(m≠i/\m≠j/\b∈F m):=fun{m b} hb=>by
   by_cases e1:m=i
   ·subst e1;rw[aI]at hb;exact .inl ⟨rfl,hb⟩
   ·rw[aB e1]at hb;by_cases e2:m=j
    ·subst e2;rw[aI]at hb;cases hb
    ·rw[aB e2]at hb;exact .inr ⟨e1,e2,hb⟩
  rcases lk h1 with⟨rfl,_⟩ |⟨_,_,z⟩ |⟨n1,n2,h1⟩
  ·rw[aI];refine⟨o1,o2,fun m hm b hb z=>?_⟩
   rcases mem z with⟨e,_⟩ |⟨_,e2,z⟩
   ·exact hm e
   ·exact o3 m e2 b hb z
  ·cases z
  ·obtain⟨p1,p2,p3⟩:=r.o k u h1;rw[aB n1,aB n2];refine⟨p1,p2,fun m hm b hb z=>?_⟩
   rcases mem z with⟨_,z⟩ |⟨_,_,z⟩
   ·exact p3 j n2.symm b hb z
   ·exact p3 m hm b hb z
 ·obtain⟨Fp,h1,h2⟩:=r.h p hp;refine⟨Fp,h1,fun k u hk b hb=>?_⟩
  rcases lk hk with⟨rfl,_⟩ |⟨_,_,z⟩ |⟨n1,n2,hk⟩
  ·rw[aI]at hb;exact h2 j t hj b hb
  ·cases z
  ·rw[aB n1,aB n2]at hb;exact h2 k u hk b hb
def Sh(i j:Nat):QS:=fun D q=>i≠j/\i<q.length/\match q[j]? with
 | some (.o t)=>D.nx ((q.set j .no).set i (.o t))
 | _=>False
theorem K0{i:Nat}(hN:X.N.Nodup)(he:PE X e (cm j))(hi:X.N[i]? = some x:=by rfl)(hx:Loc X.env.scope x:=by first|exact .inl rfl|exact .inr rfl)(hs:swapsWith e (some (.Name x pos')) pos.line X.env=pure false:=by rfl)(hf:X.fn x=true\/X.env.scope.names.lookup x=some .local:=by first|exact .inl rfl|exact .inr rfl|assumption) :
  QPS X K (.Assign [.Name x pos'] e pos) (ni (cm j) (gU i)) (Sh i j):=⟨jq hN hi hx he hs hf,fun dl H₀ hs H σ q Dq D ⟨F,r⟩ hq E=>by
 obtain⟨hij,hl,hq⟩:=hq
 split at hq
 ·rename_i t ej;obtain⟨v,hv,_⟩:=r.g j _ t ej rfl;exact⟨v,hv,E.nx H _ _ (r.move hij hl ej hv) hq⟩
 ·exact hq.elim⟩
def yu(K:W.Frag):V->List V->Hp->VK->Prop:=fun x vs H Q=>∃ l b xs zs,x = .ref l/\vs = [.ref b]/\H l=some (.lst xs)/\SqT K H b zs/\xs.length+zs.length<=WT/\Q .non (upd H l (.lst (xs++zs)))
theorem AN:MtM X "list.extend" (yu X.K):=by
 intro j0 s σ H x vs v us Q I rx rv h;obtain⟨l,b,xs,zs,rfl,rfl,hH,hB,hz,q⟩:=h;cases rx;obtain⟨u,rfl,ru⟩:=rv.one;cases ru;obtain⟨z,its,n,r,hl,e⟩:=I.AX hH;obtain⟨bb,r2,p2,z2⟩:=I.tuple hB;obtain⟨o2,e2,hc2,n2,hd2⟩:=(show s.heap.IsTuple b bb.toArray from p2);have hl2:=r2.length;have hsz:its.toArray.size+bb.toArray.size<=WT:=by rw[Wc,Wc];omega
 have Iu:¬(!its.toArray.isEmpty&&Builtin.List.listTooLong (its.toArray.size+bb.toArray.size))=true:=by
  rw[yS hsz,YX];exact Xd
 refine Xz F.slot_list_extend ⟨_,e,rfl⟩ F.entry_list_extend ?_ (F.args_list_extend_2 _ _);show wpAny _ _ (Builtin.List.listExtendWith (.ref l) (.ref b) .none) _ _ s;unfold Builtin.List.listExtendWith;refine j2 (Yg (T:="tuple") ⟨o2,e2,hc2⟩ ?_);rw[if_pos (by simp)]
 refine j2 (listItems_at e2 hd2 ?_);refine j2 (listItems_at e rfl ?_);rw[if_neg Iu];refine j2 (listUpdate_at e rfl ?_ (by rw[Wc];omega) (by rw[Y3];omega))
 refine TH ⟨_,rfl,?_⟩;refine⟨.non,_,I.Me (its':=its++bb) hH e (by simp) (r.append r2) ?_,rfl,q⟩
 rw[Xl];omega
def NJ(i:Nat)(qe:QE):QS:=fun D q=>match q[i]? with
 | some (.o (.l xs))=>qe q fun t=>match t with
  | .t ys=>T.ims ys=true/\xs.length+ys.length<=WT/\D.nx (q.set i (.o (.l (xs++ys))))
  | _=>False
 | _=>False
theorem K3{i:Nat}(ho:PE X o (cm i))(he:QPE X K e te qe)(hK:X.K=K:=by rfl)(c6:attributeBase o "extend" X.env (eval o X.env)=eval o X.env:=by rfl)
  (kR:((backTo aT (QX [e] X.env)).all (fun x=>!x.1)&&(backToKw aT (keywordEach [] X.env)).all (fun x=>x.1.isSome)
   && decide (([e]:List Expr).length+([]:List Keyword).length+(if([]:List Keyword).isEmpty then 0 else 1)<30))=true:=by rfl)
  (c5:(apos.endLine==aT.line)=true:=by rfl) (hs:QX [e] X.env =(false,eval e X.env)::QX [] X.env:=by rfl) (cF:(backTo aT (QX [] X.env)).any (·.1)=false:=by rfl)
  (hsw:swapsWith (.Call (.Attribute o "extend" apos) [e] [] aT) none ef.line X.env=pure false:=by rfl) :
  QPS X K (.Expr (.Call (.Attribute o "extend" apos) [e] [] aT) ef) (jP (tBM K "list" (yu K) (cm i) (fY te iS))) (NJ i qe) :=
 ⟨jr (by subst hK;exact uV PySem.F.plainAttrs_list PySem.F.slot_list_extend PySem.F.type_list_extend AN ho (bV he.h gN hs) c6 kR c5 hs cF) hsw,fun dl H₀ hs H σ q Dq D ⟨F,r⟩ hq E=>by
 unfold NJ at hq
 split at hq
 ·rename_i xs ei;obtain⟨v,hv,rp⟩:=r.g i _ _ ei rfl;obtain⟨o1,o2,o3⟩:=r.o i _ ei;obtain⟨p,vs,G,rfl,eF,h1,h2⟩:=rp.r.lst;refine⟨_,hv,.inl ⟨rfl,vs,SqL.of h1⟩,he.s dl H σ q _ _ r.rd hq fun w t F' H' e1 r1 hz'=>?_⟩
  split at hz'
  ·rename_i ys;obtain⟨im,hl,hz'⟩:=hz';obtain⟨p2,ws,rfl,h3,h4⟩:=r1.r.tup;obtain rfl:=h4.im im;have pn:Nd dl p:=rp.n p (by rw[eF];exact j5)
   refine⟨p,p2,vs,ws,rfl,rfl,e1.k p _ h1 pn (fun _ z=>nomatch z),SqT.of h3,by rw[h2.len,h4.len];exact hl,?_⟩
   have hG:∀ b∈G,Nd dl b:=fun b hb=>rp.n b (by rw[eF];exact Es _ hb)
   have rs2:ak K dl H' vs xs G:=h2.b6 (e1.tf r.d) (fun _ z=>z) fun b hb o eo=>e1.k b o eo (hG b hb) (.of (h2.there b hb) eo)
   refine E.nx _ σ _ (r.rC ei hv eF e1 (rs2.append h4) ?_ fun b hb=>?_) hz'
   ·rw[eF]at o1;rw[Xh];exact(Xm.mp o1).2
   ·rw[Xh]at hb;exact .inl hb
  ·exact hz'.elim
 ·exact hq.elim⟩
end
variable{n:Nat}
section
variable{X:Cx}{K:W.Frag}{dl:Dl}{H:Hp}
def RW(K:W.Frag):R2:=fun x y H Q=>rNe x y H Q\/∃ dl ts us n F G,ax K dl H x (.t ts) F/\ax K dl H y (.t us) G/\(∀(j:Nat)(x y:T),ts[j]? = some x->us[j]? = some y->Alk n x y)/\n<=100/\∀ c:Bool,(c=true ↔ ts=us)->Q (.bl (!c)) H
theorem AH(hu:X.A.units+150<cLine)(hK:X.K=K):OpR X (compareOp .NotEq) (RW K):=by
 subst hK;refine OpR.or yO ?_;intro j0 s σ H x y v u Q I rx ry h;obtain⟨dl,ts,us,n,F,G,r1,r2,ht,hn,k⟩:=h;obtain⟨a,vs,rfl,h1,f1⟩:=r1.tup;obtain⟨b,ws,rfl,h2,f2⟩:=r2.tup;cases rx;cases ry;obtain⟨its,q1,p1,_⟩:=I.tuple (SqT.of h1);obtain⟨bb,q2,p2,_⟩:=I.tuple (SqT.of h2);have l1:=q1.length;have l2:=q2.length;have l3:=f1.len;have l4:=f2.len;obtain⟨e,hE,he⟩:=M8 (A:=X.A.in1) I rfl q1 q2 f1 f2 ht (by show X.A.units+1+n<_;omega)
 refine SeqAt.RcNeAt.tuples (A:=X.A) (e:=e) (show s.heap.IsTuple a its.toArray from p1) (show s.heap.IsTuple b bb.toArray from p2) (by omega) hE X.prog X.w X.xe _ ⟨.bl _,H,I,rfl,k _ ?_⟩
 have e1:its.toArray.size=ts.length:=by simp;omega
 have e2:bb.toArray.size=us.length:=by simp;omega
 exact xo (n:=n) e1 e2 he
def Sg:Q2:=fun t u Q=>match t,u with
 | .t ts,.t us=>∃ n,n<=100/\(∀(j:Nat)(x y:T),ts[j]? = some x->us[j]? = some y->Alk n x y)/\∀ c:Bool,(c=true ↔ ts=us)->Q (.b (!c))
 | t,u=>qNe t u Q
theorem vE:cN K (RW K) Sg:=by
 intro dl H x y t u F G Q R D r1 r2 hq k;unfold Sg at hq
 split at hq
 ·obtain⟨n,hn,ht,hq⟩:=hq;exact .inr ⟨dl,_,_,n,F,G,r1.r,r2.r,ht,hn,fun c hc=>k _ _ [] H (.refl D) (.c (.b _)) (fun _ z=>nomatch z) W2 (hq c hc)⟩
 ·exact .inl (qU dl H x y t u F G Q R D r1 r2 hq k)
theorem zz:∀{n:Nat}{t:T},Dep n t->Alk n t t
 | 0,_,h=>by
  rcases h with⟨x,rfl⟩ |⟨x,rfl⟩
  ·exact .inl ⟨x,x,rfl,rfl⟩
  ·exact .inr ⟨x,x,rfl,rfl⟩
 | n+1,_,h=>by
  rcases h with⟨x,rfl⟩ |⟨x,rfl⟩ |⟨ts,rfl,h⟩
  ·exact .inl ⟨x,x,rfl,rfl⟩
  ·exact .inr (.inl ⟨x,x,rfl,rfl⟩)
  ·refine .inr (.inr ⟨ts,ts,rfl,rfl,fun j x y hx hy=>?_⟩)
   rw[hx]at hy;cases hy;exact zz (h x (XA hx))
theorem gq{ts:List T}(hd:∀ x∈ts,Dep n x)(j:Nat)(x y:T)(hx:ts[j]? = some x)(hy:ts[j]? = some y):Alk n x y:=by
 rw[hx]at hy;cases hy;exact zz (hd x (XA hx))
end
abbrev QPR:=Sq ->(List (Key×T)->Prop)->Prop
def UK(K:W.Frag)(trs:List (TE×TE))(qp:QPR):Prop:=∀(dl:Dl)(H:Hp)(σ:St)(q:Sq)(Q:List (Key×T)->Prop)(R:List (V×V)->Hp->Prop),RdR K dl H σ q->qp q Q ->
 (∀ kvs kts H',Evo dl H H'->aG K dl H' kvs kts []->kvs.length=trs.length->Q kts->R (kvs.map fun kv=>(kV kv.1,kv.2)) H')->vz trs σ H R
structure Nc(X:Cx)(K:W.Frag)(pos:Pos)(keys:List (Option Expr))(values:List Expr)(trs:List (TE×TE))(qp:QPR):Prop where
 h:PPs X pos keys values trs
 s:UK K trs qp
section
variable{X:Cx}{K:W.Frag}{pos:Pos}{ek ev:Expr}{ks:List (Option Expr)}{vs:List Expr}{tk tv:TE}{qk qv:QE}{trs:List (TE×TE)}{qp:QPR}
theorem K6:Nc X K pos [] [] [] (fun _ Q=>Q []):=⟨Cc,fun dl H σ q Q R rd hq k=>k [] [] H (.refl rd.d) .nil rfl hq⟩
def Sf(qk qv:QE)(qp:QPR):QPR:=fun q Q=>qk q fun t=>qv q fun u=>match t.key with
 | some k=>u.im=true/\qp q fun kts=>Q ((k,u)::kts)
 | none=>False
theorem nM(hk:QPE X K ek tk qk)(hv:QPE X K ev tv qv)(hr:Nc X K pos ks vs trs qp):Nc X K pos (some ek::ks) (ev::vs) ((tk,tv)::trs) (Sf qk qv qp):=⟨nP hk.h hv.h hr.h,fun dl H σ q Q R rd hq k=>by
 refine hk.s dl H σ q _ _ rd hq fun v t F H1 e1 r1 hq1=>?_
 refine hv.s dl H1 σ q _ _ (rd.evo e1) hq1 fun w u G H2 e2 r2 hq2=>?_
 split at hq2
 ·rename_i kk ekk;obtain⟨him,hq2⟩:=hq2;obtain rfl:=r2.r.im him;have evk:=r1.r.key ekk;subst evk;refine hr.s dl H2 σ q _ _ ((rd.evo e1).evo e2) hq2 fun kvs kts H3 e3 r3 hl hz=>?_
  exact k ((kk,w)::kvs) ((kk,u)::kts) H3 ((e1.trans e2).trans e3) (.cons (F:=[]) (G:=[]) (r2.evo e2.d e3).r r3) (by simp[hl]) hz
 ·exact hq2.elim⟩
def qDN(qp:QPR):QE:=fun q Q=>qp q fun kts=>Q (.d (aS [] kts))
theorem GU(h:Nc X K pos ks vs trs qp)(IA:ks.all (·.isSome)=true:=by rfl)(hl:ks.length=vs.length:=by rfl)(h0:ks ≠ []:=by exact X3 _ _)(h15:ks.length<=15:=by decide)(h16:trs.length<=15:=by decide) :
  QPF X K (.Dict ks vs pos) (Nw trs) (qDN qp):=⟨Cg h.h IA hl h0 h15,fun dl H σ q Q R rd hq k=>fun p hp=>by
 have e0:=(Evo.refl rd.d).new (o:=.dK []) hp;have nd:Nd dl p:=rd.d.nd0 hp;refine h.s dl _ σ q _ _ (rd.evo e0) hq fun kvs kts H2 e2 r2 hlen hz=>?_
 have hp2:H2 p=some (.dK []):=e2.k p _ aw nd (fun _ z=>nomatch z)
 have tf:=TF.dict (kw:=cV [] kvs) hp2;refine⟨hp2,kvs,rfl,by omega,?_⟩
 have e3:Evo dl H (upd H2 p (.dK (cV [] kvs))):=by
  refine⟨fun b o hb hn nr=>?_,fun d hd=>?_,fun b x hb=>?_⟩
  ·have hbp:b≠p:=fun z=>by rw[z,hp]at hb;cases hb
   rw[ai hbp];exact e2.k b o (by rw[ai hbp];exact hb) hn nr
  ·obtain⟨s0,n0,ls0,D0⟩:=e2.d d hd;have n1:=(nd d hd).1;have n2:=(nd d hd).2;exact⟨s0,n0,ls0,{ D0 with hd:=by rw[ai n1.symm];exact D0.hd,hl:=by rw[ai n2.symm];exact D0.hl }⟩
  ·have hbp:b≠p:=fun z=>by rw[z,hp]at hb;cases hb
   obtain⟨y,hy,e4⟩:=e2.r b x (by rw[ai hbp];exact hb)
   exact⟨y,hy,by rw[ai hbp];exact e4⟩
 have rm:aG K dl H2 (cV [] kvs) (aS [] kts) []:=aG.aS (kvs':=[]) (kts':=[]) r2 rfl .nil;exact k _ _ [p] _ e3 ⟨.d aw (rm.b6 tf (fun _ z=>z) bE),fun b hb=>by rw[qr.mp hb];exact nd⟩ (fun b hb=>by rw[qr.mp hb];exact hp) (by simp) hz⟩
end
variable{a:Addr}{b:Expr}{tl:TA}{ql:QA}{pos:Pos}{p:Pos}{elts:List Expr}{t2:Bool}
section
variable{X:Cx}{K:W.Frag}{dl:Dl}
theorem Mp{b:Addr}{xs ys:List T}:xT K dl (Itz K false false a b) (vo xs ys) [(.ref a,.zl xs),(.ref b,.zl ys)] where
 go:=fun H i D h hi=>by
  obtain⟨F,r⟩:=h (.ref a,.zl xs) (by simp)
  obtain⟨F',r'⟩:=h (.ref b,.zl ys) (by simp)
  obtain⟨p,o,vs,e,eF,h1,h2⟩:=r.r.zls;cases e;obtain⟨p',o',vs',e',eF',h1',h2'⟩:=r'.r.zls;cases e';rw[j9]at hi;have l1:i<vs.length:=by rw[h2.len];omega
  have l2:i<vs'.length:=by rw[h2'.len];omega
  exact⟨vs,vs',vs[i],vs'[i],.inl (.inr ⟨o,h1⟩),.inl (.inr ⟨o',h1'⟩),by simp[l1],by simp[l2]⟩
 yld:=fun H i x fp v H' D h hx y=>by
  have r:=h (.ref a,.zl xs) (by simp)
  have r':=h (.ref b,.zl ys) (by simp)
  obtain⟨p,o,vs,e,eF,h1,h2⟩:=r.r.zls;cases e;obtain⟨p',o',vs',e',eF',h1',h2'⟩:=r'.r.zls;cases e';obtain⟨x1,y1,hx1,hy1,rfl⟩:=vn hx;obtain⟨w1,G1,hw1,rw1,hs1⟩:=h2.get hx1;obtain⟨w2,G2,hw2,rw2,hs2⟩:=h2'.get hy1;obtain⟨q,u1,u2,hq,rfl,rfl,y1',y2'⟩:=y;have e1:=y1' vs (.inl (.inr ⟨o,h1⟩));rw[hw1]at e1;cases e1;have e2:=y2' vs' (.inl (.inr ⟨o',h1'⟩));rw[hw2]at e2;cases e2;have rs:Rps K dl H [w1,w2] [x1,y1] (G1++(G2 ++ [])):=Rps.cons ⟨rw1,fun b hb=>nomatch hs1 b hb⟩ (Rps.cons ⟨rw2,fun b hb=>nomatch hs2 b hb⟩ ⟨.nil,fun _ z=>nomatch z⟩)
  refine⟨(Evo.refl D).new hq,_,rs.tup D hq,fun c hb=>?_⟩
  rw[Xh]at hb;rcases Xj.mp hb with z|z
  ·exact nomatch hs1 c z
  ·exact nomatch hs2 c z
 stop:=fun H D h=>by
  obtain⟨F,r⟩:=h (.ref a,.zl xs) (by simp)
  obtain⟨F',r'⟩:=h (.ref b,.zl ys) (by simp)
  obtain⟨p,o,vs,e,eF,h1,h2⟩:=r.r.zls;cases e;obtain⟨p',o',vs',e',eF',h1',h2'⟩:=r'.r.zls;cases e';refine⟨vs,vs',.inl (.inr ⟨o,h1⟩),.inl (.inr ⟨o',h1'⟩),?_⟩;rw[j9,h2.len,h2'.len];omega
def WM(t2:Bool)(ql:QA):QJ:=fun q Q=>ql q fun ts=>match ts with
 | [.t xs,.t ys]=>t2=true/\T.ims xs=true/\T.ims ys=true/\Q (vo xs ys) q
 | [.zl xs,.zl ys]=>t2=false/\Q (vo xs ys) q
 | _=>False
theorem K7{a:Expr}{x1}(hg:Gl X "zip")(hm:X.mg "zip" = none)(kS:bootBuiltins "zip" = some (.type "zip"))(ha:QPA X K [a,b] tl ql)(hs:QX [a,b] X.env = [(false,eval a X.env),(false,eval b X.env)]:=by rfl)(hs2:QX [b] X.env = [(false,eval b X.env)]:=by rfl)(hK:X.K=K:=by rfl) :
  QPJ X K (.Tuple elts x1 pos') (.Call (.Name "zip" p) [a,b] [] pos) (P1 K t2 t2 tl) (WM t2 ql):=⟨Ly hK hg hm kS ha.h hs hs2,fun dl H₀ hs H σ q Q R ⟨F0,r0⟩ hq k=>ha.s dl H σ q _ _ r0.rd hq fun vs ts F H' e1 r _ hz=>by
 split at hz
 ·obtain⟨rfl,i1,i2,hz⟩:=hz;obtain⟨v,w,F1,F2,rfl,r1,r2⟩:=r.two;obtain rfl:=r1.r.im (t:=.t _) i1;obtain rfl:=r2.r.im (t:=.t _) i2;have q1:=((r0.evo e1).hold r2 fun j u hj b hb z=>nomatch z).hold r1 fun j u hj b hb z=>nomatch z
  obtain⟨l1,vs1,rfl,h1,h2⟩:=r1.r.tup;obtain⟨l2,vs2,rfl,h3,h4⟩:=r2.r.tup;exact⟨l1,l2,rfl,⟨vs1,SqT.of h1⟩,⟨vs2,SqT.of h3⟩,k _ _ _ H' q ⟨F0,q1⟩ PX hz⟩
 ·obtain⟨rfl,hz⟩:=hz;obtain⟨v,w,F1,F2,rfl,r1,r2⟩:=r.two;obtain rfl:=r1.r.im rfl;obtain rfl:=r2.r.im rfl;have q1:=((r0.evo e1).hold r2 fun j u hj b hb z=>nomatch z).hold r1 fun j u hj b hb z=>nomatch z
  obtain⟨l1,o,vs1,rfl,_,h1,h2⟩:=r1.r.zls;obtain⟨l2,o',vs2,rfl,_,h3,h4⟩:=r2.r.zls;exact⟨l1,l2,rfl,⟨vs1,.inl (.inr ⟨o,h1⟩)⟩,⟨vs2,.inl (.inr ⟨o',h3⟩)⟩,k _ _ _ H' q ⟨F0,q1⟩ Mp hz⟩
 ·exact hz.elim⟩
end
variable{op:CmpOp}{rq:Q2}
section
variable{X:Cx}{K:W.Frag}{k:Nat}{a c e o:Expr}{es rest:List Expr}{tA tB tc:TT}{qA:QT}{qa' qB qc:QTL}{te to tb:TE}{qb:QE}{ql:QL}{apos:Pos}{m:Str}{f:Addr}{prs:List Str}{pl:j8}{sa sb:List Stmt}{t u:TS}{qt qu:QS}
theorem B1(h:uE X K a tA qa'):tN X K (.BoolOp .Or [a] pos) tA qa':=⟨Hb h.h,h.s⟩
theorem GL(h:uE X K a tA qa')(h2:tN X K (.BoolOp .Or (b::rest) pos) tB qB):tN X K (.BoolOp .Or (a::b::rest) pos) (tOr tA tB) (fun q R=>qa' q fun c q'=>if c=true then R true q' else qB q' R):=⟨NM h.h h2.h,fun dl H₀ hs H σ q R Q r hq kk=>h.s dl H₀ hs H σ q _ _ r hq fun b q' H' r' hz=>by
 cases b with
 | true=>exact kk true q' H' r' hz
 | false=>exact h2.s dl H₀ hs H' σ q' _ _ r' hz kk⟩
theorem GP(hc:uE X K c tc qc)(ha:m7 X K sa t qt)(hb:m7 X K sb u qu):QPS X K (.If c sa sb pos) (Ol tc t u) (fun D q=>qc q fun b q'=>if b=true then qt D q' else qu D q'):=⟨Hf hc.h ha.h hb.h,fun dl H₀ hs H σ q Dq D r hq E =>
 hc.s dl H₀ hs H σ q _ _ r hq fun b q' H' r' hz=>by
  cases b with
  | true=>exact ha.s dl H₀ hs H' σ q' Dq D r' hz E
  | false=>exact hb.s dl H₀ hs H' σ q' Dq D r' hz E⟩
theorem yw{r:R2}(hop:OpR X (compareOp op) r)(hso:cN K r rq)(hmk:behindInMarks op b=false)(hc:Cls K C)(hm:Meth K C m f)(G:aP X.prog X.w X.K X.mg X.base CX0 k f fd prs (spL K 0 pl))(hr:bT k X.A)(hb:Binds K fd prs [])(ho:QPL X K j o to ql)(hbb:QPE X K b tb qb)(hK:X.K=K:=by rfl)
  {plb:Sem Bool} (ht:eval (.Call (.Attribute o m apos) [] [] pos) X.env =(do
   let ov <- eval o X.env
   standAt apos.atName
   let(f,first) <- holding [ov] (getMethod ov m plb)
   callWith pos f first (backTo pos (QX [] X.env)) (backToKw pos (keywordEach [] X.env))):=by rfl) :
  uE X K (.Compare (.Call (.Attribute o m apos) [] [] pos) [op] [b] pos') (yf (tOp r (mn C m (spL K 0 pl) [] E0 to iS) tb)) (fun q R=>rN j C m pl ql (fun _ Q=>Q []) q fun v q'=>qb q' fun u=>rq v u fun t=>match t with | .b x=>R x q' | _=>False) :=
 ⟨lN hop (by subst hK;exact nV ho.h hc hm G hr hb .nil kB ht) hbb.h hmk,fun dl H₀ hs H σ q R Q r hq kk=>lH ho.s nk r hq fun v rr q' H' r' rv hz=>by
  obtain⟨F,r'⟩:=r';refine hbb.s dl H' σ q' _ _ r'.rd hz fun w u Fw H1 e1 rw1 hz=>?_
  refine hso dl H1 v w rr u [] Fw _ _ e1.d (rv.evo r'.d e1) rw1 hz fun x t Fx H2 e2 rx _ _ hz=>?_
  split at hz
  ·obtain⟨rfl,_⟩:=rx.r.bl;exact⟨_,rfl,kk _ q' H2 ⟨F,(r'.evo e1).evo e2⟩ hz⟩
  ·exact hz.elim⟩
end
namespace TM
open Sem (wp)
open Builtin
theorem eZ:fillsNumberSlot (.type "tuple") "mul" = pure false :=
 PySem.fillsNumberSlot_seq (id:="tuple.__mul__") (r:=some (.builtin "tuple.__rmul__")) PySem.F.slot_tuple_mul.lookup (by decide +kernel) PySem.F.slot_tuple_rmul.lookup (by decide +kernel)
theorem jj:seqRepeat? (.type "tuple")=pure (some (.builtin "tuple.__mul__")):=by
 unfold seqRepeat?;rw[PySem.seqSlot_of (T:="tuple") (name:="__mul__") (id:="tuple.__mul__") PySem.F.slot_tuple_mul.lookup (by decide +kernel),PySem.seqSlot_of (T:="tuple") (name:="__rmul__") (id:="tuple.__rmul__") PySem.F.slot_tuple_rmul.lookup (by decide +kernel)]
 rfl
theorem mE(a:Int)(t:Tok)(l:Addr)(items:Array Value)(n:Nat)(d:Option Addr)(sl:Array (Option Value)) :
  Meets (Builtin.«int.__rmul__» ⟨[.int a t,.ref l],[]⟩) (fun _ R s=>s.heap.get? l=some { cls:=.type "tuple",dict:=d,data:=.seq items n,slots:=sl }/\R (.ok (.ret Value.notImplemented)) s) :=
 .of_wp fun prog w A R s h=>by obtain⟨hp,g,d,tk,os⟩:=s;obtain⟨hl,h⟩:=h;wp_walk;exact⟨_,rfl,h⟩
theorem V4(l:Addr)(items:Array Value)(n:Nat)(d:Option Addr)(sl:Array (Option Value))(u:Tok)(hi:items.isEmpty=false) :
  Meets (Builtin.«tuple.__mul__» ⟨[.ref l,.int 0 u],[]⟩) (fun _ R s=>s.heap.get? l=some { cls:=.type "tuple",dict:=d,data:=.seq items n,slots:=sl }/\R (.ok (.ret (Value.ref s.heap.objs.size))) { s with heap:=s.heap.push { cls:=Value.type "tuple",data:=Data.seq #[] } }) :=
 .of_wp fun prog w A R s h=>by
  obtain⟨hp,g,d,tk,os⟩:=s;obtain⟨hl,h⟩:=h;unfold Builtin.«tuple.__mul__»
  wp_walk
  exact⟨_,rfl,h⟩
theorem V3(l:Addr)(items:Array Value)(n:Nat)(d:Option Addr)(sl:Array (Option Value))(u:Tok) :
  Meets (Builtin.«tuple.__mul__» ⟨[.ref l,.int 1 u],[]⟩) (fun _ R s=>s.heap.get? l=some { cls:=.type "tuple",dict:=d,data:=.seq items n,slots:=sl }/\R (.ok (.ret (Value.ref l))) s) :=
 .of_wp fun prog w A R s h=>by
  obtain⟨hp,g,d,tk,os⟩:=s;obtain⟨hl,h⟩:=h;unfold Builtin.«tuple.__mul__»
  wp_walk
  exact⟨_,rfl,h⟩
theorem V2(l:Addr)(items:Array Value)(n:Nat)(d:Option Addr)(sl:Array (Option Value))(u:Tok)(hi:items.isEmpty=false)(hs:items.size<=1000) :
  Meets (Builtin.«tuple.__mul__» ⟨[.ref l,.int 2 u],[]⟩) (fun _ R s=>s.heap.get? l=some { cls:=.type "tuple",dict:=d,data:=.seq items n,slots:=sl }/\R (.ok (.ret (Value.ref s.heap.objs.size))) { s with heap:=s.heap.push { cls:=Value.type "tuple",data:=Data.seq (items++items) } }) :=
 .of_wp fun prog w A R s h=>by
  obtain⟨hp,g,d,tk,os⟩:=s;obtain⟨hl,h⟩:=h;have h1:¬((items.size:Int)*2 >(2 ^ 63 - 1) / 8):=by omega
  have h2:Builtin.Tuple.tupleTooMany ((items.size:Int)*2)=false:=by
   unfold Builtin.Tuple.tupleTooMany
   have:WT=16777216:=Yo
   simp;omega
  unfold Builtin.«tuple.__mul__»
  wp_walk
  rw[if_neg h1];dsimp only;rw[h2]
  wp_walk
  have e:ZV (fun x1 x2=>x1++x2) #[] (Xp (Int.toNat 2) items)=items++items:=by
   show #[]++items++items=_;rw[Array.empty_append]
  rw[e];have h3:¬(items++items).size > WT:=by
   have:WT=16777216:=Yo
   rw[Y3];omega
  rw[if_neg h3]
  wp_walk
  exact⟨_,rfl,h⟩
end TM
variable{ta:TE}{tb:TE}{qa:QE}{qb:QE}
section
variable{X:Cx}{K:W.Frag}
def GD(K:W.Frag):R2:=fun x y H Q=>∃ a n xs,x = .ref a/\y = .int n/\SqT K H a xs/\xs ≠ []/\xs.length<=1000 /\
 ((n=0/\∀ p,H p=none->Q (.ref p) (upd H p (.tup [])))\/(n=1/\Q (.ref a) H)\/(n=2/\∀ p,H p=none->Q (.ref p) (upd H p (.tup (xs++xs)))))
theorem LI(hK:X.K=K):OpR X (binaryOp .Mult) (GD K):=by
 subst hK;intro j0 s σ H x y v u Q I rx ry h;obtain⟨a,n,xs,rfl,rfl,ha,hx,hl,h⟩:=h;cases rx;obtain⟨t,rfl⟩:=ry;obtain⟨its,r1,p1,_⟩:=I.tuple ha;obtain⟨⟨cls,dd,data,sl⟩,ho,hc,k,hd⟩:=id p1;simp only at hc hd;subst hc hd;have hne:its.toArray.isEmpty=false:=by
  have:its ≠ []:=fun z=>hx (r1.gj.mp z)
  cases its with
  | nil=>exact absurd rfl this
  | cons _ _=>rfl
 have hsz:its.toArray.size<=1000:=by rw[Wc,<- r1.length];exact hl
 rcases h with⟨rfl,h⟩ |⟨rfl,h⟩ |⟨rfl,h⟩
 ·refine wpAny_binaryOp_repeat_ref (T:="tuple") (U:="int") (by decide) ⟨_,ho,rfl⟩ (fun s'=>typeIs_int s' _ t) TM.eZ PySem.F.fills_int_mul PySem.F.slot_int_rmul TM.jj PySem.F.slot_int_index.lookup
   (call_meets PySem.F.slot_int_rmul (typeIs_int s _ t) PySem.F.entry_int_rmul (PySem.F.args_int_rmul_2 _ _) (TM.mE _ t a its.toArray k dd sl)
    ⟨ho,rfl,⟨_,ho,rfl⟩,call_meets PySem.F.slot_tuple_mul ⟨_,ho,rfl⟩ PySem.F.entry_tuple_mul (PySem.F.args_tuple_mul_2 _ _) (TM.V4 a its.toArray k dd sl t hne) ⟨ho,?_⟩⟩)
  exact⟨.ref s.heap.objs.size,_,I.laid (t':=s.toks) (o:=.tup []) (fun b ob q=>j3 _ q) (Xa _) ⟨XU _,[],.nil,lA.new _ _⟩,rfl,h _ (I.hok.fresh (Xa _))⟩
 ·refine wpAny_binaryOp_repeat_ref (T:="tuple") (U:="int") (by decide) ⟨_,ho,rfl⟩ (fun s'=>typeIs_int s' _ t) TM.eZ PySem.F.fills_int_mul PySem.F.slot_int_rmul TM.jj PySem.F.slot_int_index.lookup
   (call_meets PySem.F.slot_int_rmul (typeIs_int s _ t) PySem.F.entry_int_rmul (PySem.F.args_int_rmul_2 _ _) (TM.mE _ t a its.toArray k dd sl)
    ⟨ho,rfl,⟨_,ho,rfl⟩,call_meets PySem.F.slot_tuple_mul ⟨_,ho,rfl⟩ PySem.F.entry_tuple_mul (PySem.F.args_tuple_mul_2 _ _) (TM.V3 a its.toArray k dd sl t) ⟨ho,?_⟩⟩)
  exact⟨.ref a,H,I,rfl,h⟩
 ·refine wpAny_binaryOp_repeat_ref (T:="tuple") (U:="int") (by decide) ⟨_,ho,rfl⟩ (fun s'=>typeIs_int s' _ t) TM.eZ PySem.F.fills_int_mul PySem.F.slot_int_rmul TM.jj PySem.F.slot_int_index.lookup
   (call_meets PySem.F.slot_int_rmul (typeIs_int s _ t) PySem.F.entry_int_rmul (PySem.F.args_int_rmul_2 _ _) (TM.mE _ t a its.toArray k dd sl)
    ⟨ho,rfl,⟨_,ho,rfl⟩,call_meets PySem.F.slot_tuple_mul ⟨_,ho,rfl⟩ PySem.F.entry_tuple_mul (PySem.F.args_tuple_mul_2 _ _) (TM.V2 a its.toArray k dd sl t hne hsz) ⟨ho,?_⟩⟩)
  have e:its.toArray++its.toArray =(its++its).toArray:=by simp
  rw[e];refine⟨.ref s.heap.objs.size,_,I.laid (t':=s.toks) (o:=.tup (xs++xs)) (fun b ob q=>j3 _ q) (Xa _) ?_,rfl,h _ (I.hok.fresh (Xa _))⟩
  exact⟨by rw[Xl];have:WT=16777216:=Yo;omega,_,r1.append r1,lA.new _ _⟩
def G3:Q2:=fun t u Q=>match t,u with
 | .t xs,.i n=>0<=n/\n<=2/\xs ≠ []/\xs.length<=1000/\T.ims xs=true/\Q (.t (Xp n.toNat xs).flatten)
 | _,_=>False
theorem Ge:cN K (GD K) G3:=by
 intro dl H x y t u F G Q R D r1 r2 hq k;have no:∀ b:Addr,b∈([]:List Addr)->H b=none:=fun _ z=>nomatch z
 unfold G3 at hq
 split at hq
 ·rename_i xs n;obtain⟨a,vs,rfl,h1,s1⟩:=r1.r.tup;obtain⟨rfl,rfl⟩:=r2.r.int;obtain⟨n0,n2,hx,hl,hi,hq⟩:=hq;obtain rfl:=s1.im hi;refine⟨a,n,vs,rfl,rfl,SqT.of h1,fun e=>hx (s1.gj.mp e),by rw[s1.len];exact hl,?_⟩
  have hn:n=0\/n=1\/n=2:=by omega
  rcases hn with rfl|rfl|rfl
  ·refine .inl ⟨rfl,fun p hp=>?_⟩
   have rs:Rps K dl H [] _ []:=⟨.nil,fun c hc=>nomatch hc⟩
   exact k _ _ _ _ ((Evo.refl D).new hp) (rs.tup D hp) no W2 hq
  ·refine .inr (.inl ⟨rfl,?_⟩);have e:(Xp (Int.toNat 1) xs).flatten=xs:=by show xs ++ []=xs;exact Xh _
   rw[e]at hq;exact k _ _ [] H (.refl D) r1 no W2 hq
  ·refine .inr (.inr ⟨rfl,fun p hp=>?_⟩)
   have e:(Xp (Int.toNat 2) xs).flatten=xs++xs:=by show xs++(xs ++ [])=_;rw[Xh]
   rw[e]at hq;have rs:Rps K dl H (vs++vs) _ ([] ++ []):=⟨s1.append s1,fun c hc=>nomatch hc⟩
   exact k _ _ _ _ ((Evo.refl D).new hp) (rs.tup D hp) no W2 hq
 ·exact hq.elim
theorem B4{a:Expr}(ha:QPE X K a ta qa)(hb:QPE X K b tb qb)(hK:X.K=K:=by rfl):QPF X K (.BinOp a .Mult b pos) (tOp (GD K) ta tb) (qOp G3 qa qb):=mG (LI hK) Ge ha hb
end
end L2
namespace K21
open PySem L2
def top(i:Nat):Stmt:=PySem.Challenge.pw_pursewright_k21_values_too_great.main.body.getD i (.Pass ⟨0,0,0,0⟩)
abbrev jg:Stmt:=inClass (top 3) 0
theorem vJ:aC ["self","piece","above","arm"] ["self","piece","above","arm"] (ao jg):=⟨rfl,rfl,rfl,by decide +kernel,rfl,by decide +kernel,by decide +kernel⟩
abbrev iw:Stmt:=inClass (top 14) 0
theorem t7:aC ["self","functions","f","values"] ["self","functions","f","values"] (ao iw):=⟨rfl,rfl,rfl,by decide +kernel,rfl,by decide +kernel,by decide +kernel⟩
abbrev dg:Stmt:=inClass (top 14) 1
theorem mB:aC ["self","names"] ["self","names"] (ao dg):=⟨rfl,rfl,rfl,by decide +kernel,rfl,by decide +kernel,by decide +kernel⟩
abbrev gy:Stmt:=inClass (top 14) 2
theorem q5:aC ["self","body","between"] ["self","body","between"] (ao gy):=⟨rfl,rfl,rfl,by decide +kernel,rfl,by decide +kernel,by decide +kernel⟩
abbrev cO:Stmt:=inClass (top 14) 3
theorem ma:aC ["self","value"] ["self","value"] (ao cO):=⟨rfl,rfl,rfl,by decide +kernel,rfl,by decide +kernel,by decide +kernel⟩
abbrev d9:Stmt:=inClass (top 14) 4
abbrev jf:Stmt:=inClass (top 15) 0
theorem vI:aC ["self","program","f","args","coins"] ["self","program","f","args","coins"] (ao jf):=⟨rfl,rfl,rfl,by decide +kernel,rfl,by decide +kernel,by decide +kernel⟩
abbrev je:Stmt:=inClass (top 15) 1
theorem vH:aC ["self"] ["self"] (ao je):=⟨rfl,rfl,rfl,by decide +kernel,rfl,by decide +kernel,by decide +kernel⟩
abbrev gx:Stmt:=inClass (top 15) 2
theorem qZ:aC ["self"] ["self"] (ao gx):=⟨rfl,rfl,rfl,by decide +kernel,rfl,by decide +kernel,by decide +kernel⟩
abbrev iu:Stmt:=inClass (top 15) 3
theorem t6:aC ["self"] ["self"] (ao iu):=⟨rfl,rfl,rfl,by decide +kernel,rfl,by decide +kernel,by decide +kernel⟩
abbrev ip:Stmt:=inClass (top 15) 4
theorem t5:aC ["self"] ["self"] (ao ip):=⟨rfl,rfl,rfl,by decide +kernel,rfl,by decide +kernel,by decide +kernel⟩
abbrev kc:Stmt:=inClass (top 15) 5
theorem yn:aC ["self"] ["self"] (ao kc):=⟨rfl,rfl,rfl,by decide +kernel,rfl,by decide +kernel,by decide +kernel⟩
abbrev my:Stmt:=inClass (top 15) 6
theorem mz:aC ["self","frame","word","f"] ["self","frame"] (ao my):=⟨rfl,rfl,rfl,by decide +kernel,rfl,by decide +kernel,by decide +kernel⟩
abbrev jQ:Stmt:=inClass (top 15) 7
abbrev fB:Stmt:=inClass (top 15) 8
theorem jR:aC ["self","frame","made"] ["self","frame"] (ao fB):=⟨rfl,rfl,rfl,by decide +kernel,rfl,by decide +kernel,by decide +kernel⟩
abbrev er:Stmt:=inClass (top 15) 9
theorem iU:aC ["self","frame","word","coins"] ["self","frame","word"] (ao er):=⟨rfl,rfl,rfl,by decide +kernel,rfl,by decide +kernel,by decide +kernel⟩
abbrev eh:Stmt:=inClass (top 15) 10
theorem oI:aC ["self","ending"] ["self","ending"] (ao eh):=⟨rfl,rfl,rfl,by decide +kernel,rfl,by decide +kernel,by decide +kernel⟩
abbrev kg:Stmt:=top 1
theorem jh:aC ["functions","name","number","function"] ["functions","name"] (ao kg):=⟨rfl,rfl,rfl,by decide +kernel,rfl,by decide +kernel,by decide +kernel⟩
abbrev vL:Stmt:=top 4
theorem nA:aC ["body","told","waiting","spot"] ["body"] (ao vL):=⟨rfl,rfl,rfl,by decide +kernel,rfl,by decide +kernel,by decide +kernel⟩
abbrev fC:Stmt:=top 5
theorem oH:aC ["piece","number"] ["piece","number"] (ao fC):=⟨rfl,rfl,rfl,by decide +kernel,rfl,by decide +kernel,by decide +kernel⟩
abbrev rg:Stmt:=top 6
theorem Dw:aC ["body"] ["body"] (ao rg):=⟨rfl,rfl,rfl,by decide +kernel,rfl,by decide +kernel,by decide +kernel⟩
abbrev kh:Stmt:=top 8
theorem f7:aC ["value","makers","waiting","thing"] ["value"] (ao kh):=⟨rfl,rfl,rfl,by decide +kernel,rfl,by decide +kernel,by decide +kernel⟩
abbrev Ag:Stmt:=top 9
theorem KG:aC ["value"] ["value"] (ao Ag):=⟨rfl,rfl,rfl,by decide +kernel,rfl,by decide +kernel,by decide +kernel⟩
abbrev vN:Stmt:=top 10
theorem gA:aC ["value","deep","layer","beneath","thing"] ["value"] (ao vN):=⟨rfl,rfl,rfl,by decide +kernel,rfl,by decide +kernel,by decide +kernel⟩
abbrev Gr:Stmt:=top 17
theorem Gq:aC ["program","f","args","coins","most","walk"] ["program","f","args","coins","most"] (ao Gr):=⟨rfl,rfl,rfl,by decide +kernel,rfl,by decide +kernel,by decide +kernel⟩
abbrev Ah:Stmt:=top 18
theorem nB:aC ["program","f","args","most","plenty","walk","lowest"] ["program","f","args","most"] (ao Ah):=⟨rfl,rfl,rfl,by decide +kernel,rfl,by decide +kernel,by decide +kernel⟩
abbrev mD:Stmt:=top 19
theorem yl:aC ["walk"] ["walk"] (ao mD):=⟨rfl,rfl,rfl,by decide +kernel,rfl,by decide +kernel,by decide +kernel⟩
abbrev gB:Stmt:=top 20
theorem cn:aC ["program","greatest","function","coins"] ["program"] (ao gB):=⟨rfl,rfl,rfl,by decide +kernel,rfl,by decide +kernel,by decide +kernel⟩
abbrev Aj:Stmt:=top 22
theorem nC:aC ["_law_script","_law_base","_law_cells","_law_number","_law_cell"] ["_law_script","_law_base"] (ao Aj):=⟨rfl,rfl,rfl,by decide +kernel,rfl,by decide +kernel,by decide +kernel⟩
abbrev Ai:Stmt:=top 23
theorem qw:aC ["_law_deal_here","_law_many","_law_number","_law_one","_law_other"] ["_law_deal_here","_law_many"] (ao Ai):=⟨rfl,rfl,rfl,by decide +kernel,rfl,by decide +kernel,by decide +kernel⟩
abbrev vK:Stmt:=top 24
theorem bJ:aC ["_law_deal_here","_law_many","_law_letters","_law_core","_law_at","_law_turn","_law_found","_law_k","_law_own","_law_word","_law_near"] ["_law_deal_here","_law_many"] (ao vK):=⟨rfl,rfl,rfl,by decide +kernel,rfl,by decide +kernel,by decide +kernel⟩
abbrev rh:Stmt:=top 27
theorem eu:aC ["_law_body","_law_found","_law_maker","_law_names","_law_arm"] ["_law_body"] (ao rh):=⟨rfl,rfl,rfl,by decide +kernel,rfl,by decide +kernel,by decide +kernel⟩
abbrev vM:Stmt:=top 28
theorem yk:aC ["_law_value_here","_law_some"] ["_law_value_here"] (ao vM):=⟨rfl,rfl,rfl,by decide +kernel,rfl,by decide +kernel,by decide +kernel⟩
abbrev vP:Stmt:=top 29
theorem ym:aC ["_law_program","_law_f","_law_args","_law_coins","_law_known"] ["_law_program","_law_f","_law_args","_law_coins"] (ao vP):=⟨rfl,rfl,rfl,by decide +kernel,rfl,by decide +kernel,by decide +kernel⟩
abbrev OB:Stmt:=top 30
theorem qY:aC ["_law_state","_law_n","_law_names","_law_values","_law_f","_law_at","_law_known","_law_more","_law_x","_law_value_here"] ["_law_state","_law_n","_law_names","_law_values"] (ao OB):=⟨rfl,rfl,rfl,by decide +kernel,rfl,by decide +kernel,by decide +kernel⟩
abbrev rj:Stmt:=top 31
theorem Dx:aC ["_law_state","_law_end"] ["_law_state","_law_end"] (ao rj):=⟨rfl,rfl,rfl,by decide +kernel,rfl,by decide +kernel,by decide +kernel⟩
abbrev BX:Stmt:=top 32
abbrev pE:Stmt:=top 33
abbrev Af:Stmt:=top 34
theorem dG:aC ["_law_program","_law_state","_law_f","_law_n","_law_known","_law_piece","_law_word","_law_value_here","_law_many","_law_inside","_law_g","_law_args"] ["_law_program","_law_state"] (ao Af):=⟨rfl,rfl,rfl,by decide +kernel,rfl,by decide +kernel,by decide +kernel⟩
abbrev rn:Stmt:=top 35
theorem bC:aC ["_law_deal_here","_law_words_here","_law_form","_law_makers","_law_names","_law_params","_law_args","_law_body","_law_k"] ["_law_deal_here"] (ao rn):=⟨rfl,rfl,rfl,by decide +kernel,rfl,by decide +kernel,by decide +kernel⟩
abbrev vO:Stmt:=top 36
theorem nE:aC ["_law_maker","_law_last","_law_names","_law_many","_law_value_here","_law_k"] ["_law_maker","_law_last","_law_names","_law_many"] (ao vO):=⟨rfl,rfl,rfl,by decide +kernel,rfl,by decide +kernel,by decide +kernel⟩
abbrev q9:Stmt:=top 37
theorem lI:aC ["_law_program","_law_args","_law_most","_law_state","_law_fewest"] ["_law_program","_law_args","_law_most"] (ao q9):=⟨rfl,rfl,rfl,by decide +kernel,rfl,by decide +kernel,by decide +kernel⟩
abbrev pC:Stmt:=top 38
theorem cP:aC ["_law_script","_law_deal_here","_law_program","_law_kind","_law_makers","_law_fields","_law_args","_law_param","_law_many","_law_end","_law_due","_law_done","_law_left","_law_coins","_law_walk","_law_state"] ["_law_script"] (ao pC):=⟨rfl,rfl,rfl,by decide +kernel,rfl,by decide +kernel,by decide +kernel⟩
set_option genInjectivity false in
structure Adr where
 a8:Addr
 bP:Addr
 kY:FuncData
 az:Addr
 bz:Addr
 jL:FuncData
 a5:Addr
 d3:FuncData
 bB:Addr
 iQ:FuncData
 aV:Addr
 dq:FuncData
 aO:Addr
 cH:FuncData
 aA:Addr
 bO:Addr
 kX:FuncData
 b8:Addr
 kW:FuncData
 bA:Addr
 iP:FuncData
 bN:Addr
 jK:FuncData
 bM:Addr
 jJ:FuncData
 cG:Addr
 mW:FuncData
 dA:Addr
 pe:FuncData
 bp:Addr
 gY:FuncData
 bo:Addr
 gX:FuncData
 bf:Addr
 fS:FuncData
 bc:Addr
 fR:FuncData
 dw:Addr
 pJ:FuncData
 lR:Addr
 CH:FuncData
 bI:Addr
 jU:FuncData
 ja:Addr
 zj:FuncData
 dy:Addr
 pK:FuncData
 oW:Addr
 IZ:FuncData
 lU:Addr
 CL:FuncData
 u6:Addr
 N4:FuncData
 oX:Addr
 I0:FuncData
 e6:Addr
 sU:FuncData
 bZ:Addr
 kU:FuncData
 oZ:Addr
 Jb:FuncData
 oY:Addr
 Ja:FuncData
 lQ:Addr
 CG:FuncData
 jb:Addr
 zk:FuncData
 lS:Addr
 CJ:FuncData
 lX:Addr
 CN:FuncData
 Em:Addr
 Uk:FuncData
 jc:Addr
 zm:FuncData
 lT:Addr
 CK:FuncData
 dz:Addr
 pL:FuncData
 oV:Addr
 IY:FuncData
 jd:Addr
 zo:FuncData
 lV:Addr
 CM:FuncData
 i9:Addr
 zi:FuncData
 u7:Addr
 N5:FuncData
structure Txt(K:W.Frag)(mg:Str->Option Value)(a:Adr):Prop where
 oj:Cls K a.a8
 wN:mg "Spot" = some (.ref a.a8)
 wQ:Mk K a.a8 a.bP
 iM:bw K a.a8 "piece"
 ub:bw K a.a8 "above"
 yV:bw K a.a8 "arm"
 ij:Fun K "__init__" "Spot.__init__" jg a.bP a.kY
 Mb:Meth K a.a8 "__init__" a.bP
 lg:Binds K a.kY ["self","piece","above","arm"] []
 aK:Cls K a.az
 yW:mg "Frame" = some (.ref a.az)
 yX:Mk K a.az a.bz
 si:bw K a.az "f"
 fN:bw K a.az "number"
 aN:bw K a.az "piece"
 cE:bw K a.az "names"
 gp:Fun K "__init__" "Frame.__init__" iw a.bz a.jL
 JV:Meth K a.az "__init__" a.bz
 ou:Binds K a.jL ["self","functions","f","values"] []
 cA:Fun K "values_at" "Frame.values_at" dg a.a5 a.d3
 gQ:Meth K a.az "values_at" a.a5
 ic:Binds K a.d3 ["self","names"] []
 fj:Fun K "go_on" "Frame.go_on" gy a.bB a.iQ
 kH:Meth K a.az "go_on" a.bB
 mw:Binds K a.iQ ["self","body","between"] []
 ck:Fun K "go_on_with" "Frame.go_on_with" cO a.aV a.dq
 f6:Meth K a.az "go_on_with" a.aV
 g6:Binds K a.dq ["self","value"] []
 cJ:Fun K "go_on_in_arm" "Frame.go_on_in_arm" d9 a.aO a.cH
 jY:Meth K a.az "go_on_in_arm" a.aO
 lh:Binds K a.cH ["self"] []
 aD:Cls K a.aA
 wM:mg "Walk" = some (.ref a.aA)
 wO:Mk K a.aA a.bO
 cy:bw K a.aA "functions"
 cp:bw K a.aA "running"
 fh:bw K a.aA "coins"
 jG:bw K a.aA "done"
 cD:bw K a.aA "ending"
 ig:Fun K "__init__" "Walk.__init__" jf a.bO a.kX
 Ma:Meth K a.aA "__init__" a.bO
 lb:Binds K a.kX ["self","program","f","args","coins"] []
 ie:Fun K "turn" "Walk.turn" je a.b8 a.kW
 gk:Meth K a.aA "turn" a.b8
 ib:Binds K a.kW ["self"] []
 fi:Fun K "frames" "Walk.frames" gx a.bA a.iP
 sr:Meth K a.aA "frames" a.bA
 uC:Binds K a.iP ["self"] []
 gn:Fun K "purse" "Walk.purse" iu a.bN a.jK
 iN:Meth K a.aA "purse" a.bN
 jM:Binds K a.jK ["self"] []
 gm:Fun K "steps" "Walk.steps" ip a.bM a.jJ
 cZ:Meth K a.aA "steps" a.bM
 d5:Binds K a.jJ ["self"] []
 jO:Fun K "end" "Walk.end" kc a.cG a.mW
 ft:Meth K a.aA "end" a.cG
 g0:Binds K a.mW ["self"] []
 l9:Fun K "do" "Walk.do" my a.dA a.pe
 AR:Meth K a.aA "do" a.dA
 EM:Binds K a.pe ["self","frame"] []
 g8:Fun K "do_give" "Walk.do_give" jQ a.bp a.gY
 pZ:Meth K a.aA "do_give" a.bp
 tG:Binds K a.gY ["self","frame"] []
 d8:Fun K "do_make" "Walk.do_make" fB a.bo a.gX
 pY:Meth K a.aA "do_make" a.bo
 tF:Binds K a.gX ["self","frame"] []
 df:Fun K "do_coins" "Walk.do_coins" er a.bf a.fS
 oS:Meth K a.aA "do_coins" a.bf
 qh:Binds K a.fS ["self","frame","word"] []
 de:Fun K "end_with" "Walk.end_with" eh a.bc a.fR
 i3:Meth K a.aA "end_with" a.bc
 jV:Binds K a.fR ["self","ending"] []
 pS:Dn K mg "number_of" kg a.dw a.pJ ["functions","name"]
 C9:Dn K mg "spots" vL a.lR a.CH ["body"]
 jX:Dn K mg "spots_beneath" fC a.bI a.jU ["piece","number"]
 zK:Dn K mg "pieces" rg a.ja a.zj ["body"]
 pT:Dn K mg "makers_in" kh a.dy a.pK ["value"]
 JG:Dn K mg "size" Ag a.oW a.IZ ["value"]
 Dc:Dn K mg "depth" vN a.lU a.CL ["value"]
 Og:Dn K mg "ran" Gr a.u6 a.N4 ["program","f","args","coins","most"]
 BJ:Dn K mg "need" Ah a.oX a.I0 ["program","f","args","most"]
 nc:Dn K mg "end_told" mD a.e6 a.sU ["walk"]
 lD:Dn K mg "greatest_pay" gB a.bZ a.kU ["program"]
 xX:Dn K mg "_law_deal" Aj a.oZ a.Jb ["_law_script","_law_base"]
 cK:Dn K mg "_law_draw" Ai a.oY a.Ja ["_law_deal_here","_law_many"]
 C8:Dn K mg "_law_words" vK a.lQ a.CG ["_law_deal_here","_law_many"]
 oC:Dn K mg "_law_listed" rh a.jb a.zk ["_law_body"]
 xV:Dn K mg "_law_sizes" vM a.lS a.CJ ["_law_value_here"]
 qL:Dn K mg "_law_begun" vP a.lX a.CN ["_law_program","_law_f","_law_args","_law_coins"]
 uH:Dn K mg "_law_on" OB a.Em a.Uk ["_law_state","_law_n","_law_names","_law_values"]
 g9:Dn K mg "_law_halted" rj a.jc a.zm ["_law_state","_law_end"]
 xW:Dn K mg "_law_given" BX a.lT a.CK ["_law_program","_law_state","_law_value_here"]
 lE:Dn K mg "_law_case_step" pE a.dz a.pL ["_law_state","_law_n","_law_piece","_law_value_here"]
 m9:Dn K mg "_law_step" Af a.oV a.IY ["_law_program","_law_state"]
 zL:Dn K mg "_law_grower" rn a.jd a.zo ["_law_deal_here"]
 Dd:Dn K mg "_law_chain" vO a.lV a.CM ["_law_maker","_law_last","_law_names","_law_many"]
 zJ:Dn K mg "_law_plenty" q9 a.i9 a.zi ["_law_program","_law_args","_law_most"]
 UT:Dn K mg "law" pC a.u7 a.N5 ["_law_script"]
 zu:mg "len" = none
 W5:mg "all" = none
 Bs:mg "list" = none
 CS:mg "tuple" = none
 Jq:mg "int" = none
 xH:mg "dict" = none
 mZ:mg "reversed" = none
 CT:mg "max" = none
 N8:mg "min" = none
 Ux:mg "sum" = none
 qJ:mg "range" = none
 Jp:mg "zip" = none
 zw:mg "enumerate" = none
 uB:∃ t,mg "MOST_MAKERS" = some (.int 200 t)
 uA:∃ t,mg "MOST_WITHIN" = some (.int 60 t)
def wR:Str:="abcdefghijklmnopqrstuvwxyz"
def y8:List Str:=["kind","def","to","let","make","call"]
def mv:List Str:=["name","case","end","pay","get","give"]
def kept:List Str:=y8++mv
def near:List Str:=["lets","callx","payer","ender","tom","nameb","makes","gets","giver","kinds","defs","cases"]
theorem Co{i:Int}(h0:0<=i)(h1:i<26):atI (Str.cps wR).toList i=some (p6 i.toNat):=by
 obtain⟨n,rfl⟩:∃ n:Nat,i=n:=⟨i.toNat,by omega⟩
 have h2:n<26:=by omega
 have h3:∀ n:Fin 26,atI (Str.cps wR).toList (n.val:Int)=some (p6 n.val):=by decide +kernel
 have:=h3 ⟨n,h2⟩
 simpa using this
theorem HS:∀ w∈near,1<=w.length/\w.length<=20:=by decide +kernel
theorem Cr{α:Type}{f:α->T}(h:∀ x,(f x).im=true):∀ xs:List α,T.ims (xs.map f)=true
 | []=>by simp[T.ims]
 | x::r=>by simp[T.ims,h x,Cr h r]
def Lj:PSp:=fun ts Q=>∃ m:Int,ts = [.og,.i m]/\0<m/\m<=52/\∀ ws:List Str,(ws.length:Int)=m->ws.Nodup ->(∀ w∈ws,1<=w.length/\w.length<=20)->Q (.l (ws.map .s))
variable{ws:List Str}
theorem i7{w:Str}:inT (.s w) (ws.map T.s)=inV (.str w) (ws.map V.str):=by
 unfold inT inV;rw[ZJ,ZJ];rfl
theorem IH(ws:List Str):fls (ws.map T.s)=true:=by
 unfold fls;rw[ZK,XH];exact fun _ _=>rfl
theorem sO(ws:List Str):T.ims (ws.map T.s)=true:=Cr (fun _=>rfl) ws
theorem noq{w z:Str}(h:z∈mv):w++("q":Str)≠z:=by
 intro e;have h1:(w++("q":Str)).cps.toList.getLast? = some 113:=by simp[Str.cps_append,show(Str.ofString "q").cps = #[113]from by decide +kernel]
 rw[e]at h1;have h2:∀ z∈mv,z.cps.toList.getLast? ≠ some 113:=by decide +kernel
 exact h2 z h h1
theorem Pt{w:Str}:inV (.str (w++("q":Str))) (mv.map V.str)=false:=by
 cases e:inV (.str (w++("q":Str))) (mv.map V.str)with
 | false=>rfl
 | true=>exact absurd rfl (noq (w:=w) (Mt.mp e))
theorem mT{w:Str}:inV (.str w) (kept.map V.str) =(inV (.str w) (y8.map V.str)||inV (.str w) (mv.map V.str)):=by
 unfold kept inV;rw[YI,List.any_append]
theorem CV{i:Int}(h0:0<=i)(h1:i<ws.length):∃ w,atI (ws.map T.s) i=some (.s w)/\w∈ws:=by
 obtain⟨v,e,hm⟩:=Jr (xs:=ws.map T.s) h0 (by simpa using h1)
 obtain⟨w,hw,rfl⟩:=XC.mp hm;exact⟨w,e,hw⟩
variable{P:Program}{mg:Str->Option Value}{base:Heap}
theorem never{w:World}{K:W.Frag}{CX:CXT}{k:Nat}{f:Addr}{fd:FuncData}{ps:List Str}{sp:PSp}(h:∀ ts Q,¬ sp ts Q):aP P w K mg base CX k f fd ps (spQ K sp) :=
 ⟨fun _ _ _ _ hz=>by obtain⟨_,ts,_,Qp,_,_,z,_⟩:=hz;exact(h ts Qp z).elim,fun _ _ _ _ _ _ _ _ _ _ _ _ _ hz=>by obtain⟨_,ts,_,Qp,_,_,z,_⟩:=hz;exact(h ts Qp z).elim⟩
theorem dW{x:L2.T}:∀{xs:List L2.T},T.ims xs=true->x∈xs->x.im=true
 | y::r,h,hx=>by
  have h:(y.im&&T.ims r)=true:=h;rw[Xi]at h;rcases QH.mp hx with e|hx
  ·rw[e];exact h.1
  ·exact dW h.2 hx
theorem bW{ts:List L2.T}(h:∀ t∈ts,t.im=true):L2.T.ims ts=true:=by
 induction ts with
 | nil=>rfl
 | cons t r ih=>show(t.im&&L2.T.ims r)=true;rw[h t j5,ih fun t ht=>h t (Es _ ht)];rfl
theorem aW{n:Nat}(h:n<=1002000):n<WT:=YY h (by decide)
theorem CZ{α:Type}{xs:List α}{b:α}(h:xs.getLast? = some b):atI xs (-1)=some b:=by
 obtain⟨ys,rfl⟩:=List.getLast?_eq_some_iff.mp h;exact L2.tH ys b
theorem sv{ns:List (Key×L2.T)}{k k':Key}{v:L2.T}:bS (dC ns k v) k'=if k=k' then some v else bS ns k':=by
 unfold dC;by_cases h:(ns.any fun p=>decide (p.1=k))=true
 ·rw[if_pos h];unfold bS
  induction ns with
  | nil=>simp at h
  | cons p r ih =>
   rw[Xs,XF,XF];by_cases e:p.1=k
   ·rw[if_pos e];by_cases e2:k=k'
    ·rw[show decide (p.1=k')=true from decide_eq_true (e.trans e2),if_pos e2];rfl
    ·rw[show decide (p.1=k')=false from decide_eq_false fun z=>e2 (e.symm.trans z),if_neg e2]
     by_cases h':(r.any fun p=>decide (p.1=k))=true
     ·have:=ih h';rw[if_neg e2]at this;exact this
     ·have:(r.map fun p=>if p.1=k then(p.1,v)else p)=r:=by
       rw[show r=r.map id from(List.map_id r).symm,YM];refine Zu fun z hz=>?_
       show(if z.1=k then(z.1,v)else z)=z
       rw[if_neg fun q=>h' (YB.mpr ⟨z,hz,decide_eq_true q⟩)]
      rw[this]
   ·rw[if_neg e];by_cases e2:p.1=k'
    ·rw[show decide (p.1=k')=true from decide_eq_true e2,if_neg fun z=>e (e2.trans z.symm)]
    ·rw[show decide (p.1=k')=false from decide_eq_false e2];refine ih ?_;rw[Ys,show decide (p.1=k)=false from decide_eq_false e,YT]at h;exact h
 ·rw[if_neg h];unfold bS;rw[List.find?_append];by_cases e2:k=k'
  ·have:ns.find? (fun p=>decide (p.1=k'))=none:=List.find?_eq_none.mpr fun z hz q=>h (YB.mpr ⟨z,hz,decide_eq_true ((of_decide_eq_true q).trans e2.symm)⟩)
   rw[this,if_pos e2,Option.none_or,XF,show decide (k=k')=true from decide_eq_true e2];rfl
  ·rw[if_neg e2,XF,show decide (k=k')=false from decide_eq_false e2,List.find?_nil,Option.or_none]
theorem Ct:∀{ns:List (Key×L2.T)},(∀ p∈ns,p.2.im=true)->T.imk ns=true
 | [],_=>rfl
 | (k,x)::r,h=>by
  show(x.im&&T.imk r)=true;rw[h (k,x) j5,Ct fun p hp=>h p (Es _ hp)];rfl
theorem xk:∀{ns:List (Key×L2.T)},T.imk ns=true->∀ p∈ns,p.2.im=true
 | (k,x)::r,h,p,hp=>by
  have h:(x.im&&T.imk r)=true:=h;rw[Xi]at h;rcases QH.mp hp with e|hp
  ·rw[e];exact h.1
  ·exact xk h.2 p hp
theorem Cs{ns:List (Key×L2.T)}{k:Key}{v:L2.T}(h:T.imk ns=true)(hv:v.im=true):T.imk (dC ns k v)=true:=by
 refine Ct fun p hp=>?_
 unfold dC at hp
 split at hp
 ·obtain⟨z,hz,rfl⟩:=XC.mp hp
  split
  ·exact hv
  ·exact xk h z hz
 ·rcases Xj.mp hp with z|z
  ·exact xk h p z
  ·rw[qr.mp z];exact hv
theorem Cp{ns:List (Key×L2.T)}{k:Key}{v:L2.T}:(dC ns k v).length<=ns.length+1:=by
 unfold dC
 split
 ·rw[PZ];omega
 ·rw[Xl];exact Xa _
theorem lP:∀{kts acc:List (Key×L2.T)},T.imk acc=true ->(∀ p∈kts,p.2.im=true)->T.imk (aS acc kts)=true
 | [],_,h,_=>h
 | p::r,acc,h,hk=>lP (kts:=r) (Cs h (hk p j5)) fun q hq=>hk q (Es _ hq)
theorem oT:∀{kts acc:List (Key×L2.T)},(aS acc kts).length<=acc.length+kts.length
 | [],_=>Xa _
 | p::r,acc=>by
  have h1:(aS (dC acc p.1 p.2) r).length <=(dC acc p.1 p.2).length+r.length:=oT;have h2:=Cp (ns:=acc) (k:=p.1) (v:=p.2);show(aS (dC acc p.1 p.2) r).length<=_;rw[Xn];omega
def fT(C x:Addr)(f n:Int)(p:L2.T)(ns:List (Key×L2.T)):L2.T:=.om x C ["f","number","piece","names"] [.i f,.i n,p,.d ns]
def wT(C a:Addr)(fns:L2.T)(frs:List L2.T)(c n:Int)(e:L2.T):L2.T:=.om a C ["functions","running","coins","done","ending"] [fns,.l frs,.i c,.i n,e]
abbrev wy(frs:List L2.T):Way:=[.inl "running",.inr frs.length]
variable{C:Addr}{n:Int}
theorem Kh{a:Addr}{fns:L2.T}{frs:List L2.T}{c:Int}{e t:L2.T}:T.sub (wy frs) (wT C a fns (frs ++ [t]) c n e)=some t:=by
 show(match(frs ++ [t])[frs.length]? with|some u=>some u|none=>none)=some t
 rw[XG (Xa _),Ze];rfl
theorem Lh{a:Addr}{fns:L2.T}{frs:List L2.T}{c:Int}{e t u:L2.T}:T.put u (wy frs) (wT C a fns (frs ++ [t]) c n e)=wT C a fns (frs ++ [u]) c n e:=by
 have h:(frs ++ [t])[frs.length]? = some t:=by
  rw[XG (Xa _),Ze];rfl
 have e1:T.put u [.inr frs.length] (.l (frs ++ [t])) = .l (frs ++ [u]):=by
  show(match(frs ++ [t])[frs.length]? with|some x=>L2.T.l ((frs ++ [t]).set frs.length u)|none=>.l (frs ++ [t]))=_
  rw[h];simp
 show L2.T.om a C _ [fns,T.put u [.inr frs.length] (.l (frs ++ [t])),.i c,.i n,e]=_;rw[e1];rfl
theorem qI{a:Addr}{fns:L2.T}{frs:List L2.T}{c:Int}{e t u:L2.T}{Q:L2.T->L2.T->Prop}{r:L2.T}(h:Q r (wT C a fns (frs ++ [u]) c n e)):(T.put u (wy frs) (wT C a fns (frs ++ [t]) c n e)).adr=some a/\Q r (T.put u (wy frs) (wT C a fns (frs ++ [t]) c n e)):=by
 rw[Lh];exact⟨rfl,h⟩
variable{CF:Addr}{x:Addr}{m:Int}
theorem aR{a:Addr}{fns:L2.T}{frs:List L2.T}{c f:Int}{e p:L2.T}{ns:List (Key×L2.T)}:T.sub (wy frs) (wT C a fns (frs ++ [fT CF x f n p ns]) c m e)=some (.om x CF ["f","number","piece","names"] [.i f,.i n,p,.d ns]):=Kh
def O5(C:Addr):j8:=fun ts Q=>∃ x f n p ns b k,ts = [fT C x f n p ns,b,.i k]/\b.im=true/\Q .n (fT C x f (n+(1+k)) b ns)
def AA(C:Addr):j8:=fun ts Q=>∃ x f n ps ns v y b,ts = [fT C x f n (.t ps) ns,v]/\v.im=true/\T.imk ns=true/\ns.length<1000/\T.ims ps=true/\ps[1]? = some (.s y)/\ps.getLast? = some b/\Q .n (fT C x f (n+1) b (dC ns (.inr y) v))
def Looks(ns:List (Key×L2.T))(ys:List Str)(vs:List L2.T):Prop:=vs.length=ys.length/\∀(i:Nat)(y:Str),ys[i]? = some y->∃ v,vs[i]? = some v/\bS ns (.inr y)=some v/\v.im=true
def Aw(C:Addr):PSp:=fun ts Q=>∃ x f n p ns ys vs,ts = [fT C x f n p ns,.t (ys.map .s)]/\ys.length<=1000/\Looks ns ys vs/\Q (.t vs)
structure Fn where
 nm:L2.T
 prs:List (Str×L2.T)
 kd:L2.T
 b:L2.T
def Fn.t(g:Fn):L2.T:=.t [g.nm,.t (g.prs.map fun p=>.t [.s p.1,p.2]),g.kd,g.b]
def pN(gs:List Fn):Prop:=L2.T.ims (gs.map Fn.t)=true
def Fn.names(g:Fn)(vs:List L2.T):List (Key×L2.T):=aS [] ((g.prs.map fun p=>(.inr p.1:Key)).zip vs)
theorem Fn.yU{g:Fn}{vs:List L2.T}(h:T.ims vs=true):T.imk (g.names vs)=true:=lP rfl fun p hp=>dW h (Yc hp).2
theorem Fn.D6{g:Fn}{vs:List L2.T}:(g.names vs).length<=g.prs.length:=by
 have h1:(g.names vs).length<=0+((g.prs.map fun p=>(.inr p.1:Key)).zip vs).length:=oT
 rw[Yd,PZ]at h1;omega
def Arg(t2:Bool)(vs:List L2.T)(u:L2.T):Prop:=t2=true/\u = .t vs\/t2=false/\(u = .zl vs\/u = .l vs)
def yH(C:Addr)(t2:Bool):j8:=fun ts Q=>∃ x gs f g vs u,ts = [.om x C [] [],.t (gs.map Fn.t),.i (f:Nat),u]/\pN gs/\gs[f]? = some g/\g.prs.length<=100/\T.ims vs=true/\Arg t2 vs u/\Q .n (fT C x f 0 g.b (g.names vs))
def Av(CW CF:Addr)(t2:Bool):j8:=fun ts Q=>∃ a ks gs f g vs u c,ts = [.om a CW [] [],.t [ks,.t (gs.map Fn.t)],.i (f:Nat),u,.i c]/\pN gs/\gs[f]? = some g/\g.prs.length<=100/\T.ims vs=true/\ks.im=true/\Arg t2 vs u/\∀ x,Q .n (wT CW a (.t (gs.map Fn.t)) [fT CF x f 0 g.b (g.names vs)] c 0 .n)
def DF(CW:Addr):j8:=fun ts Q=>∃ a fns frs c m e v,ts = [wT CW a fns frs c m e,v]/\v.im=true/\Q .n (wT CW a fns [] c m v)
def Az(CW:Addr)(g:Int->Int->L2.T->L2.T):PSp:=fun ts Q=>∃ a fns frs c m e,ts = [wT CW a fns frs c m e]/\e.im=true/\Q (g c m e)
inductive Vl where
 | mk(m:Str)(ps:List Vl)
mutual
def Vl.t:Vl->L2.T
 | .mk m ps=>.t [.s m,.t (Vl.ts ps)]
def Vl.ts:List Vl->List L2.T
 | []=>[]
 | v::r=>v.t::Vl.ts r
end
mutual
def Vl.sz:Vl->Nat
 | .mk _ ps=>1+Vl.szs ps
def Vl.szs:List Vl->Nat
 | []=>0
 | v::r=>v.sz+Vl.szs r
end
mutual
def Vl.dp:Vl->Nat
 | .mk _ ps=>1+Vl.dps ps
def Vl.dps:List Vl->Nat
 | []=>0
 | v::r=>max v.dp (Vl.dps r)
end
theorem Vl.FL:∀ ps:List Vl,Vl.ts ps=ps.map Vl.t
 | []=>rfl
 | v::r=>by rw[Vl.ts,Vl.FL r];rfl
theorem Vl.im:∀ v:Vl,v.t.im=true:=by
 intro v;refine Vl.rec (motive_1:=fun v=>v.t.im=true) (motive_2:=fun ps=>L2.T.ims (Vl.ts ps)=true) (fun m ps ih=>?_) rfl (fun v r h1 h2=>?_) v
 ·show(true&&(L2.T.ims (Vl.ts ps)&&true))=true;rw[ih];rfl
 ·show(v.t.im&&L2.T.ims (Vl.ts r))=true;rw[h1,h2];rfl
theorem Vl.ims(ps:List Vl):L2.T.ims (ps.map Vl.t)=true:=bW fun t ht=>by
 obtain⟨v,_,rfl⟩:=XC.mp ht;exact v.im
theorem Vl.lF:∀(xs ys:List Vl),Vl.szs (xs++ys)=Vl.szs xs+Vl.szs ys
 | [],ys=>by rw[Vl.szs,Nat.zero_add];rfl
 | v::r,ys=>by rw[Y9,Vl.szs,Vl.szs,Vl.lF r ys,Nat.add_assoc]
theorem Vl.vA:∀(xs:List Vl),Vl.szs xs.reverse=Vl.szs xs
 | []=>rfl
 | v::r=>by rw[Yy,Vl.lF,Vl.vA r,Vl.szs,Vl.szs,Vl.szs];omega
theorem Vl.nZ:∀(xs:List Vl),xs.length<=Vl.szs xs
 | []=>Xa _
 | .mk m ps::r=>by rw[Vl.szs,Vl.sz,Xn];have:=Vl.nZ r;omega
theorem Vl.Cz:∀(xs ys:List Vl),Vl.dps (xs++ys)=max (Vl.dps xs) (Vl.dps ys)
 | [],ys=>by show Vl.dps ys=max 0 _;omega
 | v::r,ys=>by rw[Y9,Vl.dps,Vl.dps,Vl.Cz r ys];omega
def Vl.ps:Vl->List Vl
 | .mk _ ps=>ps
def Vl.mm:Vl->Str
 | .mk m _=>m
theorem Vl.Di(v:Vl):v.t = .t [.s v.mm,.t (v.ps.map Vl.t)]:=by
 cases v with
 | mk m ps=>rw[Vl.t,Vl.FL];rfl
def O4:PSp:=fun ts Q=>∃ v:Vl,ts = [v.t]/\v.sz<=1000/\∀ L:List Str,L.length=v.sz->Q (.l (L.map .s))
def VM:PSp:=fun ts Q=>∃ v:Vl,ts = [v.t]/\v.sz<=1000/\Q (.i (v.sz:Nat))
def VO:PSp:=fun ts Q=>∃ v:Vl,ts = [v.t]/\v.sz<=1000/\Q (.i (v.dp:Nat))
def DG(CW CF:Addr):j8:=fun ts Q=>∃ a x fns frs f n wd k b ns c m,ts = [wT CW a fns (frs ++ [fT CF x f n (.t [.s wd,.i k,b]) ns]) c m .n,.rf x,.s wd]/\b.im=true/\(wd = "pay" \/ wd = "get") /\
 ((wd = "pay" /\ k > c->Q .n (wT CW a fns [] c m (.t [.s "short",.i k])))/\(wd = "pay" /\ ¬ k > c->Q .n (wT CW a fns (frs ++ [fT CF x f (n+1) b ns]) (c - k) m .n))/\(wd = "get" -> Q .n (wT CW a fns (frs ++ [fT CF x f (n+1) b ns]) (c+k) m .n)))
def Hq(CW CF:Addr):j8:=fun ts Q=>∃ a x fns frs f n y mk ys vs b ns c m,ts = [wT CW a fns (frs ++ [fT CF x f n (.t [.s "make",.s y,.s mk,.t (ys.map .s),b]) ns]) c m .n,.rf x]/\b.im=true/\T.imk ns=true/\ns.length<1000/\ys.length<=1000/\Looks ns ys (vs.map Vl.t)/\(Vl.mk mk vs).sz<=1000 /\
 (((Vl.mk mk vs).sz > 200\/(Vl.mk mk vs).dp > 60->Q .n (wT CW a fns [] c m (.t [.s "great",.s mk])))/\(¬((Vl.mk mk vs).sz > 200\/(Vl.mk mk vs).dp > 60)->Q .n (wT CW a fns (frs ++ [fT CF x f (n+1) b (dC ns (.inr y) (Vl.mk mk vs).t)]) c m .n)))
inductive Nb where
 | on(n:Int)(p:L2.T)(ns:List (Key×L2.T))(c:Int)
 | push(g:Nat)(vs:List L2.T)
 | fin(c:Int)(e:L2.T)
def Hk:PSp:=fun ts Q=>∃(gs:List Fn)(nm:Str)(f:Nat)(g:Fn),ts = [.t (gs.map Fn.t),.s nm]/\pN gs/\gs[f]? = some g/\g.nm = .s nm/\(∀(j:Nat)(g':Fn),j<f->gs[j]? = some g'->∃ s',g'.nm = .s s'/\s'≠nm)/\Q (.i (f:Nat))
inductive m4(gs:List Fn):Int->L2.T->List (Key×L2.T)->Int->Nb->Prop
 | short{n k c:Int}{b:L2.T}{ns:List (Key×L2.T)}:b.im=true->k > c->m4 gs n (.t [.s "pay",.i k,b]) ns c (.fin c (.t [.s "short",.i k]))
 | pay{n k c:Int}{b:L2.T}{ns:List (Key×L2.T)}:b.im=true->¬ k > c->m4 gs n (.t [.s "pay",.i k,b]) ns c (.on (n+1) b ns (c - k))
 | get{n k c:Int}{b:L2.T}{ns:List (Key×L2.T)}:b.im=true->m4 gs n (.t [.s "get",.i k,b]) ns c (.on (n+1) b ns (c+k))
 | name{n:Int}{y z:Str}{v b:L2.T}{c:Int}{ns:List (Key×L2.T)}:b.im=true->bS ns (.inr z)=some v->v.im=true->m4 gs n (.t [.s "name",.s y,.s z,b]) ns c (.on (n+1) b (dC ns (.inr y) v) c)
 | great{n:Int}{y mk:Str}{ys:List Str}{vs:List Vl}{b:L2.T}{c:Int}{ns:List (Key×L2.T)}:b.im=true->ys.length<=1000->Looks ns ys (vs.map Vl.t) ->((Vl.mk mk vs).sz<=1000/\(Vl.mk mk vs).dp<=62) ->(Vl.mk mk vs).sz > 200\/(Vl.mk mk vs).dp > 60->m4 gs n (.t [.s "make",.s y,.s mk,.t (ys.map .s),b]) ns c (.fin c (.t [.s "great",.s mk]))
 | make{n:Int}{y mk:Str}{ys:List Str}{vs:List Vl}{b:L2.T}{c:Int}{ns:List (Key×L2.T)}:b.im=true->ys.length<=1000->Looks ns ys (vs.map Vl.t) ->((Vl.mk mk vs).sz<=1000/\(Vl.mk mk vs).dp<=62)->¬((Vl.mk mk vs).sz > 200\/(Vl.mk mk vs).dp > 60)->m4 gs n (.t [.s "make",.s y,.s mk,.t (ys.map .s),b]) ns c (.on (n+1) b (dC ns (.inr y) (Vl.mk mk vs).t) c)
 | call{n:Int}{y nm:Str}{ys:List Str}{vs:List L2.T}{b:L2.T}{c:Int}{ns:List (Key×L2.T)}{f:Nat}{g:Fn}:b.im=true->ys.length<=1000->Looks ns ys vs->gs[f]? = some g->g.nm = .s nm ->(∀(j:Nat)(g':Fn),j<f->gs[j]? = some g'->∃ s',g'.nm = .s s'/\s'≠nm)->g.prs.length<=100->m4 gs n (.t [.s "call",.s y,.s nm,.t (ys.map .s),b]) ns c (.push f vs)
def OH(CW CF a:Addr)(gs:List Fn)(frs:List L2.T)(x:Addr)(f n:Int)(p:L2.T)(ns:List (Key×L2.T))(c m:Int):Nb->L2.T->Prop
 | .on n' p' ns' c',t=>t=wT CW a (.t (gs.map Fn.t)) (frs ++ [fT CF x f n' p' ns']) c' m .n
 | .push h vs,t=>∃ x' g,gs[h]? = some g/\t=wT CW a (.t (gs.map Fn.t)) (frs ++ [fT CF x f n p ns] ++ [fT CF x' h 0 g.b (g.names vs)]) c m .n
 | .fin c' e,t=>t=wT CW a (.t (gs.map Fn.t)) [] c' m e
def VP(CW CF:Addr):j8:=fun ts Q=>∃ a x gs frs f n p ns c m r,ts = [wT CW a (.t (gs.map Fn.t)) (frs ++ [fT CF x f n p ns]) c m .n,.rf x]/\pN gs/\T.imk ns=true/\ns.length<1000/\frs.length<10000/\m4 gs n p ns c r/\∀ t,OH CW CF a gs frs x f n p ns c m r t->Q .n t
def Ax(CW CF:Addr):j8:=fun ts Q=>(∃ a x gs frs f n p ns c m r,ts = [wT CW a (.t (gs.map Fn.t)) (frs ++ [fT CF x f n p ns]) c m .n]/\pN gs/\T.imk ns=true/\ns.length<1000/\frs.length<10000/\m4 gs n p ns c r/\∀ t,OH CW CF a gs frs x f n p ns c (m+1) r t->Q (.b (match r with | .fin _ _=>false | _=>true)) t) \/
 ∃ a fns c m ps,ts = [wT CW a fns [] c m (.t ps)]/\T.ims ps=true/\Q (.b false) (wT CW a fns [] c m (.t ps))
theorem Looks.ims{ns:List (Key×L2.T)}{ys:List Str}{vs:List L2.T}(h:Looks ns ys vs):L2.T.ims vs=true:=bW fun t ht=>by
 obtain⟨hl,hv⟩:=h;obtain⟨i,hi,rfl⟩:=Ye ht;obtain⟨v,h1,h2,h3⟩:=hv i (ys[i]'(by omega)) (RH (by omega))
 rw[RH hi]at h1;cases h1;exact h3
def M0(x:Str×List Str×L2.T):L2.T:=.t [.s x.1,.t (x.2.1.map .s),x.2.2]
inductive Lst:Nat->L2.T->List L2.T->Prop
 | give{k:Nat}{y:Str}:Lst (k+1) (.t [.s "give",.s y]) [.t [.s "give",.s y]]
 | more{k:Nat}{w:Str}{ps:List L2.T}{b:L2.T}{L:List L2.T}:ps[0]? = some (.s w)->w ≠ "give" -> w ≠ "case" -> ps.getLast? = some b->T.ims ps=true->Lst k b L->Lst (k+1) (.t ps) (.t ps::L)
 | case{k:Nat}{x:Str}{arms:List (Str×List Str×L2.T)}{Ls:List (List L2.T)}:Ls.length=arms.length ->(∀(i:Nat)(z:Str×List Str×L2.T)(L:List L2.T),arms[i]? = some z->Ls[i]? = some L->Lst k z.2.2 L)->T.ims (arms.map M0)=true->Lst (k+1) (.t [.s "case",.s x,.t (arms.map M0)]) (.t [.s "case",.s x,.t (arms.map M0)]::Ls.flatten)
theorem Lst.im{k:Nat}{b:L2.T}{L:List L2.T}(h:Lst k b L):b.im=true:=by
 cases h with
 | give=>rfl
 | more _ _ _ _ h _=>exact h
 | case _ _ h=>show(true&&(true&&(L2.T.ims _&&true)))=true;rw[h];rfl
theorem Lst.ims{k:Nat}:∀{b:L2.T}{L:List L2.T},Lst k b L->T.ims L=true:=by
 induction k with
 | zero=>intro b L h;cases h
 | succ k ih =>
  intro b L h;have hb:=h.im;cases h with
  | give=>rfl
  | more _ _ _ _ _ h2 =>
    refine bW fun t ht=>?_
    rcases QH.mp ht with rfl|ht
    ·exact hb
    ·exact dW (ih h2) ht
  | @case _ x arms Ls hl h2 h3 =>
    refine bW fun t ht=>?_
    rcases QH.mp ht with rfl|ht
    ·exact hb
    ·obtain⟨L,hL,ht⟩:=Za.mp ht;obtain⟨i,hi,rfl⟩:=Ye hL;exact dW (ih (h2 i (arms[i]'(by omega)) _ (RH (by omega)) (RH hi))) ht
def Hl(k:Nat):PSp:=fun ts Q=>∃(b:L2.T)(L:List L2.T),ts = [b]/\Lst k b L/\L.length<=100000/\Q (.l L)
def Ll(k:Nat):PSp:=fun ts Q=>∃ v:Vl,ts = [v.t]/\v.dp<=k/\v.sz<=1000/\Q (.t [.i (v.sz:Nat),.i (v.dp:Nat)])
theorem Vl.IP:∀{ps:List Vl}{u:Vl},u∈ps->u.dp<=Vl.dps ps
 | v::r,u,h=>by
  rw[Vl.dps];rcases QH.mp h with rfl|h
  ·omega
  ·have:=Vl.IP h;omega
theorem Vl.FW:∀{ps:List Vl}{u:Vl},u∈ps->u.sz<=Vl.szs ps
 | v::r,u,h=>by
  rw[Vl.szs];rcases QH.mp h with rfl|h
  ·omega
  ·have:=Vl.FW h;omega
theorem Vl.BR:∀ ps:List Vl,((ps.map fun u=>((u.sz:Nat):Int)).sum) =(Vl.szs ps:Nat)
 | []=>rfl
 | v::r=>by rw[Xs,Zz,Vl.BR r,Vl.szs];omega
theorem Vl.MF:∀ ps:List Vl,nX (ps.map fun u=>((u.dp:Nat):Int)) 0 =(Vl.dps ps:Nat):=by
 intro ps;have key:∀(r:List Vl)(x:Nat),(r.map fun u=>((u.dp:Nat):Int)).foldl max (x:Int) =(max x (Vl.dps r):Nat):=by
  intro r
  induction r with
  | nil=>intro x;show(x:Int) =((max x 0:Nat):Int);omega
  | cons v r ih=>intro x;rw[Xs,List.foldl_cons,Vl.dps,show max (x:Int) ((v.dp:Nat):Int) =((max x v.dp:Nat):Int)by omega,ih];omega
 cases ps with
 | nil=>rfl
 | cons v r=>show(r.map _).foldl max ((v.dp:Nat):Int)=_;rw[key,Vl.dps]
theorem iY{ts:List L2.T}(h:∀ t∈ts,t.pln=true):L2.T.dE ts=true:=by
 induction ts with
 | nil=>rfl
 | cons t r ih=>show(t.pln&&L2.T.dE r)=true;rw[h t j5,ih fun t ht=>h t (Es _ ht)];rfl
theorem iX{x:L2.T}:∀{xs:List L2.T},T.dE xs=true->x∈xs->x.pln=true
 | y::r,h,hx=>by
  have h:(y.pln&&T.dE r)=true:=h;rw[Xi]at h;rcases QH.mp hx with e|hx
  ·rw[e];exact h.1
  ·exact iX h.2 hx
theorem yJ:∀{ns:List (Key×L2.T)},(∀ p∈ns,p.2.pln=true)->T.hJ ns=true
 | [],_=>rfl
 | (k,x)::r,h=>by
  show(x.pln&&T.hJ r)=true;rw[h (k,x) j5,yJ fun p hp=>h p (Es _ hp)];rfl
theorem nQ:∀{ns:List (Key×L2.T)},T.hJ ns=true->∀ p∈ns,p.2.pln=true
 | (k,x)::r,h,p,hp=>by
  have h:(x.pln&&T.hJ r)=true:=h;rw[Xi]at h;rcases QH.mp hp with e|hp
  ·rw[e];exact h.1
  ·exact nQ h.2 p hp
theorem yI{ns:List (Key×L2.T)}{k:Key}{v:L2.T}(h:T.hJ ns=true)(hv:v.pln=true):T.hJ (dC ns k v)=true:=by
 refine yJ fun p hp=>?_
 unfold dC at hp
 split at hp
 ·obtain⟨z,hz,rfl⟩:=XC.mp hp
  split
  ·exact hv
  ·exact nQ h z hz
 ·rcases Xj.mp hp with z|z
  ·exact nQ h p z
  ·rw[qr.mp z];exact hv
theorem mJ:∀{kts acc:List (Key×L2.T)},T.hJ acc=true ->(∀ p∈kts,p.2.pln=true)->T.hJ (aS acc kts)=true
 | [],_,h,_=>h
 | p::r,acc,h,hk=>mJ (kts:=r) (yI h (hk p j5)) fun q hq=>hk q (Es _ hq)
theorem Fn.oR{g:Fn}{vs:List L2.T}(h:T.dE vs=true):T.hJ (g.names vs)=true:=mJ rfl fun p hp=>iX h (Yc hp).2
theorem Vl.pln:∀ v:Vl,v.t.pln=true:=by
 intro v;refine Vl.rec (motive_1:=fun v=>v.t.pln=true) (motive_2:=fun ps=>L2.T.dE (Vl.ts ps)=true) (fun m ps ih=>?_) rfl (fun v r h1 h2=>?_) v
 ·show(true&&(L2.T.dE (Vl.ts ps)&&true))=true;rw[ih];rfl
 ·show(v.t.pln&&L2.T.dE (Vl.ts r))=true;rw[h1,h2];rfl
def stT(stk:List L2.T)(c m:Int)(e:L2.T):List (Key×L2.T):=[(.inr "stack",.zl stk),(.inr "coins",.i c),(.inr "steps",.i m),(.inr "end",e)]
def frL(f n:Int)(o:Obj)(vs:List (Key×V))(ns:List (Key×L2.T)):L2.T:=.t [.i f,.i n,.fd o vs ns]
def Ln(t2:Bool):PSp:=fun ts Q=>∃(ks:L2.T)(gs:List Fn)(f:Nat)(g:Fn)(vs:List L2.T)(u:L2.T)(c:Int),ts = [.t [ks,.t (gs.map Fn.t)],.i (f:Nat),u,.i c]/\pN gs/\gs[f]? = some g/\g.prs.length<=100/\T.ims vs=true/\T.dE vs=true/\(t2=true/\u = .t vs\/t2=false/\(u = .zl vs\/u = .l vs))/\∀ o ws,Q (.d (stT [frL f 0 o ws (g.names vs)] c 0 .n))
def VN(t2:Bool):PSp:=fun ts Q=>∃(a:Addr)(stk:List L2.T)(f n n':Int)(o:Obj)(vs:List (Key×V))(ns:List (Key×L2.T))(c m:Int)(ys:List Str)(us:List L2.T)(u1 u2:L2.T),ts = [.dp a (stT (stk ++ [frL f n o vs ns]) c m .n),.i n',u1,u2]/\T.imk ns=true/\T.hJ ns=true/\ns.length+ys.length<1000/\us.length=ys.length/\T.ims us=true/\T.dE us=true/\stk.length<10000/\T.dE stk=true/\T.ims stk=true /\
 u1 =(if t2=true then .t (ys.map .s)else .zl (ys.map .s))/\u2 =(if t2=true then .t us else .zl us)/\∀ o' vs',Q (.dp a (stT (stk ++ [frL f n' o' vs' (aS ns ((ys.map fun y=>(.inr y:Key)).zip us))]) c m .n))
def Hm:PSp:=fun ts Q=>∃(a:Addr)(stk:List L2.T)(c m:Int)(e e':L2.T),ts = [.dp a (stT stk c m e),e']/\e.im=true/\e'.im=true/\Q (.dp a (stT [] c m e'))
theorem oh{α:Type}{xs:List α}{x:α}:jZ (xs ++ [x]) none (some (-1))=xs:=by
 have h1:HT.sIx (xs ++ [x]).length 0 none=0:=rfl;have h2:HT.sIx (xs ++ [x]).length (xs ++ [x]).length (some (-1))=xs.length:=by
  rw[Xl];show(-1+((xs.length+1:Nat):Int)).toNat=xs.length;omega
 unfold jZ;rw[h1,h2];simp
def RQ(a:Addr)(gs:List Fn)(stk:List L2.T)(f n:Int)(o:Obj)(vs:List (Key×V))(ns:List (Key×L2.T))(c m:Int):Nb->L2.T->Prop
 | .on n' _ ns' c',t=>∃ o' vs',t = .dp a (stT (stk ++ [frL f n' o' vs' ns']) c' m .n)
 | .push h us,t=>∃ o' vs' g,gs[h]? = some g/\t = .dp a (stT (stk ++ [frL f n o vs ns] ++ [frL h 0 o' vs' (g.names us)]) c m .n)
 | .fin c' e,t=>t = .dp a (stT [] c' m e)
def PlG(ns:List (Key×L2.T)):Prop:=T.imk ns=true/\T.hJ ns=true/\ns.length<900
def Ng(gs:List Fn):Prop:=∀ g∈gs,∃ s,g.nm = .s s
def Ay:PSp:=fun ts Q=>∃(a:Addr)(ks:L2.T)(gs:List Fn)(stk:List L2.T)(f n:Nat)(o:Obj)(vs:List (Key×V))(ns:List (Key×L2.T))(c m:Int)(g:Fn)(L:List L2.T)(p:L2.T)(r:Nb),ts = [.t [ks,.t (gs.map Fn.t)],.dp a (stT (stk ++ [frL f n o vs ns]) c m .n)]/\pN gs/\Ng gs/\gs.length<=100/\gs[f]? = some g/\Lst 60 g.b L/\L.length<=100000/\L[n]? = some p/\PlG ns/\stk.length<9000/\T.dE stk=true/\T.ims stk=true/\m4 gs n p ns c r/\∀ t,RQ a gs stk f n o vs ns c (m+1) r t->Q t
theorem D9{ns:List (Key×L2.T)}{k:Key}{v:L2.T}(h:bS ns k=some v):∃ p∈ns,p.2=v:=by
 unfold bS at h;obtain⟨p,hp,e⟩:=Xg.mp h;exact⟨p,List.mem_of_find?_eq_some hp,e⟩
theorem PlG.pln{ns:List (Key×L2.T)}(h:PlG ns){k:Key}{v:L2.T}(e:bS ns k=some v):v.pln=true:=by
 obtain⟨p,hp,rfl⟩:=D9 e;exact nQ h.2.1 p hp
theorem PlG.dE{ns:List (Key×L2.T)}(h:PlG ns){ys:List Str}{vs:List L2.T}(e:Looks ns ys vs):T.dE vs=true:=iY fun t ht=>by
 obtain⟨hl,hv⟩:=e;obtain⟨i,hi,rfl⟩:=Ye ht;obtain⟨v,h1,h2,h3⟩:=hv i (ys[i]'(by omega)) (RH (by omega))
 rw[RH hi]at h1;cases h1;exact h.pln h2
theorem P0{gs:List Fn}{h:Nat}{g:Fn}{nm:Str}(hn:Ng gs)(hg:gs[h]? = some g)(e:g.nm = .s nm)(hlt:∀(j:Nat)(g':Fn),j<h->gs[j]? = some g'->∃ s',g'.nm = .s s'/\s'≠nm):(gs.map (·.nm)).findIdx? (fun z=>eqV z.v (L2.T.s nm).v)=some h:=by
 obtain⟨hi,eg⟩:=VZ.mp hg;rw[YL];refine⟨by rw[PZ];exact hi,?_,fun j hj=>?_⟩
 ·rw[Zb,eg,e];show eqV (.str nm) (.str nm)=true;exact decide_eq_true rfl
 ·obtain⟨s',e1,hne⟩:=hlt j (gs[j]'(by omega)) hj (RH (by omega))
  rw[Zb,e1];show ¬ eqV (.str s') (.str nm)=true;exact fun z=>hne (of_decide_eq_true (show decide (s'=nm)=true from z))
theorem Qd{gs:List Fn}(hn:Ng gs):fls (gs.map (·.nm))=true:=XH.mpr fun x hx=>by
 obtain⟨g,hg,rfl⟩:=XC.mp hx;obtain⟨s,e⟩:=hn g hg;rw[e];rfl
inductive Pc where
 | pay(k:Int)|get (k:Int)|name (y z:Str)|make (y mk:Str) (ys:List Str)|call (y nm:Str) (ys:List Str)
def bdT(gv:Str):List Pc->L2.T
 | []=>.t [.s "give",.s gv]
 | .pay k::r=>.t [.s "pay",.i k,bdT gv r]
 | .get k::r=>.t [.s "get",.i k,bdT gv r]
 | .name y z::r=>.t [.s "name",.s y,.s z,bdT gv r]
 | .make y mk ys::r=>.t [.s "make",.s y,.s mk,.t (ys.map .s),bdT gv r]
 | .call y nm ys::r=>.t [.s "call",.s y,.s nm,.t (ys.map .s),bdT gv r]
theorem hV(ys:List Str):L2.T.ims (ys.map .s)=true:=bW fun t ht=>by
 obtain⟨_,_,rfl⟩:=XC.mp ht;rfl
theorem dr(gv:Str):∀ ps:List Pc,(bdT gv ps).im=true
 | []=>rfl
 | .pay k::r=>by show(true&&(true&&((bdT gv r).im&&true)))=true;rw[dr gv r];rfl
 | .get k::r=>by show(true&&(true&&((bdT gv r).im&&true)))=true;rw[dr gv r];rfl
 | .name y z::r=>by show(true&&(true&&(true&&((bdT gv r).im&&true))))=true;rw[dr gv r];rfl
 | .make y mk ys::r=>by show(true&&(true&&(true&&(L2.T.ims (ys.map .s)&&((bdT gv r).im&&true)))))=true;rw[dr gv r,hV];rfl
 | .call y mk ys::r=>by show(true&&(true&&(true&&(L2.T.ims (ys.map .s)&&((bdT gv r).im&&true)))))=true;rw[dr gv r,hV];rfl
def okP(np:Nat)(nm:Str):List Str->List Pc->Prop
 | _,[]=>False
 | sc,.pay k::r=>1<=k/\k<=3/\okP np nm sc r
 | sc,.get k::r=>1<=k/\k<=3/\okP np nm sc r
 | sc,.name y z::r=>z∈sc/\okP np nm (y::sc) r
 | sc,.make y _ ys::r=>ys.length<=2/\(∀ z∈ys,z∈sc)/\okP np nm (y::sc) r
 | sc,.call _ nm' ys::_=>nm'=nm/\ys.length=np/\∀ z∈ys,z∈sc
structure Gw where
 ks:L2.T
 nm:Str
 prs:List (Str×L2.T)
 kd:L2.T
 gv:Str
 pcs:List Pc
def Gw.g(W:Gw):Fn:=⟨.s W.nm,W.prs,W.kd,bdT W.gv W.pcs⟩
def Gw.t(W:Gw):L2.T:=.t [W.ks,.t ([W.g].map Fn.t)]
structure Gw.Ok(W:Gw):Prop where
 ks:W.ks.im=true
 kd:W.kd.im=true
 prs:∀ p∈W.prs,p.2.im=true
 np:W.prs.length<=2
 ok:okP W.prs.length W.nm (W.prs.map (·.1)) W.pcs
 ln:W.pcs.length<=5
 py:∀ k,Pc.pay k∈W.pcs->k<=3
theorem Gw.Ok.fns{W:Gw}(h:W.Ok):pN [W.g]:=by
 show((true&&(L2.T.ims (W.prs.map fun p=>.t [.s p.1,p.2])&&(W.kd.im&&((bdT W.gv W.pcs).im&&true))))&&true)=true
 rw[h.kd,dr,bW fun t ht=>?_]
 ·rfl
 ·obtain⟨p,hp,rfl⟩:=XC.mp ht;show(true&&(p.2.im&&true))=true;rw[h.prs p hp];rfl
theorem Gw.Ok.im{W:Gw}(h:W.Ok):W.t.im=true:=by
 show(W.ks.im&&(L2.T.ims ([W.g].map Fn.t)&&true))=true;rw[h.ks,show L2.T.ims ([W.g].map Fn.t)=true from h.fns];rfl
theorem Gw.Ok.nm{W:Gw}:Ng [W.g]:=fun g hg=>by rw[qr.mp hg];exact⟨_,rfl⟩
theorem Pz(gv:Str):∀(ps:List Pc)(k:Nat),Lst (k+1+ps.length) (bdT gv ps) ((Xt (ps.length+1)).map fun j=>bdT gv (ps.drop j)):=by
 intro ps k
 induction ps with
 | nil=>exact .give
 | cons p r ih =>
  have e:((Xt ((p::r).length+1)).map fun j=>bdT gv ((p::r).drop j))=bdT gv (p::r) ::((Xt (r.length+1)).map fun j=>bdT gv (r.drop j)):=by
   rw[Xn,List.range_succ_eq_map,Xs,YM];rfl
  rw[e];have him:=dr gv (p::r);cases p <;> exact .more (k:=k+1+r.length) rfl (by decide) (by decide) rfl him ih
theorem Vl.RA:∀ v v':Vl,v.t=v'.t->v=v':=by
 intro v;refine Vl.rec (motive_1:=fun v=>∀ v':Vl,v.t=v'.t->v=v') (motive_2:=fun ps=>∀ ps':List Vl,Vl.ts ps=Vl.ts ps'->ps=ps') (fun m ps ih v' h=>?_) (fun ps' h=>?_) (fun v r h1 h2 ps' h=>?_) v
 ·cases v' with
  | mk m' ps' =>
   rw[Vl.t,Vl.t]at h;injection h with h
   injection h with h3 h4
   injection h3 with h3
   injection h4 with h4 _
   injection h4 with h4
   rw[h3,ih ps' h4]
 ·cases ps' with
  | nil=>rfl
  | cons a b=>rw[Vl.ts,Vl.ts]at h;cases h
 ·cases ps' with
  | nil=>rw[Vl.ts,Vl.ts]at h;cases h
  | cons a b =>
   rw[Vl.ts,Vl.ts]at h;injection h with h3 h4
   rw[h1 a h3,h2 b h4]
def Sml(t:L2.T):Prop:=∃ v:Vl,v.t=t/\v.sz<=200/\v.dp<=60
open Classical in
noncomputable def unV(t:L2.T):Vl:=if h:∃ v:Vl,v.t=t then h.choose else .mk "" []
theorem Np(v:Vl):unV v.t=v:=by
 unfold unV;have h:∃ u:Vl,u.t=v.t:=⟨v,rfl⟩
 rw[dif_pos h];exact Vl.RA _ _ h.choose_spec
def lkT(ns:List (Key×L2.T))(y:Str):L2.T:=(bS ns (.inr y)).getD .n
noncomputable def mkV(ns:List (Key×L2.T))(mk:Str)(ys:List Str):Vl:=.mk mk (ys.map fun y=>unV (lkT ns y))
abbrev Big(v:Vl):Prop:=v.sz > 200\/v.dp > 60
structure Ab where
 i:Nat
 ns:List (Key×L2.T)
noncomputable def Gw.nx(W:Gw)(a:Ab):Ab:=match W.pcs[a.i]? with
 | none=>a
 | some (.pay _)=>⟨a.i+1,a.ns⟩
 | some (.get _)=>⟨a.i+1,a.ns⟩
 | some (.name y z)=>⟨a.i+1,dC a.ns (.inr y) (lkT a.ns z)⟩
 | some (.make y m' ys)=>⟨a.i+1,dC a.ns (.inr y) (mkV a.ns m' ys).t⟩
 | some (.call _ _ ys)=>⟨0,W.g.names (ys.map (lkT a.ns))⟩
def Gw.dl(W:Gw)(a:Ab):Int:=match W.pcs[a.i]? with
 | some (.pay k)=>-k
 | some (.get k)=>k
 | _=>0
noncomputable def Gw.gr(W:Gw)(a:Ab):Option Str:=match W.pcs[a.i]? with
 | some (.make _ m' ys)=>if Big (mkV a.ns m' ys)then some m' else none
 | _=>none
def Gw.sh(W:Gw)(a:Ab)(c:Int):Option Int:=match W.pcs[a.i]? with
 | some (.pay k)=>if k > c then some k else none
 | _=>none
structure Gw.Gd(W:Gw)(a:Ab):Prop where
 sc:∃ sc,okP W.prs.length W.nm sc (W.pcs.drop a.i)/\∀ y∈sc,∃ v,bS a.ns (.inr y)=some v/\Sml v
 im:T.imk a.ns=true
 pl:T.hJ a.ns=true
 ln:a.ns.length<=2+a.i
variable{a:Ab}
theorem Gw.Gd.lt{W:Gw}(h:W.Gd a):a.i<W.pcs.length:=by
 obtain⟨sc,h1,_⟩:=h.sc;refine Nat.lt_of_not_le fun z=>?_
 rw[Zg z]at h1;unfold okP at h1;exact h1
theorem y0{k:Key}:∀{r acc:List (Key×L2.T)},(∀ p∈r,p.1≠k)->bS (aS acc r) k=bS acc k
 | [],_,_=>rfl
 | p::r,acc,h=>by
  show bS (aS (dC acc p.1 p.2) r) k=_;rw[y0 fun q hq=>h q (Es _ hq),sv,if_neg (h p j5)]
theorem sj{k:Key}:∀{r acc:List (Key×L2.T)},(∃ p∈r,p.1=k)->∃ p∈r,bS (aS acc r) k=some p.2
 | [],_,⟨_,h,_⟩=>nomatch h
 | p::r,acc,h=>by
  by_cases g:∃ q∈r,q.1=k
  ·obtain⟨q,hq,e⟩:=sj (acc:=dC acc p.1 p.2) g;exact⟨q,Es _ hq,e⟩
  ·obtain⟨q,hq,e⟩:=h;rcases QH.mp hq with rfl|hq
   ·refine⟨q,j5,?_⟩;show bS (aS (dC acc q.1 q.2) r) k=_;rw[y0 fun q' hq' z=>g ⟨q',hq',z⟩,sv,if_pos e]
   ·exact absurd ⟨q,hq,e⟩ g
theorem AY{g:Fn}{vs:List L2.T}(hl:vs.length=g.prs.length){y:Str}(hy:y∈g.prs.map (·.1)):∃ v∈vs,bS (g.names vs) (.inr y)=some v:=by
 have:∃ p∈(g.prs.map fun p=>(.inr p.1:Key)).zip vs,p.1 =(.inr y:Key):=by
  obtain⟨q,hq,rfl⟩:=XC.mp hy;obtain⟨i,hi,rfl⟩:=Ye hq;refine⟨((.inr (g.prs[i]).1:Key),vs[i]'(by omega)),?_,rfl⟩
  have hz:i<((g.prs.map fun p=>(.inr p.1:Key)).zip vs).length:=by rw[Yd,PZ];omega
  have:=YA hz
  rw[List.getElem_zip,Zb]at this;exact this
 obtain⟨p,hp,e⟩:=sj (acc:=[]) this;exact⟨p.2,(Yc hp).2,e⟩
theorem Gw.start{W:Gw}(ok:W.Ok){vs:List L2.T}(hl:vs.length=W.prs.length)(hv:∀ v∈vs,Sml v):W.Gd ⟨0,W.g.names vs⟩:=by
 refine⟨⟨_,ok.ok,fun y hy=>?_⟩,Fn.yU (bW fun t ht=>?_),Fn.oR (iY fun t ht=>?_),?_⟩
 ·obtain⟨v,h1,h2⟩:=AY (g:=W.g) hl hy;exact⟨v,h2,hv v h1⟩
 ·obtain⟨v,rfl,_⟩:=hv t ht;exact v.im
 ·obtain⟨v,rfl,_⟩:=hv t ht;exact v.pln
 ·have:=Fn.D6 (g:=W.g) (vs:=vs)
  have h2:=ok.np;show(W.g.names vs).length<=2+0;have e:W.g.prs.length=W.prs.length:=rfl;omega
variable{ys:List Str}
theorem y3{ns:List (Key×L2.T)}{sc:List Str}(h:∀ y∈sc,∃ v,bS ns (.inr y)=some v/\Sml v)(hy:∀ z∈ys,z∈sc):Looks ns ys (ys.map (lkT ns))/\(∀ v∈ys.map (lkT ns),Sml v)/\(ys.map fun y=>unV (lkT ns y)).map Vl.t=ys.map (lkT ns):=by
 have one:∀ y∈ys,bS ns (.inr y)=some (lkT ns y)/\Sml (lkT ns y):=fun y hy'=>by
  obtain⟨v,h1,h2⟩:=h y (hy y hy')
  have:lkT ns y=v:=by unfold lkT;rw[h1];rfl
  rw[this];exact⟨h1,h2⟩
 refine⟨⟨by rw[PZ],fun i y e=>?_⟩,fun v hv=>?_,?_⟩
 ·obtain⟨h1,v,h2,_⟩:=one y (XA e);refine⟨lkT ns y,by rw[Xc,e];rfl,h1,?_⟩
  rw[<- h2];exact v.im
 ·obtain⟨y,hy',rfl⟩:=XC.mp hv;exact(one y hy').2
 ·rw[YM];refine Zu fun y hy'=>?_
  obtain⟨_,v,h2,_⟩:=one y hy';show(unV (lkT ns y)).t=_;rw[<- h2,Np]
theorem FY:∀{vs:List Vl},(∀ v∈vs,v.sz<=200/\v.dp<=60)->Vl.szs vs<=200*vs.length/\Vl.dps vs<=60
 | [],_=>⟨Xa _,XU _⟩
 | v::r,h=>by
  obtain⟨h1,h2⟩:=FY fun u hu=>h u (Es _ hu)
  obtain⟨h3,h4⟩:=h v j5;rw[Vl.szs,Vl.dps,Xn];omega
theorem Gw.stp{W:Gw}(ok:W.Ok)(hg:W.Gd a)(c:Int) :
  (∃ k,W.sh a c=some k/\1<=k/\k<=3/\m4 [W.g] a.i (bdT W.gv (W.pcs.drop a.i)) a.ns c (.fin c (.t [.s "short",.i k]))) \/
  (∃ mk,W.gr a=some mk/\W.sh a c=none/\m4 [W.g] a.i (bdT W.gv (W.pcs.drop a.i)) a.ns c (.fin c (.t [.s "great",.s mk]))) \/
  (W.gr a=none/\W.sh a c=none/\W.Gd (W.nx a)/\∃ r,m4 [W.g] a.i (bdT W.gv (W.pcs.drop a.i)) a.ns c r /\
   (r = .on ((W.nx a).i:Nat) (bdT W.gv (W.pcs.drop (W.nx a).i)) (W.nx a).ns (c+W.dl a)\/∃ vs,r = .push 0 vs/\W.dl a=0/\W.nx a =⟨0,W.g.names vs⟩)):=by
 have hlt:=hg.lt;have ed:W.pcs.drop a.i=W.pcs[a.i]::W.pcs.drop (a.i+1):=Yi hlt;have eq:W.pcs[a.i]? = some W.pcs[a.i]:=RH hlt;obtain⟨sc,hsc,hlk⟩:=hg.sc;have him:=dr W.gv (W.pcs.drop (a.i+1));rw[ed]at hsc ⊢;have hnl:=hg.ln;have hln:=ok.ln;have Hd:∀(y:Str)(v:L2.T),Sml v->okP W.prs.length W.nm (y::sc) (W.pcs.drop (a.i+1))->W.Gd ⟨a.i+1,dC a.ns (.inr y) v⟩:=fun y v hv ho=>by
  refine⟨⟨_,ho,fun z hz=>?_⟩,Cs hg.im ?_,yI hg.pl ?_,?_⟩
  ·show ∃ u,bS (dC a.ns (.inr y) v) (.inr z)=some u/\Sml u
   rw[sv];by_cases e:(.inr y:Key) = .inr z
   ·rw[if_pos e];exact⟨v,rfl,hv⟩
   ·rw[if_neg e];rcases QH.mp hz with rfl|hz
    ·exact absurd rfl e
    ·exact hlk z hz
  ·obtain⟨u,rfl,_⟩:=hv;exact u.im
  ·obtain⟨u,rfl,_⟩:=hv;exact u.pln
  ·have:=Cp (ns:=a.ns) (k:=.inr y) (v:=v)
   show(dC a.ns (.inr y) v).length<=2+(a.i+1);omega
 unfold Gw.sh Gw.gr Gw.nx Gw.dl;rw[eq]
 generalize W.pcs[a.i]=p at hsc
 cases p with
 | pay k =>
  obtain⟨k1,k2,ho⟩:=hsc;dsimp only;by_cases g:k > c
  ·rw[if_pos g];exact .inl ⟨k,rfl,k1,k2,.short him g⟩
  ·rw[if_neg g];exact .inr (.inr ⟨rfl,rfl,⟨⟨sc,ho,hlk⟩,hg.im,hg.pl,by show a.ns.length<=2+(a.i+1);omega⟩,_,.pay him g,.inl rfl⟩)
 | get k =>
  obtain⟨k1,k2,ho⟩:=hsc;exact .inr (.inr ⟨rfl,rfl,⟨⟨sc,ho,hlk⟩,hg.im,hg.pl,by show a.ns.length<=2+(a.i+1);omega⟩,_,.get him,.inl rfl⟩)
 | name y z =>
  obtain⟨hz,ho⟩:=hsc;obtain⟨v,h1,h2⟩:=hlk z hz;have e:lkT a.ns z=v:=by unfold lkT;rw[h1];rfl
  refine .inr (.inr ⟨rfl,rfl,Hd y (lkT a.ns z) (by rw[e];exact h2) ho,_,.name him h1 (by obtain⟨u,rfl,_⟩:=h2;exact u.im),.inl ?_⟩)
  dsimp only;rw[e,YC];rfl
 | make y mk ys =>
  obtain⟨hl,hy,ho⟩:=hsc;obtain⟨l1,l2,l3⟩:=y3 hlk hy;have l4:Looks a.ns ys ((ys.map fun y=>unV (lkT a.ns y)).map Vl.t):=by rw[l3];exact l1
  have l5:∀ v∈ys.map fun y=>unV (lkT a.ns y),v.sz<=200/\v.dp<=60:=fun v hv=>by
   obtain⟨y',hy',rfl⟩:=XC.mp hv;obtain⟨u,h1,h2⟩:=l2 _ (Zv hy');rw[<- h1,Np];exact h2
  obtain⟨l6,l7⟩:=FY l5;rw[PZ]at l6;have l8:(Vl.mk mk (ys.map fun y=>unV (lkT a.ns y))).sz<=1000/\(Vl.mk mk (ys.map fun y=>unV (lkT a.ns y))).dp<=62:=by
   rw[Vl.sz,Vl.dp];omega
  dsimp only;by_cases g:Big (mkV a.ns mk ys)
  ·rw[if_pos g];exact .inr (.inl ⟨mk,rfl,rfl,.great him (by omega) l4 l8 g⟩)
  ·rw[if_neg g];refine .inr (.inr ⟨rfl,rfl,Hd y _ ⟨_,rfl,?_⟩ ho,_,.make him (by omega) l4 l8 g,.inl ?_⟩)
   ·have g1:¬(mkV a.ns mk ys).sz > 200:=fun z=>g (.inl z)
    have g2:¬(mkV a.ns mk ys).dp > 60:=fun z=>g (.inr z)
    omega
   ·rw[YC];rfl
 | call y nm' ys =>
  obtain⟨rfl,hl,hy⟩:=hsc;obtain⟨l1,l2,l3⟩:=y3 hlk hy;have hnp:=ok.np;refine .inr (.inr ⟨rfl,rfl,Gw.start ok (by rw[PZ];exact hl) l2,_,.call (f:=0) (g:=W.g) him (by omega) l1 rfl rfl (fun j _ hj=>absurd hj (Zj _)) ?_,.inr ⟨_,rfl,rfl,rfl⟩⟩)
  show W.prs.length<=100;omega
noncomputable def Gw.st(W:Gw)(a:Ab):Nat->Ab
 | 0=>a
 | k+1=>W.nx (W.st a k)
noncomputable def Gw.sm(W:Gw)(a:Ab):Nat->Int
 | 0=>0
 | k+1=>W.sm a k+W.dl (W.st a k)
noncomputable def Gw.lo(W:Gw)(a:Ab):Nat->Int
 | 0=>0
 | k+1=>min (W.lo a k) (W.sm a (k+1))
structure Gw.Al(W:Gw)(a:Ab)(c:Int)(k:Nat):Prop where
 g:∀ j<k,W.gr (W.st a j)=none
 s:∀ j<k,W.sh (W.st a j) (c+W.sm a j)=none
theorem Gw.Al.zero{W:Gw}{c:Int}:W.Al a c 0:=⟨fun _ h=>absurd h (Zj _),fun _ h=>absurd h (Zj _)⟩
theorem Gw.Al.next{W:Gw}{c:Int}{k:Nat}(h:W.Al a c k)(h1:W.gr (W.st a k)=none)(h2:W.sh (W.st a k) (c+W.sm a k)=none):W.Al a c (k+1) :=
 ⟨fun j hj=>by rcases Y6.mp hj with z|rfl;exact h.g j z;exact h1,fun j hj=>by rcases Y6.mp hj with z|rfl;exact h.s j z;exact h2⟩
theorem Gw.Al.gd{W:Gw}(ok:W.Ok){a:Ab}(ha:W.Gd a){c:Int}:∀{k:Nat},W.Al a c k->W.Gd (W.st a k)
 | 0,_=>ha
 | k+1,h=>by
  have ih:=Gw.Al.gd ok ha (k:=k) ⟨fun j hj=>h.g j (XS hj),fun j hj=>h.s j (XS hj)⟩
  rcases Gw.stp ok ih (c+W.sm a k)with⟨k',h1,_⟩ |⟨mk,h1,_⟩ |⟨_,_,h1,_⟩
  ·rw[h.s k (XE k)]at h1;cases h1
  ·rw[h.g k (XE k)]at h1;cases h1
  ·exact h1
def Gw.Top(W:Gw)(m:Int):Prop:=0<=m/\∀ k,Pc.pay k∈W.pcs->k<=m
theorem Gw.Ub{W:Gw}(hm:W.Top m)(hg:W.Gd a):-m<=W.dl a:=by
 have hlt:=hg.lt;have eq:W.pcs[a.i]? = some W.pcs[a.i]:=RH hlt;have ed:W.pcs.drop a.i=W.pcs[a.i]::W.pcs.drop (a.i+1):=Yi hlt;have Ir:W.pcs[a.i]∈W.pcs:=YA hlt;obtain⟨sc,hsc,_⟩:=hg.sc;obtain⟨m0,hm⟩:=hm;unfold Gw.dl;rw[eq];rw[ed]at hsc
 generalize W.pcs[a.i]=p at hsc Ir
 cases p with
 | pay k=>have:=hm k Ir;dsimp only;omega
 | get k=>have:=hsc.1;dsimp only;omega
 | name _ _=>dsimp only;omega
 | make _ _ _=>dsimp only;omega
 | call _ _ _=>dsimp only;omega
theorem Gw.Al.Nx{W:Gw}(ok:W.Ok){a:Ab}(ha:W.Gd a){c m:Int}(hm:W.Top m):∀{k:Nat},W.Al a c k -> -(m*k)<=W.sm a k
 | 0,_=>by show -(m*0)<=0;omega
 | k+1,h=>by
  have h':W.Al a c k:=⟨fun j hj=>h.g j (XS hj),fun j hj=>h.s j (XS hj)⟩
  have ih:=Gw.Al.Nx ok ha hm h';have hd:=Gw.Ub hm (h'.gd ok ha);show -(m*((k+1:Nat):Int))<=W.sm a k+W.dl (W.st a k);have e:m*((k+1:Nat):Int)=m*k+m:=by rw[Zk,Int.mul_add];omega
  omega
variable{N:Nat}
theorem Gw.Al.OG{W:Gw}(ok:W.Ok)(ha:W.Gd a){c:Int}{k:Nat}(hm:W.Top m)(h:W.Al a c k)(hk:k<N)(hc:m*N<=c):W.sh (W.st a k) (c+W.sm a k)=none:=by
 have h1:=h.Nx ok ha hm;have hlt:=(h.gd ok ha).lt;have eq:W.pcs[(W.st a k).i]? = some W.pcs[(W.st a k).i]:=RH hlt;have Ir:W.pcs[(W.st a k).i]∈W.pcs:=YA hlt;obtain⟨m0,hm⟩:=hm;unfold Gw.sh;rw[eq]
 generalize W.pcs[(W.st a k).i]=p at Ir
 cases p with
 | pay q =>
  have h2:=hm q Ir;have h3:m*(k+1:Nat)<=m*N:=Int.mul_le_mul_of_nonneg_left (by omega) m0
  have e:m*((k+1:Nat):Int)=m*k+m:=by rw[Zk,Int.mul_add];omega
  dsimp only;rw[if_neg (by omega)]
 | get _=>rfl
 | name _ _=>rfl
 | make _ _ _=>rfl
 | call _ _ _=>rfl
structure Gw.End(W:Gw)(a:Ab)(N D:Nat)(mk:Str):Prop where
 lt:D<N
 no:∀ j<D,W.gr (W.st a j)=none
 gr:W.gr (W.st a D)=some mk
def Gw.Nh(W:Gw)(a:Ab)(N:Nat):Prop:=∀ j<N,W.gr (W.st a j)=none
variable{D:Nat}
theorem Gw.End.le{W:Gw}{k:Nat}{mk:Str}{c:Int}(h:W.End a N D mk)(hk:W.Al a c k):k<=D:=Y8 fun z=>by
 have:=hk.g D z
 rw[h.gr]at this;cases this
theorem Gw.End.uniq{W:Gw}{k:Nat}{mk mk':Str}{c:Int}(h:W.End a N D mk)(hk:W.Al a c k)(hg:W.gr (W.st a k)=some mk'):k=D/\mk'=mk:=by
 have h1:=h.le hk
 have:k=D:=Nat.le_antisymm h1 (Y8 fun z=>by
  have:=h.no k z
  rw[hg]at this;cases this)
 subst this;rw[h.gr]at hg;cases hg;exact⟨rfl,rfl⟩
theorem Im(l:List Int):L2.T.ims (l.map .i)=true:=bW fun t ht=>by
 obtain⟨z,_,rfl⟩:=XC.mp ht;rfl
def fq:List Pc->List Int
 | []=>[]
 | .pay k::r=>k::fq r
 | .get _::r=>fq r
 | .name _ _::r=>fq r
 | .make _ _ _::r=>fq r
 | .call _ _ _::r=>fq r
theorem lM:∀(a b:List Pc),fq (a++b)=fq a++fq b
 | [],_=>rfl
 | .pay k::r,b=>by show k::fq (r++b)=k ::(fq r++fq b);rw[lM r b]
 | .get _::r,b=>lM r b
 | .name _ _::r,b=>lM r b
 | .make _ _ _::r,b=>lM r b
 | .call _ _ _::r,b=>lM r b
theorem lL:∀ l:List Pc,(fq l).length<=l.length
 | []=>Xa _
 | .pay k::r=>YS (lL r)
 | .get _::r=>Yn (lL r)
 | .name _ _::r=>Yn (lL r)
 | .make _ _ _::r=>Yn (lL r)
 | .call _ _ _::r=>Yn (lL r)
theorem jn:∀{l:List Pc}{k:Int},Pc.pay k∈l ↔ k∈fq l
 | [],_=>by simp[fq]
 | .pay q::r,k=>by
  rw[QH,fq,QH,jn (l:=r)];exact or_congr ⟨fun h=>by cases h;rfl,fun h=>by rw[h]⟩ Iff.rfl
 | .get _::r,k=>by rw[QH,fq,jn (l:=r)];exact⟨fun h=>h.elim (fun z=>nomatch z) id,.inr⟩
 | .name _ _::r,k=>by rw[QH,fq,jn (l:=r)];exact⟨fun h=>h.elim (fun z=>nomatch z) id,.inr⟩
 | .make _ _ _::r,k=>by rw[QH,fq,jn (l:=r)];exact⟨fun h=>h.elim (fun z=>nomatch z) id,.inr⟩
 | .call _ _ _::r,k=>by rw[QH,fq,jn (l:=r)];exact⟨fun h=>h.elim (fun z=>nomatch z) id,.inr⟩
def nh(l:List Pc):Int:=nX (0::fq l) 0
theorem FO{W:Gw}:W.Top (nh W.pcs):=by
 obtain⟨_,h2,h3⟩:=foldl_max (fq W.pcs) 0;exact⟨h2,fun k hk=>h3 k (jn.mp hk)⟩
theorem Nq{W:Gw}(ok:W.Ok):nh W.pcs<=3:=by
 obtain⟨h1,_,_⟩:=foldl_max (fq W.pcs) 0;show(fq W.pcs).foldl max 0<=_;rcases h1 with z|z
 ·rw[z];decide
 ·exact ok.py _ (jn.mpr z)
noncomputable def Gw.wk(W:Gw)(a0:Ab)(c0:Int)(CW CF x0:Addr)(frs:List L2.T)(x:Addr)(k:Nat):L2.T:=wT CW x0 (.t ([W.g].map Fn.t)) (frs ++ [fT CF x ((0:Nat):Int) ((W.st a0 k).i:Nat) (bdT W.gv (W.pcs.drop (W.st a0 k).i)) (W.st a0 k).ns]) (c0+W.sm a0 k) (k:Nat) .n
noncomputable def Gw.lw(W:Gw)(a0:Ab)(c0:Int)(stk:List L2.T)(o:Obj)(vs:List (Key×V))(k:Nat):List (Key×L2.T):=stT (stk ++ [frL ((0:Nat):Int) ((W.st a0 k).i:Nat) o vs (W.st a0 k).ns]) (c0+W.sm a0 k) (k:Nat) .n
structure xS(stk:List L2.T)(k:Nat):Prop where
 l:stk.length<=k
 p:T.dE stk=true
 i:T.ims stk=true
variable{o:Obj}
theorem xS.snoc{stk:List L2.T}{k:Nat}(h:xS stk k){f:Int}{vs:List (Key×V)}{ns:List (Key×L2.T)}(h2:T.hJ ns=true):xS (stk ++ [frL f n o vs ns]) (k+1):=by
 refine⟨by rw[Xl];exact YS h.l,iY fun t ht=>?_,bW fun t ht=>?_⟩
 ·rcases Xj.mp ht with z|z
  ·exact iX h.p z
  ·rw[qr.mp z];show(true&&(true&&(T.hJ ns&&true)))=true;rw[h2];rfl
 ·rcases Xj.mp ht with z|z
  ·exact dW h.i z
  ·rw[qr.mp z];rfl
theorem Gw.turn{W:Gw}(ok:W.Ok){a0:Ab}(ha:W.Gd a0){c0:Int}{CW x0:Addr}{frs:List L2.T}{k:Nat}{Q:L2.T->L2.T->Prop}(al:W.Al a0 c0 k)(hfr:frs.length<=k)(hk:k<9000)
  (h1:∀ q,W.sh (W.st a0 k) (c0+W.sm a0 k)=some q->Q (.b false) (wT CW x0 (.t ([W.g].map Fn.t)) [] (c0+W.sm a0 k) ((k+1:Nat):Int) (.t [.s "short",.i q])))
  (h2:∀ mk,W.gr (W.st a0 k)=some mk->W.sh (W.st a0 k) (c0+W.sm a0 k)=none->Q (.b false) (wT CW x0 (.t ([W.g].map Fn.t)) [] (c0+W.sm a0 k) ((k+1:Nat):Int) (.t [.s "great",.s mk])))
  (h3:W.Al a0 c0 (k+1)->∀ ur x',ur.length<=k+1->Q (.b true) (W.wk a0 c0 CW CF x0 ur x' (k+1))):Ax CW CF [W.wk a0 c0 CW CF x0 frs x k] Q:=by
 have gd:=al.gd ok ha;have hlt:=gd.lt;have hln:=ok.ln;have hnl:=gd.ln;have go:∀ r,m4 [W.g] (W.st a0 k).i (bdT W.gv (W.pcs.drop (W.st a0 k).i)) (W.st a0 k).ns (c0+W.sm a0 k) r ->(∀ t,OH CW CF x0 [W.g] frs x ((0:Nat):Int) (W.st a0 k).i (bdT W.gv (W.pcs.drop (W.st a0 k).i)) (W.st a0 k).ns (c0+W.sm a0 k) ((k:Int)+1) r t->Q (.b (match r with | .fin _ _=>false | _=>true)) t)->Ax CW CF [W.wk a0 c0 CW CF x0 frs x k] Q:=fun r hs hq =>
  .inl ⟨x0,x,[W.g],frs,_,_,_,_,_,_,r,rfl,ok.fns,gd.im,by omega,by omega,hs,hq⟩
 rcases Gw.stp ok gd (c0+W.sm a0 k)with⟨q,e,_,_,hs⟩ |⟨mk,e1,e2,hs⟩ |⟨e1,e2,_,r,hs,hr⟩
 ·exact go _ hs fun t ht=>by cases ht;exact h1 q e
 ·exact go _ hs fun t ht=>by cases ht;exact h2 mk e1 e2
 ·have h3:=h3 (al.next e1 e2);rcases hr with rfl |⟨vs,rfl,e3,e4⟩
  ·refine go _ hs fun t ht=>?_
   cases ht
   have:=h3 frs x (by omega)
   unfold Gw.wk at this;rw[Gw.st,Gw.sm,<- Int.add_assoc]at this;exact this
  ·refine go _ hs fun t ht=>?_
   obtain⟨x',g,hg,rfl⟩:=ht;cases hg
   have:=h3 (frs ++ [fT CF x ((0:Nat):Int) ((W.st a0 k).i:Nat) (bdT W.gv (W.pcs.drop (W.st a0 k).i)) (W.st a0 k).ns]) x' (by rw[Xl];exact YS hfr)
   unfold Gw.wk at this;rw[Gw.st,Gw.sm,e3,e4,YC]at this;exact this
theorem Gw.step{W:Gw}(ok:W.Ok){a0:Ab}(ha:W.Gd a0){c0:Int}{p:Addr}{stk:List L2.T}{vs:List (Key×V)}{k:Nat}{Q:L2.T->Prop}(al:W.Al a0 c0 k)(hst:xS stk k)(hk:k<8000)
  (h1:∀ q,W.sh (W.st a0 k) (c0+W.sm a0 k)=some q->Q (.dp p (stT [] (c0+W.sm a0 k) ((k+1:Nat):Int) (.t [.s "short",.i q]))))
  (h2:∀ mk,W.gr (W.st a0 k)=some mk->W.sh (W.st a0 k) (c0+W.sm a0 k)=none->Q (.dp p (stT [] (c0+W.sm a0 k) ((k+1:Nat):Int) (.t [.s "great",.s mk]))))
  (h3:W.Al a0 c0 (k+1)->∀ Dk o' vs',xS Dk (k+1)->Q (.dp p (W.lw a0 c0 Dk o' vs' (k+1)))):Ay [W.t,.dp p (W.lw a0 c0 stk o vs k)] Q:=by
 have gd:=al.gd ok ha;have hlt:=gd.lt;have hln:=ok.ln;have hnl:=gd.ln;have hsl:=hst.l;have hL:Lst 60 W.g.b ((Xt (W.pcs.length+1)).map fun j=>bdT W.gv (W.pcs.drop j)):=by
  have:=Pz W.gv W.pcs (59 - W.pcs.length)
  rw[show 59 - W.pcs.length+1+W.pcs.length=60 by omega]at this
  exact this
 have go:∀ r,m4 [W.g] (W.st a0 k).i (bdT W.gv (W.pcs.drop (W.st a0 k).i)) (W.st a0 k).ns (c0+W.sm a0 k) r ->(∀ t,RQ p [W.g] stk ((0:Nat):Int) (W.st a0 k).i o vs (W.st a0 k).ns (c0+W.sm a0 k) ((k:Int)+1) r t->Q t)->Ay [W.t,.dp p (W.lw a0 c0 stk o vs k)] Q:=fun r hs hq =>
  ⟨p,W.ks,[W.g],stk,0,(W.st a0 k).i,o,vs,(W.st a0 k).ns,_,_,W.g,_,_,r,rfl,ok.fns,Gw.Ok.nm,(by show 1<=100;decide),rfl,hL,by rw[PZ,Yb];omega,by rw[Xc,List.getElem?_range (by omega)];rfl,⟨gd.im,gd.pl,by omega⟩,by omega,hst.p,hst.i,hs,hq⟩
 rcases Gw.stp ok gd (c0+W.sm a0 k)with⟨q,e,_,_,hs⟩ |⟨mk,e1,e2,hs⟩ |⟨e1,e2,_,r,hs,hr⟩
 ·exact go _ hs fun t ht=>by cases ht;exact h1 q e
 ·exact go _ hs fun t ht=>by cases ht;exact h2 mk e1 e2
 ·have h3:=h3 (al.next e1 e2);rcases hr with rfl |⟨us,rfl,e3,e4⟩
  ·refine go _ hs fun t ht=>?_
   obtain⟨o',vs',rfl⟩:=ht
   have:=h3 stk o' vs' ⟨Yn hst.l,hst.p,hst.i⟩
   unfold Gw.lw at this;rw[Gw.st,Gw.sm,<- Int.add_assoc]at this;exact this
  ·refine go _ hs fun t ht=>?_
   obtain⟨o',vs',g,hg,rfl⟩:=ht;cases hg
   have:=h3 _ o' vs' (hst.snoc (f:=((0:Nat):Int)) (n:=((W.st a0 k).i:Nat)) (o:=o) (vs:=vs) gd.pl)
   unfold Gw.lw at this;rw[Gw.st,Gw.sm,e3,e4,YC]at this;exact this
def Gw.a0(W:Gw)(vs:List L2.T):Ab:=⟨0,W.g.names vs⟩
structure Gw.Args(W:Gw)(vs:List L2.T):Prop where
 l:vs.length=W.prs.length
 s:∀ v∈vs,Sml v
theorem Gw.Args.gd{W:Gw}{vs:List L2.T}(ok:W.Ok)(h:W.Args vs):W.Gd (W.a0 vs):=Gw.start ok h.l h.s
theorem Gw.Args.im{W:Gw}{vs:List L2.T}(h:W.Args vs):T.ims vs=true:=bW fun t ht=>by obtain⟨v,rfl,_⟩:=h.s t ht;exact v.im
theorem Gw.Args.pl{W:Gw}{vs:List L2.T}(h:W.Args vs):T.dE vs=true:=iY fun t ht=>by obtain⟨v,rfl,_⟩:=h.s t ht;exact v.pln
def grT(m:Str):L2.T:=.t [.s "great",.s m]
theorem Gw.wk0{W:Gw}{vs:List L2.T}{c:Int}{CW x0:Addr}:wT CW x0 (.t ([W.g].map Fn.t)) [fT CF x ((0:Nat):Int) 0 W.g.b (W.g.names vs)] c 0 .n=W.wk (W.a0 vs) c CW CF x0 [] x 0:=by
 unfold Gw.wk;rw[Gw.sm,YC];rfl
theorem Gw.lw0{W:Gw}{vs:List L2.T}{c:Int}{ws:List (Key×V)}:stT [frL ((0:Nat):Int) 0 o ws (W.g.names vs)] c 0 .n=W.lw (W.a0 vs) c [] o ws 0:=by
 unfold Gw.lw;rw[Gw.sm,YC];rfl
theorem Gw.lo_le{W:Gw}:∀{k:Nat},W.lo a k<=W.sm a k
 | 0=>X0 _
 | k+1=>Int.min_le_right _ _
theorem xS.nil{k:Nat}:xS [] k:=⟨XU _,rfl,rfl⟩
theorem Gw.Top.mono{W:Gw}{m':Int}(h:W.Top m)(hm:m<=m'):W.Top m':=⟨X9 h.1 hm,fun k hk=>X9 (h.2 k hk) hm⟩
theorem Gw.Rx{W:Gw}(ok:W.Ok):W.Top 3:=Gw.Top.mono (FO (W:=W)) (Nq ok)
theorem CY{xs:List Int}{i:Int}(h0:0<=i)(h1:i<xs.length):∃ x,atI (xs.map L2.T.i) i=some (.i x)/\x∈xs:=by
 obtain⟨v,e,hm⟩:=Jr (xs:=xs.map L2.T.i) h0 (by simpa using h1)
 obtain⟨x,hx,rfl⟩:=XC.mp hm;exact⟨x,e,hx⟩
theorem Gw.End.eq{W:Gw}{D':Nat}{m m':Str}(h:W.End a N D m)(h':W.End a N D' m'):D'=D/\m'=m:=by
 have e:D'=D:=by
  rcases Nat.lt_trichotomy D' D with z|z|z
  ·have:=h.no D' z;rw[h'.gr]at this;cases this
  ·exact z
  ·have:=h'.no D z;rw[h.gr]at this;cases this
 subst e
 have:=h.gr
 rw[h'.gr]at this;cases this;exact⟨rfl,rfl⟩
theorem ne_self{t:L2.T}:¬(!decide (t.v=t.v))=true:=by simp
theorem IT{x y:L2.T}{n:Nat}(h1:Dep n x)(h2:Dep n y):∀ z ∈ [x,y],Dep n z:=fun z hz=>by
 rcases QH.mp hz with rfl|hz
 ·exact h1
 ·rw[qr.mp hz];exact h2
theorem IS{m:Str}{n:Nat}:Dep (n+1) (grT m):=Dep.t (IT .s .s)
def BH(ps:List L2.T):Prop:=(∃ m:Str,ps = [.s "great",.s m])\/∃ q:Int,ps = [.s "short",.i q]
theorem BH.im{ps:List L2.T}(h:BH ps):T.ims ps=true:=by rcases h with⟨_,rfl⟩ |⟨_,rfl⟩ <;> rfl
theorem BH.dep{ps:List L2.T}(h:BH ps):∀ z∈ps,Dep 1 z:=by
 rcases h with⟨_,rfl⟩ |⟨_,rfl⟩
 ·exact IT .s .s
 ·exact IT .s .i
section
variable{P:Program}{w:World}{K:W.Frag}{mg:Str->Option Value}{base:Heap}{a:Adr}
theorem wK(T:Txt K mg a):aP P w K mg base CX0 1 a.oY a.Ja ["_law_deal_here","_law_many"] FX:=by
 refine T.cK.F.ok qw (fun vs H Q E h=>?_) (fun cdv A outer s H vs Q E hr h=>?_)
 ·obtain⟨d,l,m,rfl,_⟩:=h;rfl
 ·obtain⟨d,l,m,rfl,⟨s0,n0,ls0,D0⟩,m0,m1,k⟩:=h;have hu:=bj hr;refine⟨_,((bK (rP PassesOwn.never (PW.pt (As (lN NQ (jz hu (pv 0) dm (fun _ _=>rfl)) bu (a7 _)) (v8 (lN Ck (rS ot (by rfl) T.zu PySem.boot_len (bV (jz hu (pv 0) dm (fun _ _=>rfl)) gN)) bu (a7 _)))))
 (jo (lO hu (pv 0) dm (HA PySem.F.plainAttrs_list PySem.F.slot_list_pop PySem.F.type_list_pop HU (jz hu (pv 0) dm (fun _ _=>rfl))) rfl)))
 (bK (jq (i:=2) qw.nd rfl (Or.inl rfl) (jz hu (pv 0) dm (fun _ _=>rfl)))
 (bK (Hf (lN Ck (pv 2) bu (a7 _))
 (bK (lO hu (pv 0) dm (cx yP (pv 2) (pv 1)) rfl)
 (jo (oM (cx jD (pv 2) (pv 1)))))
 Ca)
 (bK (jq (i:=3) qw.nd rfl (Or.inl rfl) (cx jD (cx oO (cx mP (jz hu (pv 0) dm (fun _ _=>rfl)) bu) bu) bu))
 (bK (lO hu (pv 0) dm (cx jD (cx oO (cx mP (pv 3) bu) bu) bu) rfl)
 (bK (jq (i:=4) qw.nd rfl (Or.inl rfl) (cx jD (cx mP (jz hu (pv 0) dm (fun _ _=>rfl)) (jz hu (pv 0) dm (fun _ _=>rfl))) bu))
 (jo (oM (cx jD (cx oO (cx mP (cx jD (cx mP (pv 3) (pv 3)) bu) bu) (pv 4)) (pv 1))))))))))),?_⟩
  refine Df (fun c σ H1=>∃ s n ls,σ = [some (.ref d),some (.int m),none,none,none]/\cB H1 d l s n ls/\Kp d l H H1/\c=ls.length) ⟨s0,n0,ls0,rfl,D0,Kp.refl,rfl⟩ ?_ ?_
  ·rintro c σ H1 ⟨s1,n1,ls,rfl,D,K1,rfl⟩
   refine⟨_,rfl,d,_,rfl,D.T6,?_⟩;refine⟨_,rfl,_,_,rfl,rfl,_,rfl,?_⟩;refine bY (fun h1=>?_) (fun h1=>?_)
   ·have h1:0<n1:=of_decide_eq_true h1;have q0:0<=n1 / m:=Int.ediv_nonneg (by omega) (by omega)
    refine⟨_,rfl,_,rfl,_,_,rfl,rfl,⟨m0,m1⟩,_,rfl,d,_,rfl,D.SK,?_⟩;refine⟨_,rfl,_,rfl,_,_,rfl,rfl,m0,?_⟩;exact k _ _ (mod_lt m0).1 (mod_lt m0).2 ⟨_,_,_,D.num q0⟩ K1.Oi
   ·have b1:=mod_lt (x:=s1*48271+7919) (m:=2147483647) (by decide)
    refine⟨_,rfl,d,_,rfl,D.IC,_,_,rfl,rfl,.inr ⟨by decide,by decide⟩,_,_,rfl,rfl,_,_,rfl,rfl,(by show(0:Int)<2147483647;decide),?_⟩
    have b2:=mod_lt (x:=(s1*48271+7919) % 2147483647*40692+104729) (m:=2147483399) (by decide)
    refine⟨_,rfl,_,_,rfl,rfl,.inr ⟨by decide,by decide⟩,_,_,rfl,rfl,_,_,rfl,rfl,(by show(0:Int)<2147483399;decide),_,rfl,d,_,rfl,D.SH,?_⟩
    have D2:=D.VF (m:=((s1*48271+7919) % 2147483647*40692+104729) % 2147483399) b2.1 (by omega)
    refine⟨_,rfl,d,_,rfl,D2.IC,_,rfl,d,_,rfl,D2.IC,_,_,rfl,rfl,.inl ⟨by omega,by omega⟩,_,_,rfl,rfl,(by show(0:Int)<2147483563;decide),?_⟩
    have b4:=mod_lt (x:=(s1*48271+7919) % 2147483647*((s1*48271+7919) % 2147483647)) (m:=2147483629) (by decide)
    refine⟨_,rfl,_,rfl,_,_,rfl,rfl,.inl ⟨by omega,by omega⟩,_,_,rfl,rfl,(by show(0:Int)<2147483629;decide),_,_,rfl,rfl,.inr ⟨by decide,by decide⟩,_,rfl,_,_,rfl,rfl,_,rfl,_,_,rfl,rfl,m0,?_⟩
    exact k _ _ (mod_lt m0).1 (mod_lt m0).2 ⟨_,_,_,D2⟩ K1.Oi
  ·rintro c σ H1 ⟨s1,n1,ls,rfl,D,K1,rfl⟩ hx
   refine⟨_,rfl,d,_,rfl,D.T6,rfl,_,rfl,?_⟩;refine bY (fun h1=>?_) (fun h1=>hx)
   refine⟨_,rfl,d,_,rfl,D.N0,l,_,rfl,.inl (SqL.of D.hl),_,_,rfl,rfl,_,rfl,?_⟩;refine bY (fun h2=>?_) (fun h2=>hx)
   have h2:(0:Int)<((ls.map V.int).length:Int):=of_decide_eq_true h2;rcases Zn ls with rfl |⟨ls',x,rfl⟩
   ·simp at h2
   ·have hl':H1 l=some (.lst (ls'.map V.int ++ [.int x])):=by simpa using D.hl
    refine⟨fun σ' H'=>∃ s n ls2,σ' = [some (.ref d),some (.int m),none,none,none]/\cB H' d l s n ls2/\Kp d l H H'/\ls2.length<(ls' ++ [x]).length,fun σ' H' ⟨s2,n2,ls2,e,D2,K2,h⟩=>⟨ls2.length,by simpa using h,s2,n2,ls2,e,D2,K2,rfl⟩,?_⟩
    have x0:0<=x:=D.l0 x (by simp)
    have D2:=D.list (ls':=ls') fun y hy=>D.l0 y (by simp[hy])
    refine⟨_,rfl,d,_,rfl,D.N0,.inl ⟨rfl,_,SqL.of hl'⟩,l,_,.int x,rfl,rfl,hl',(by simp),?_⟩
    rw[Zr];refine⟨_,rfl,d,_,rfl,D2.SK,?_⟩;exact⟨_,_,ls',rfl,D2.num x0,(K1.VB).Oi,by simp⟩
theorem LS(T:Txt K mg a):aP P w K mg base CX0 1 a.oZ a.Jb ["_law_script","_law_base"] (Ou K):=by
 refine T.xX.F.ok nC (fun vs H Q E h=>?_) (fun cdv A outer s H vs Q E hr h=>?_)
 ·obtain⟨a,ns,b,rfl,_⟩:=h;rfl
 ·obtain⟨p0,ns,b,rfl,hS,hlen,b0,b1,k⟩:=h;have hu:=bj hr;refine⟨_,((bK (Cb (i:=2) nC.nd rfl (Or.inl rfl) rfl (qF (yL BU (pv 0) (wa (pv 1)) (wa bu))) (N':=["_law_cell"]) (.own rfl .nil) (fun _ _ _ _ _=>⟨(nU (i:=0) (show(["_law_cell"]:List Str).Nodup from by decide +kernel) rfl (Or.inl rfl)),B9,(rS (vg rfl) (by rfl) T.CT (by kernel_rfl) (bV (pv 0) (bV (cx HB bu (pv 0)) gN)))⟩))
 (bK (jq (i:=3) nC.nd rfl (Or.inl rfl) (cx oO bu (pv 1)))
 (bK (Hg PassesOwn.never rfl (qF (pv 2)) (nU (i:=4) nC.nd rfl (Or.inl rfl))
 (jo (jq (i:=3) nC.nd rfl (Or.inl rfl) (cx jD (cx oO (cx mP (pv 3) bu) (cx jD (pv 4) bu)) bu))))
 (jo (oM (Cg (nP dm (pv 3) (nP dm bu (nP dm (rR rfl rfl T.Bs rfl T.mZ (Ci rfl (qF (pv 2)) (N':=["_law_cell"]) (.own rfl .nil) (fun _ _ _ _ _=>⟨(nU (i:=0) (show(["_law_cell"]:List Str).Nodup from by decide +kernel) rfl (Or.inl rfl)),(B8 (lN SX (pv 0) (cx HC bu bu) (a7 _))),(pv 0)⟩))) Cc))) rfl rfl (by intro z;cases z) (by decide)))))))),?_⟩
  obtain⟨cs,ecs,lcs⟩:=Jc ns (some b) (some 63);refine⟨_,rfl,_,rfl,_,rfl,_,rfl,p0,_,rfl,hS,fun p hp=>⟨p,rfl,⟨_,SqL.of aw⟩,?_⟩⟩
  rw[ecs];have s1:m6 H (upd H p (.lst (cs.map V.int))):=(m6.refl H).new hp;refine vd (K:=K) (a:=p) (xs:=cs.map V.int) (fun i ys σ' H'=>∃ zs:List Int,ys=zs.map V.int/\(∀ z∈zs,0<=z)/\zs.length=i/\(∃ o,σ' = [o])/\H'=upd H p (.lst (cs.map V.int))) ⟨[],rfl,by simp,rfl,⟨_,rfl⟩,rfl⟩ ?_ ?_ ?_
  ·rintro i ys σ' H' hi ⟨zs,rfl,_,hz,_,rfl⟩
   refine⟨SqL.of aw,?_⟩;rw[PZ]at hi ⊢;exact dv (by omega)
  ·rintro i x ys σ' H' hi ⟨zs,rfl,z0,hz,⟨o,rfl⟩,rfl⟩
   obtain⟨c,rfl⟩:=int_at hi;refine MB ?_;refine⟨_,rfl,_,rfl,_,_,rfl,rfl,_,_,rfl,?_⟩;refine⟨zs ++ [if 0 - c > c then 0 - c else c],by simp,?_,by simp[hz],⟨_,rfl⟩,rfl⟩
   intro z hz';rcases Xj.mp hz' with h|h
   ·exact z0 z h
   ·rw[qr.mp h]
    split <;> omega
  ·rintro ys σ' H' ⟨zs,rfl,z0,hz,_,rfl⟩ D hD
   have s2:m6 H (upd (upd H p (.lst (cs.map V.int))) D (.lst (zs.map V.int))):=s1.new hD;have hcD:(upd (upd H p (.lst (cs.map V.int))) D (.lst (zs.map V.int))) D=some (.lst (zs.map V.int)):=aw
   generalize upd (upd H p (.lst (cs.map V.int))) D (.lst (zs.map V.int))=H2 at s2 hcD ⊢
   refine⟨_,rfl,_,_,rfl,rfl,?_⟩;refine⟨_,rfl,D,rfl,⟨_,SqL.of hcD⟩,IG (K:=K) (a:=D) (xs:=zs.map V.int) (fun i σ' H'=>∃(n:Int)(o:Option V),σ' = [some (.ref p0),some (.int b),some (.ref D),some (.int n),o]/\0<=n/\n<2147483647/\H2=H')
    ⟨_,_,rfl,by omega,by omega,rfl⟩ (fun i σ' H' _ ⟨_,_,_,_,_,e⟩=>by rw[<- e];exact SqL.of hcD) ?_ ?_⟩
   ·rintro i y σ' H' hi ⟨n,o,rfl,n0,n1,rfl⟩
    obtain⟨z,rfl⟩:=int_at hi;refine⟨_,rfl,_,_,rfl,rfl,.inr ⟨by decide,by decide⟩,_,rfl,_,_,rfl,rfl,(by show(0:Int)<2147483629;decide),_,_,rfl,rfl,_,_,rfl,rfl,(by show(0:Int)<2147483647;decide),?_⟩
    exact⟨_,_,rfl,(mod_lt (by decide)).1,(mod_lt (by decide)).2,rfl⟩
   ·rintro σ' H' ⟨n,o,rfl,n0,n1',rfl⟩
    intro pd hpd;have P8:(upd H2 pd (.dK [])) D=some (.lst (zs.map V.int)):=by rw[ai (aQ hcD hpd)];exact hcD
    have s3:m6 H (upd H2 pd (.dK [])):=s2.new hpd;have P5:(upd H2 pd (.dK [])) pd=some (.dK []):=aw;have fpd:H pd=none:=s2.free hpd
    generalize upd H2 pd (.dK [])=H3 at P8 s3 P5 ⊢
    refine⟨_,rfl,_,rfl,D,rfl,⟨_,SqL.of P8⟩,vd (K:=K) (a:=D) (xs:=zs.map V.int) (fun i ys σ' H'=>∃ ws:List Int,ys=ws.map V.int/\(∀ z∈ws,0<=z)/\ws.length<=i/\(∃ o,σ' = [o])/\H3=H') ⟨[],rfl,by simp,Xa _,⟨_,rfl⟩,rfl⟩ ?_ ?_ ?_⟩
    ·rintro i ys σ' H' hi ⟨ws,rfl,_,hz',_,rfl⟩
     refine⟨SqL.of P8,?_⟩;rw[PZ]at hi ⊢;rw[PZ]at hz;exact dv (by omega)
    ·rintro i x ys σ' H' hi ⟨ws,rfl,w0,hz',⟨o,rfl⟩,rfl⟩
     obtain⟨c,rfl,hc⟩:=Mr hi;refine⟨_,rfl,_,_,rfl,rfl,⟨by decide,by decide,by decide⟩,_,_,rfl,rfl,_,rfl,?_⟩
     refine bY (fun h1=>?_) (fun h1=>?_)
     ·refine⟨_,rfl,ws ++ [c],by simp,?_,by simp;omega,⟨_,rfl⟩,rfl⟩
      intro z hz';rcases Xj.mp hz' with h|h
      ·exact w0 z h
      ·rw[qr.mp h];exact z0 c hc
     ·exact⟨ws,rfl,w0,by omega,⟨_,rfl⟩,rfl⟩
    ·rintro ys σ' H' ⟨ws,rfl,w0,hz',_,rfl⟩ D2 hD2
     refine⟨D2,_,rfl,SqL.of aw,fun q hq=>?_⟩
     have n1:pd≠D2:=aQ P5 hD2;have e1:(upd H3 D2 (.lst (ws.map V.int))) pd=some (.dK []):=by rw[ai n1];exact P5
     have n2:pd≠q:=aQ e1 hq;have s4:m6 H (upd (upd H3 D2 (.lst (ws.map V.int))) q (.lst ((ws.map V.int).reverse))):=(s3.new hD2).new hq;refine⟨by rw[ai n2];exact e1,[(.inr "seed",.int n),(.inr "number",.int 0),(.inr "left",.ref q)],rfl,(by show 3<=15;decide),?_⟩
     rw[show cV [] [((.inr "seed":Key),V.int n),(.inr "number",.int 0),(.inr "left",.ref q)]=dk n 0 q from by kernel_rfl]
     refine k pd q _ fpd ((s3.new hD2).free hq) ⟨n,0,ws.reverse,aw,?_,n0,n1',X0 _,?_⟩ ?_
     ·rw[ai n2.symm,aw,List.map_reverse]
     ·intro x hx;exact w0 x (by simpa using hx)
     ·intro c o hc
      have:c≠pd:=aQ hc fpd
      rw[ai this];exact s4 c o hc
theorem HG(T:Txt K mg a):aP P w K mg base CX0 2 a.lQ a.CG ["_law_deal_here","_law_many"] (spQ K Lj):=by
 have cw:=Bh (@wK P w K mg base a T);refine T.C8.F.okQ bJ (fun ts Q h=>?_) (fun _ _ _ _ _ _ hr=>?_)
 ·obtain⟨m,rfl,_⟩:=h;rfl
 ·have hu:=bj hr;refine⟨_,_,((ah (aJ 2 bJ.nd ay)
 (ah (aJ 3 bJ.nd (Lb (QPF.w ay) (QPF.w (dM rfl (DC rfl T.qJ (ae (QPF.w (bX cw hr T.cK (ae (qv 0) (ae ag aH)))) aH)) (N':=["_law_k","_law_letters","_law_deal_here"]) (.own rfl (.got (i:=2) rfl rfl (.inl rfl) (.got (i:=0) rfl rfl (.inl rfl) .nil))) (eB (g:=(Tg.nm 0)) (fun _ _ _ _ _=>⟨(mL 0),(QPE.f (aq (qv 1) (QPF.w (bX cw hr T.cK (ae (qv 2) (ae ag aH))))))⟩))))))
 (ah (aJ 4 bJ.nd (bX cw hr T.cK (ae (qv 0) (ae (QPF.w (bh (QPF.w (vZ T.zu (ae (qv 3) aH))) ag)) aH))))
 (ah (aJ 5 bJ.nd (bX cw hr T.cK (ae (qv 0) (ae ag aH))))
 (ah (aJ 6 bJ.nd (aY au))
 (ah (jk (g:=(Tg.nm 7)) PassesOwn.never rfl (oK rfl T.qJ (ae (qv 1) aH)) (eU 7 bJ.nd)
 (ah (aJ 8 bJ.nd (QPE.f (aq (qv 2) (QPF.w (GR (QPF.w (bh (qv 5) (QPF.w (rJ ag (qv 7))))) ag)))))
 (ah (aJ 9 bJ.nd (bh (QPF.w (bh (QPF.w (bh (QPF.w (bh (QPF.w (nO (qv 3) qE (qD (qv 4)))) (qv 8))) (QPF.w (nO (qv 3) (qD (qv 4)) qE)))) (QPF.w (rJ (QPF.w ay) (QPF.w (GR (qv 7) ag)))))) (QPF.w (rJ (QPF.w ay) (QPF.w (Lc (qv 7) ag))))))
 (ah (bR (b9 (HE rfl) Aa rfl (qv 9) (QPF.w (aE (jm (by rfl)))))
 (aj (aJ 9 bJ.nd (bh (qv 9) (QPF.w ay))))
 cb)
 (ah (bR (b9 (HE rfl) Aa rfl (qv 9) (QPF.w (aE (jm (by rfl)))))
 (aj (aJ 9 bJ.nd (bh (qv 9) (QPF.w ay))))
 cb)
 (aj (lK (i:=6) (pv 6) (QPE.f (qv 9)))))))))
 (ah (aJ 10 bJ.nd (aY (jm (by rfl))))
 (ah (aJ 10 bJ.nd (bh (qv 10) (QPF.w (aY (jm (by rfl))))))
 (ah (aJ 9 bJ.nd (QPE.f (aq (qv 10) (QPF.w (bX cw hr T.cK (ae (qv 0) (ae ag aH)))))))
 (ah (bR (QPW.pt (rD (cX hu (QPF.w (bX cw hr T.cK (ae (qv 0) (ae ag aH)))) ag) (nL (b9 (DN rfl) Aa rfl (qv 9) (qv 6)))))
 (aj (KU (i:=6) (pv 6) (QPF.w (bX cw hr T.cK (ae (qv 0) (ae (qv 1) aH)))) (qv 9)))
 cb)
 (aj (qz (i:=6) (pv 6)))))))))))))),fun ts Q h=>?_⟩
  obtain⟨m,rfl,m0,m1,hq⟩:=h;refine⟨by decide,by decide,fun n n0 n1=>⟨by omega,by omega,dv (by rw[nI];omega),fun i ys=>∃ cs:List Nat,ys=cs.map (fun c=>.s ⟨#[c]⟩)/\cs.length=i,⟨[],rfl,rfl⟩,?_,?_⟩⟩
  ·rintro i x ys hx ⟨cs,rfl,hc⟩
   obtain⟨rfl,hi⟩:=vU hx;refine⟨_,rfl,by decide,by decide,fun r r0 r1=>⟨by decide +kernel,_,Co r0 r1,rfl,?_⟩⟩
   exact⟨cs ++ [p6 r.toNat],by simp,by simp[hc]⟩
  ·rintro ys ⟨cs,rfl,hc⟩
   rw[nI]at hc;have e2:((cs.map (fun c=>(⟨#[c]⟩:Str))).map (·.length)).sum=cs.length:=by
    clear hc
    induction cs with
    | nil=>rfl
    | cons c cs ih=>simp only[Xs,Zz,Xn,ih,show(⟨#[c]⟩:Str).length=1 from rfl];omega
   refine⟨cs.map (fun c=>(⟨#[c]⟩:Str)),?_,?_,?_⟩
   ·rw[<- Kd,YM];rfl
   ·rw[e2,show(Str.ofString "").length=0 from by decide +kernel];omega
   have z:=PySem.size_glued (Str.ofString "") (cs.map (fun c=>(⟨#[c]⟩:Str)))
   rw[e2,show(Str.ofString "").length=0 from by decide +kernel]at z
   have lz:(Txt.join (Str.ofString "") (cs.map (fun c=>(⟨#[c]⟩:Str)))).length<=5:=by
    show(Builtin.Str.glued _ _).length<=5;omega
   generalize Txt.join (Str.ofString "") (cs.map (fun c=>(⟨#[c]⟩:Str)))=core at lz ⊢
   refine⟨cW (by omega),by omega,by omega,fun at_ a0 a1=>⟨by decide,by decide,fun tn t0 t1=>?_⟩⟩
   have lc1:(Txt.slice core none (some at_)).length<=5:=Xw (Txt.slice_le _ _ _) lz;have lc2:(Txt.slice core (some at_) none).length<=5:=Xw (Txt.slice_le _ _ _) lz;have lx:(Str.ofString "x").length=1:=by decide +kernel
   have ly:(Str.ofString "y").length=1:=by decide +kernel
   have lq:(Str.ofString "q").length=1:=by decide +kernel
   refine⟨by omega,by omega,fun i q=>(∃ o7 o8 o9 L,q = [.r .og,.r (.i m),.o (.s wR),.o (.s core),.o (.i at_),.o (.i tn),.o (.l L),o7,o8,o9,.no]/\L =((Xt i).map (wordOf kept (Txt.slice core none (some at_)) (Txt.slice core (some at_) none) tn.toNat)).map .s),⟨_,_,_,_,rfl,rfl⟩,?_,?_⟩
   ·rintro i x q hx ⟨o7,o8,o9,L,rfl,rfl⟩
    obtain⟨rfl,hi⟩:=vU hx;have hi:i<52:=by omega
    have e1:∀ c:Nat,(⟨#[c]⟩:Str).length=1:=fun _=>rfl
    have eL:p6 (((tn+7*(0+(i:Int))) % 26).toNat)=p6 (tn.toNat+7*i):=by
     have ht:tn+7*(0+(i:Int)) =((tn.toNat+7*i:Nat):Int):=by rw[ZN,Zk,Zi,YF t0];rfl
     rw[ht];show 97+(tn.toNat+7*i) % 26 % 26=97+(tn.toNat+7*i) % 26;rw[Nat.mod_mod]
    have r1:=i6 "x" ((0+(i:Int)) % 2).toNat;have r2:=i6 "y" ((0+(i:Int)) / 26).toNat;rw[lx]at r1;rw[ly]at r2;refine⟨_,rfl,.inl ⟨by omega,by omega⟩,(by show(0:Int)<26;decide),(by decide +kernel),_,Co (mod_lt (by decide)).1 (mod_lt (by decide)).2,rfl,?_⟩
    refine⟨cW (by omega),cW (by rw[e1];omega),cW (by omega),cW (by rw[Str.length_append,e1];omega),(by show(0:Int)<2;decide),by omega,by omega,by omega,cW (by rw[Str.length_append,Str.length_append,e1];omega),⟨by decide,by decide⟩,by omega,by omega,by omega,cW (by rw[Str.length_append,Str.length_append,Str.length_append,e1];omega),?_⟩
    have eW:Txt.slice core none (some at_)++⟨#[p6 (((tn+7*(0+(i:Int))) % 26).toNat)]⟩++Txt.slice core (some at_) none++ki "x" ((0+(i:Int)) % 2).toNat++ki "y" ((0+(i:Int)) / 26).toNat=cz (Txt.slice core none (some at_)) (Txt.slice core (some at_) none) tn.toNat i:=by
     unfold cz;rw[eL,show((0+(i:Int)) % 2).toNat=i % 2 from by rw[ZN];rfl,show((0+(i:Int)) / 26).toNat=i / 26 from by rw[ZN];rfl]
    have lW:=lY (Txt.slice core none (some at_)) (Txt.slice core (some at_) none) tn.toNat i;rw[eW];have snoc:∀ z:Str,z=wordOf kept (Txt.slice core none (some at_)) (Txt.slice core (some at_) none) tn.toNat i ->
      ((Xt i).map (wordOf kept (Txt.slice core none (some at_)) (Txt.slice core (some at_) none) tn.toNat)).map L2.T.s ++ [L2.T.s z] =((Xt (i+1)).map (wordOf kept (Txt.slice core none (some at_)) (Txt.slice core (some at_) none) tn.toNat)).map L2.T.s:=fun z hz=>by
     subst hz;rw[Zl];simp
    have ln:(((Xt i).map (wordOf kept (Txt.slice core none (some at_)) (Txt.slice core (some at_) none) tn.toNat)).map L2.T.s).length<WT:=dv (by simp;omega)
    refine⟨by rfl,bY (fun g1=>?_) (fun g1=>?_)⟩
    ·have g1:inV (.str (cz (Txt.slice core none (some at_)) (Txt.slice core (some at_) none) tn.toNat i)) (y8.map V.str)=true:=by rw[<- i7];exact g1
     refine⟨cW (by rw[lq];omega),by rfl,bY (fun g2=>?_) (fun _=>?_)⟩
     ·have g2:inT (.s (cz (Txt.slice core none (some at_)) (Txt.slice core (some at_) none) tn.toNat i++("q":Str))) (mv.map L2.T.s)=true:=g2;rw[i7,Pt]at g2;cases g2
     exact⟨ln,rfl,_,_,_,_,rfl,snoc (cz (Txt.slice core none (some at_)) (Txt.slice core (some at_) none) tn.toNat i++("q":Str)) (by unfold wordOf;rw[mT,g1,ZH,if_pos rfl])⟩
    ·have g1:inV (.str (cz (Txt.slice core none (some at_)) (Txt.slice core (some at_) none) tn.toNat i)) (y8.map V.str)=false:=by
      cases e:inV (.str (cz (Txt.slice core none (some at_)) (Txt.slice core (some at_) none) tn.toNat i)) (y8.map V.str)with
      | false=>rfl
      | true=>rw[<- i7]at e;exact absurd e g1
     refine⟨by rfl,bY (fun g2=>?_) (fun g2=>?_)⟩
     ·have g2:inV (.str (cz (Txt.slice core none (some at_)) (Txt.slice core (some at_) none) tn.toNat i)) (mv.map V.str)=true:=by rw[<- i7];exact g2
      exact⟨cW (by rw[lq];omega),ln,rfl,_,_,_,_,rfl,snoc (cz (Txt.slice core none (some at_)) (Txt.slice core (some at_) none) tn.toNat i++("q":Str)) (by unfold wordOf;rw[mT,g1,g2,YT,if_pos rfl])⟩
     ·have g2:inV (.str (cz (Txt.slice core none (some at_)) (Txt.slice core (some at_) none) tn.toNat i)) (mv.map V.str)=false:=by
       cases e:inV (.str (cz (Txt.slice core none (some at_)) (Txt.slice core (some at_) none) tn.toNat i)) (mv.map V.str)with
       | false=>rfl
       | true=>rw[<- i7]at e;exact absurd e g2
      exact⟨ln,rfl,_,_,_,_,rfl,snoc (cz (Txt.slice core none (some at_)) (Txt.slice core (some at_) none) tn.toNat i) (by unfold wordOf;rw[mT,g1,g2,YT,if_neg (by decide),Str.append_empty])⟩
   ·rintro q ⟨o7,o8,o9,L,rfl,rfl⟩
    rw[nI];have nd:((Xt m.toNat).map (wordOf kept (Txt.slice core none (some at_)) (Txt.slice core (some at_) none) tn.toNat)).Nodup:=nodup_range fun i j hi hj hne=>De (by omega) (by omega) hne
    have wl:∀ w∈(Xt m.toNat).map (wordOf kept (Txt.slice core none (some at_)) (Txt.slice core (some at_) none) tn.toNat),1<=w.length/\w.length<=20:=fun w hw=>by
     obtain⟨i,hi,rfl⟩:=XC.mp hw;exact zW lc1 lc2 (by have:=Yz.mp hi;omega)
    have ll:((Xt m.toNat).map (wordOf kept (Txt.slice core none (some at_)) (Txt.slice core (some at_) none) tn.toNat)).length=m.toNat:=by simp
    generalize(Xt m.toNat).map (wordOf kept (Txt.slice core none (some at_)) (Txt.slice core (some at_) none) tn.toNat)=ws at nd wl ll
    refine⟨cW (by decide),by rfl,by rfl,by decide,by decide,fun r r0 r1=>?_⟩
    obtain⟨wd,ew,hm⟩:=CV (ws:=near) r0 r1;refine⟨_,ew,rfl,by decide,by decide,fun r3 _ _=>⟨rfl,?_⟩⟩
    have done:Q (.l (ws.map .s)):=hq ws (by omega) nd wl
    refine bY (fun _=>?_) (fun _=>Wb done)
    refine⟨by rw[IH];rfl,bY (fun h2=>?_) (fun _=>done)⟩
    have hni:wd ∉ ws:=Ms (by rw[<- i7];simpa using h2)
    refine⟨m0,by omega,fun r4 r40 r41=>⟨r4.toNat,?_,sO ws,rfl,?_⟩⟩
    ·unfold ixN;rw[if_pos r40,if_pos (by rw[PZ];omega)]
    ·have z:=hq (ws.set r4.toNat wd) (by rw[XW];omega) (D5 nd hni) fun w hw=>by
      rcases Y1 hw with z|z
      ·exact wl w z
      ·rw[z];exact HS wd hm
     rw[List.map_set]at z;exact z
theorem Cn(T:Txt K mg a):aP P w K mg base CX0 1 a.bP a.kY ["self","piece","above","arm"] (z7 a.a8 ["piece","above","arm"]):=by
 refine Fun.ok (k:=0) T.ij vJ (fun vs H Q E h=>?_) fun cdv A outer s H vs Q E hr h=>?_
 ·obtain⟨x,dx,args,rfl,hl,_⟩:=h;show args.length+1=4;rw[hl];rfl
 ·obtain⟨x,dx,args,rfl,hl,hx,hq⟩:=h;obtain⟨v1,v2,v3,rfl⟩:∃ v1 v2 v3,args = [v1,v2,v3]:=by
   match args,hl with
   | [v1,v2,v3],_=>exact⟨v1,v2,v3,rfl⟩
  refine⟨_,bK (v9 (pv 0) (pv 1) rfl) (bK (v9 (pv 0) (pv 2) rfl) (jo (v9 (pv 0) (pv 3) rfl))),?_⟩;refine⟨_,rfl,_,rfl,x,a.a8,dx,_,rfl,hx,T.oj,T.iM,(by show 0<1000;decide),?_⟩
  refine⟨_,rfl,_,rfl,x,a.a8,dx,_,rfl,aw,T.oj,T.ub,(by show 1<1000;decide),?_⟩
  refine⟨_,rfl,_,rfl,x,a.a8,dx,_,rfl,aw,T.oj,T.yV,(by show 2<1000;decide),?_⟩
  rw[BN,BN];exact hq
theorem kE(T:Txt K mg a):aP P w K mg base CX0 1 a.bB a.iQ ["self","body","between"] (spL K 0 (O5 a.az)):=by
 refine T.fj.okL q5 (fun ts Q h=>?_) (fun _ _ _ _ _ _ hr=>?_) fun ts Q h=>?_
 ·obtain⟨_,_,_,_,_,_,_,rfl,_⟩:=h;rfl
 ·have hu:=bj hr;refine⟨_,_,((ah (c8 T.aK T.aN (aF (j:=0)) (QPE.f (qv 1)))
 (aj (vX T.aK T.fN Bc (aF (j:=0)) (QPF.w (bh ag (qv 2))))))),fun ts Q t0 a0 h ht ha=>?_⟩
  obtain⟨x,f,n,p,ns,b,k,rfl,hb,hq⟩:=h;cases ht;cases ha;refine⟨hb,rfl,by decide,_,rfl,?_⟩
  refine⟨rfl,by decide,n,rfl,_,rfl,?_⟩
  exact⟨_,rfl,rfl,hq⟩
 ·obtain⟨x,f,n,p,ns,b,k,rfl,_⟩:=h;exact⟨_,_,rfl,rfl⟩
theorem fZ(T:Txt K mg a):aP P w K mg base CX0 2 a.aV a.dq ["self","value"] (spL K 0 (AA a.az)):=by
 have iR:=@kE P w K mg base a T;refine T.ck.okL ma (fun ts Q h=>?_) (fun _ _ _ _ _ _ hr=>?_) fun ts Q h=>?_
 ·obtain⟨_,_,_,_,_,_,_,_,rfl,_⟩:=h;rfl
 ·have hu:=bj hr;refine⟨_,_,((ah (KY hu (bQ T.aK T.cE (aF (j:=0))) (aq (a6 (bQ T.aK T.aN (aF (j:=0)))) ag) (qv 1))
 (aj (cY T.aK T.kH iR (hr.mono (by first|decide|omega)) T.mw (aF (j:=0)) (ae (aq (a6 (bQ T.aK T.aN (aF (j:=0)))) (QPF.w (kl ag))) (ae ag aH)))))),fun ts Q t0 a0 h ht ha=>?_⟩
  obtain⟨x,f,n,ps,ns,v,y,b,rfl,hv,hns,hl,hps,e1,e2,hq⟩:=h;cases ht;cases ha;have hb:b.im=true:=by
   have:=List.mem_of_getLast? e2
   exact dW hps this
  refine⟨rfl,_,rfl,rfl,_,rfl,_,lZ e1,Xr hl (by decide),hns,hv,_,rfl,?_⟩
  refine⟨rfl,rfl,rfl,_,rfl,b,CZ e2,(by show(b.im&&(true&&true))=true;rw[hb];rfl),a0,f,n,_,_,b,0,rfl,hb,rfl,rfl,_,rfl,?_⟩
  exact⟨_,rfl,rfl,hq⟩
 ·obtain⟨x,f,n,ps,ns,v,y,b,rfl,_⟩:=h;exact⟨_,_,rfl,rfl⟩
theorem iZ(T:Txt K mg a):aP P w K mg base CX0 1 a.bc a.fR ["self","ending"] (spL K 0 (DF a.aA)):=by
 refine T.de.okL oI (fun ts Q h=>?_) (fun _ _ _ _ _ _ hr=>?_) fun ts Q h=>?_
 ·obtain⟨_,_,_,_,_,_,_,rfl,_⟩:=h;rfl
 ·have hu:=bj hr;refine⟨_,_,((ah (c8 T.aD T.cD (aF (j:=0)) (QPE.f (qv 1)))
 (aj (c8 T.aD T.cp (aF (j:=0)) (aY au))))),fun ts Q t0 a0 h ht ha=>?_⟩
  obtain⟨x,fns,frs,c,m,e,v,rfl,hv,hq⟩:=h;cases ht;cases ha;refine⟨hv,rfl,by decide,_,rfl,?_⟩
  refine⟨rfl,by decide,_,rfl,?_⟩
  exact⟨_,rfl,rfl,hq⟩
 ·obtain⟨x,fns,frs,c,m,e,v,rfl,_⟩:=h;exact⟨_,_,rfl,rfl⟩
theorem iL(T:Txt K mg a):aP P w K mg base CX0 1 a.bN a.jK ["self"] (spQ K (Az a.aA fun c _ _=>.i c)):=by
 refine T.gn.okQ t6 (fun ts Q h=>?_) (fun _ _ _ _ _ _ hr=>?_)
 ·obtain⟨_,_,_,_,_,_,rfl,_⟩:=h;rfl
 ·refine⟨_,_,((aj (bg (QPE.f (h8 T.aD T.fh (qv 0)))))),fun ts Q h=>?_⟩
  obtain⟨x,fns,frs,c,m,e,rfl,he,hq⟩:=h;exact⟨rfl,_,rfl,rfl,hq⟩
theorem iK(T:Txt K mg a):aP P w K mg base CX0 1 a.bM a.jJ ["self"] (spQ K (Az a.aA fun _ m _=>.i m)):=by
 refine T.gm.okQ t5 (fun ts Q h=>?_) (fun _ _ _ _ _ _ hr=>?_)
 ·obtain⟨_,_,_,_,_,_,rfl,_⟩:=h;rfl
 ·refine⟨_,_,((aj (bg (QPE.f (h8 T.aD T.jG (qv 0)))))),fun ts Q h=>?_⟩
  obtain⟨x,fns,frs,c,m,e,rfl,he,hq⟩:=h;exact⟨rfl,_,rfl,rfl,hq⟩
theorem kD(T:Txt K mg a):aP P w K mg base CX0 1 a.cG a.mW ["self"] (spQ K (Az a.aA fun _ _ e=>e)):=by
 refine T.jO.okQ yn (fun ts Q h=>?_) (fun _ _ _ _ _ _ hr=>?_)
 ·obtain⟨_,_,_,_,_,_,rfl,_⟩:=h;rfl
 ·refine⟨_,_,((aj (bg (QPE.f (h8 T.aD T.cD (qv 0)))))),fun ts Q h=>?_⟩
  obtain⟨x,fns,frs,c,m,e,rfl,he,hq⟩:=h;exact⟨rfl,_,rfl,he,hq⟩
theorem wJ(T:Txt K mg a):aP P w K mg base CX0 1 a.dy a.pK ["value"] (spQ K O4):=by
 refine T.pT.F.okQ f7 (fun ts Q h=>?_) (fun _ _ _ _ _ _ hr=>?_)
 ·obtain⟨v,rfl,_⟩:=h;rfl
 ·have hu:=bj hr;refine⟨_,_,((ah (aJ 1 f7.nd (aY au))
 (ah (aJ 2 f7.nd (aY (af (QPE.f (qv 0)) au)))
 (ah (iV PassesOwn.never (rE (qv 2))
 (ah (GO (j:=3) f7.nd rfl (Or.inl rfl) (pv 2))
 (ah (lK (i:=1) (pv 1) (QPE.f (aq (qv 3) ag)))
 (aj (uS (i:=2) (pv 2) (yA rfl rfl T.Bs rfl T.mZ (aq (qv 3) ag)))))))
 (aj (qz (i:=1) (pv 1))))))),fun ts Q h=>?_⟩
  obtain⟨v,rfl,hv,hq⟩:=h;refine⟨v.im,fun c q=>∃(L:List Str)(W:List Vl)(LL WW:List L2.T)(o3:Sl),q = [.r v.t,.o (.l LL),.o (.l WW),o3]/\LL=L.map .s/\WW=W.map Vl.t/\L.length+Vl.szs W=v.sz/\c=Vl.szs W,⟨_,[],[v],_,_,_,rfl,rfl,rfl,by rw[Vl.szs,Vl.szs];simp,rfl⟩,?_⟩
  rintro c q ⟨L,W,LL,WW,o3,rfl,rfl,rfl,hl,rfl⟩
  rcases Zn W with rfl |⟨W',u,rfl⟩
  ·rw[Vl.szs]at hl;exact hq L (by omega)
  ·have e1:(W' ++ [u]).map Vl.t=W'.map Vl.t ++ [.t [.s u.mm,.t (u.ps.map Vl.t)]]:=by rw[YI,<- Vl.Di];rfl
   have e2:Vl.szs (W' ++ [u])=Vl.szs W'+(1+Vl.szs u.ps):=by
    rw[Vl.lF,Vl.szs,Vl.szs];cases u with
    | mk m ps=>rw[Vl.sz];rfl
   have h1:=Vl.nZ W';have h2:=Vl.nZ u.ps;rw[List.concat_eq_append]at *;rw[e1];refine bY (fun _=>?_) (fun z=>absurd (by simp) z)
   refine⟨fun q'=>∃(L:List Str)(W:List Vl)(LL WW:List L2.T)(o3:Sl),q' = [.r v.t,.o (.l LL),.o (.l WW),o3]/\LL=L.map .s/\WW=W.map Vl.t/\L.length+Vl.szs W=v.sz/\Vl.szs W<Vl.szs (W' ++ [u]),?_,?_⟩
   ·rintro q' ⟨L,W,LL,WW,o3,rfl,rfl,rfl,g1,g2⟩
    exact⟨Vl.szs W,g2,L,W,_,_,_,rfl,rfl,rfl,g1,rfl⟩
   ·refine⟨_,_,rfl,(by rw[<- e1];exact Vl.ims _),by decide,?_⟩
    refine⟨aW (by rw[PZ];omega),.s u.mm,rfl,rfl,?_⟩
    refine⟨.t (u.ps.map Vl.t),rfl,Vl.ims _,XO (aW (by simp only[PZ,YW];omega)),?_⟩
    refine⟨L ++ [u.mm],W'++u.ps.reverse,_,_,_,rfl,by simp,by simp,?_,?_⟩
    ·rw[Vl.lF,Vl.vA,Xl];show L.length+1+_=_;omega
    ·rw[Vl.lF,Vl.vA];omega
theorem LQ(T:Txt K mg a):aP P w K mg base CX0 2 a.oW a.IZ ["value"] (spQ K VM):=by
 have zB:=@wJ P w K mg base a T;refine T.JG.F.okQ KG (fun ts Q h=>?_) (fun _ _ _ _ _ _ hr=>?_)
 ·obtain⟨v,rfl,_⟩:=h;rfl
 ·have hu:=bj hr;refine⟨_,_,((aj (bg (vZ T.zu (ae (QPF.w (bX zB hr T.pT (ae (qv 0) aH))) aH))))),fun ts Q h=>?_⟩
  obtain⟨v,rfl,hv,hq⟩:=h;refine⟨v,rfl,hv,fun L hL=>?_⟩
  rw[<- hL]at hq;have e:((L.map L2.T.s).length:Int) =(L.length:Int):=by rw[PZ]
  rw[<- e]at hq;exact hq
theorem yh:∀ ly:List Vl,Vl.szs (ly.flatMap Vl.ps)+ly.length=Vl.szs ly
 | []=>rfl
 | .mk m ps::r=>by
  rw[ZO,Vl.lF,Vl.szs,Vl.sz,Xn,<- yh r];show Vl.szs ps+_+_=_;omega
theorem zg:∀{ly:List Vl},ly ≠ []->Vl.dps (ly.flatMap Vl.ps)+1=Vl.dps ly
 | .mk m ps::r,_=>by
  rw[ZO,Vl.Cz,Vl.dps,Vl.dp];show max (Vl.dps ps) _+1=_;cases r with
  | nil=>show max (Vl.dps ps) 0+1=max _ 0;omega
  | cons v r=>rw[<- zg (X3 v r)];omega
theorem HI(T:Txt K mg a):aP P w K mg base CX0 1 a.lU a.CL ["value"] (spQ K VO):=by
 refine T.Dc.F.okQ gA (fun ts Q h=>?_) (fun _ _ _ _ _ _ hr=>?_)
 ·obtain⟨v,rfl,_⟩:=h;rfl
 ·have hu:=bj hr;refine⟨_,_,((ah (aJ 1 gA.nd jl)
 (ah (aJ 2 gA.nd (aY (af (QPE.f (qv 0)) au)))
 (ah (iV PassesOwn.never (rE (qv 2))
 (ah (K4 (i:=1) gA.nd ag)
 (ah (aJ 3 gA.nd (aY au))
 (ah (jk (g:=(Tg.nm 4)) PassesOwn.never rfl (K8 (i:=2) (pv 2)) (eU 4 gA.nd)
 (aj (K3 (i:=3) (pv 3) (aq (qv 4) ag))))
 (aj (K0 (i:=2) (j:=3) gA.nd (pv 3)))))))
 (aj (bg (QPE.f (qv 1)))))))),fun ts Q h=>?_⟩
  obtain⟨v,rfl,hv,hq⟩:=h;refine⟨v.im,fun c q=>∃(ly:List Vl)(d:Nat)(LY:List L2.T)(dI:Int)(o3 o4:Sl),q = [.r v.t,.o (.i dI),.o (.l LY),o3,o4]/\LY=ly.map Vl.t/\dI=d/\d+Vl.dps ly=v.dp/\Vl.szs ly<=v.sz/\c=Vl.dps ly,⟨_,[v],0,_,_,_,_,rfl,rfl,rfl,?_,?_,rfl⟩,?_⟩
  ·rw[Vl.dps,Vl.dps];omega
  ·rw[Vl.szs,Vl.szs];omega
  rintro c q ⟨ly,d,LY,dI,o3,o4,rfl,rfl,rfl,hd,hs,rfl⟩
  cases ly with
  | nil =>
   have:d=v.dp:=by rw[Vl.dps]at hd;omega
   subst this;exact⟨rfl,hq⟩
  | cons u r =>
   have hne:u::r ≠ []:=X3 _ _;have f1:=zg hne;have f2:=yh (u::r)
   generalize u::r=ly at *
   refine bY (fun _=>?_) (fun z=>absurd (by cases ly with|nil=>exact absurd rfl hne|cons _ _=>rfl) z)
   refine⟨fun q'=>∃(ly':List Vl)(LY:List L2.T)(dI:Int)(o3 o4:Sl),q' = [.r v.t,.o (.i dI),.o (.l LY),o3,o4]/\LY=ly'.map Vl.t/\dI =(d+1:Nat)/\ly'=ly.flatMap Vl.ps,?_,?_⟩
   ·rintro q' ⟨ly',LY,dI,o3,o4,rfl,rfl,rfl,rfl⟩
    exact⟨_,by omega,ly.flatMap Vl.ps,d+1,_,_,_,_,rfl,rfl,rfl,by omega,by omega,rfl⟩
   ·refine⟨(d:Nat),rfl,?_⟩;refine⟨fun i q=>∃(BB:List L2.T)(o4:Sl),q = [.r v.t,.o (.i (d+1)),.r (.l (ly.map Vl.t)),.o (.l BB),o4]/\BB =((ly.take i).flatMap Vl.ps).map Vl.t,⟨_,_,rfl,rfl⟩,fun i z q hz hi=>?_,fun q hi=>?_⟩
    ·obtain⟨BB,o4,rfl,rfl⟩:=hi;rw[Xc]at hz;obtain⟨t,ht,rfl⟩:=Xg.mp hz;rw[Vl.Di];have hlen:=Vl.nZ (ly.flatMap Vl.ps);have esp:ly.take (i+1)=ly.take i ++ [t]:=by rw[Xu,ht];rfl
     have TR:((ly.take i).flatMap Vl.ps).length+t.ps.length <=(ly.flatMap Vl.ps).length:=by
      have h3:((ly.take (i+1)).flatMap Vl.ps).length <=(ly.flatMap Vl.ps).length:=by
       conv=>rhs;rw[<- Zo (i+1) ly,Zw,Xl]
       omega
      rw[esp,Zw,Xl]at h3;simpa using h3
     refine⟨_,rfl,.t (t.ps.map Vl.t),rfl,Vl.ims _,XO (aW (by simp only[PZ];omega)),_,_,rfl,?_⟩
     rw[esp];simp
    ·obtain⟨BB,o4,rfl,rfl⟩:=hi;rw[PZ,Xv];exact⟨by decide,by show 2<5;decide,ly.flatMap Vl.ps,_,_,_,_,rfl,rfl,rfl,rfl⟩
theorem gO(T:Txt K mg a):aP P w K mg base CX0 1 a.a5 a.d3 ["self","names"] (spQ K (Aw a.az)):=by
 refine T.cA.okQ mB (fun ts Q h=>?_) (fun _ _ _ _ _ _ hr=>?_)
 ·obtain⟨_,_,_,_,_,_,_,rfl,_⟩:=h;rfl
 ·have hu:=bj hr;refine⟨_,_,((aj (bg (ez (ve rfl) uL (by rfl) T.CS (by kernel_rfl) (ae (QPF.w (dM rfl (kj (qv 1)) (N':=["name","self"]) (.own rfl (.got (i:=0) rfl rfl (.inl rfl) .nil)) (eB (g:=(Tg.nm 0)) (fun _ _ _ _ _=>⟨(mL 0),(QPE.f (aU (h8 T.aK T.cE (qv 1)) (qv 0)))⟩)))) aH))))),fun ts Q h=>?_⟩
  obtain⟨x,f,n,p,ns,ys,vs,rfl,hy,⟨hl,hv⟩,hq⟩:=h;refine⟨aW (by rw[PZ];omega),fun i zs=>zs=vs.take i,rfl,fun i z zs hz e=>?_,fun zs e=>?_⟩
  ·subst e;rw[Xc]at hz;obtain⟨y,hy1,rfl⟩:=Xg.mp hz;obtain⟨v,h1,h2,h3⟩:=hv i y hy1;refine⟨_,rfl,rfl,_,rfl,v,h2,h3,?_⟩;rw[Xu,h1];rfl
  ·subst e;rw[PZ,<- hl,Xv];refine⟨bW fun t ht=>?_,hq⟩
   obtain⟨i,hi,rfl⟩:=Ye ht;obtain⟨v,h1,h2,h3⟩:=hv i (ys[i]'(by omega)) (RH (by omega))
   rw[RH hi]at h1;cases h1;exact h3
theorem mr(T:Txt K mg a)(t2:Bool):aP P w K mg base CX0 1 a.bz a.jL ["self","functions","f","values"] (spL K 0 (yH a.az t2)):=by
 refine T.gp.okL t7 (fun ts Q h=>?_) (fun _ _ _ _ _ _ hr=>?_) fun ts Q h=>?_
 ·obtain⟨_,_,_,_,_,_,rfl,_⟩:=h;rfl
 ·have hu:=bj hr;refine⟨_,_,((ah (c8 T.aK T.si (aF (j:=0)) (QPE.f (qv 2)))
 (ah (c8 T.aK T.fN (aF (j:=0)) jl)
 (ah (c8 T.aK T.aN (aF (j:=0)) (QPE.f (aq (aq (qv 1) (qv 2)) ag)))
 (aj (c8 T.aK T.cE (aF (j:=0)) (rL (t2:=t2) rfl T.xH rfl T.Jp (ae (QPF.w (dM rfl (kj (aq (aq (qv 1) (qv 2)) ag)) (N':=["name","kind"]) (.own rfl (.own rfl .nil)) (eB (g:=(Tg.tp [0,1])) (fun _ _ _ _ _=>⟨(Hv (mL 0) (mL 1)),(QPE.f (qv 0))⟩)))) (ae (qv 3) aH))))))))),fun ts Q t0 a0 h ht ha=>?_⟩
  obtain⟨x,gs,f,g,vs,u,rfl,him,hg,hl,i4,hu2,hq⟩:=h;cases ht;cases ha;have eg:atI (gs.map Fn.t) (f:Int)=some g.t:=lZ (by rw[Xc,hg];rfl)
  have gim:g.t.im=true:=dW him (Zv (XA hg));have bim:g.b.im=true:=by
   have h:(g.nm.im&&((L2.T.t (g.prs.map fun p=>.t [.s p.1,p.2])).im&&(g.kd.im&&(g.b.im&&true))))=true:=gim
   simp only[Xi]at h;exact h.2.2.2.1
  refine⟨rfl,rfl,by decide,_,rfl,?_⟩
  refine⟨rfl,by decide,_,rfl,?_⟩
  refine⟨g.t,eg,g.b,rfl,bim,rfl,by decide,_,rfl,?_⟩
  refine⟨g.t,eg,_,rfl,aW (by rw[PZ];omega),fun i ys=>ys =((g.prs.take i).map fun p=>L2.T.s p.1),rfl,fun i z ys hz hi=>?_,fun ys e=>?_⟩
  ·subst hi;rw[Xc]at hz;obtain⟨p,hp,rfl⟩:=Xg.mp hz;refine⟨_,rfl,rfl,?_⟩;rw[Xu,hp];simp
  ·subst e;rw[PZ,Xv];have ek:kM (g.prs.map fun p=>L2.T.s p.1)=some (g.prs.map fun p=>(.inr p.1:Key)):=by
    clear hl gim bim hq eg hg
    induction g.prs with
    | nil=>rfl
    | cons p r ih=>rw[Xs,Xs,kM,ih];rfl
   rcases hu2 with⟨rfl,rfl⟩ |⟨rfl,rfl|rfl⟩
   ·refine⟨rfl,i4,_,ek,rfl,by decide,_,rfl,?_⟩
    exact⟨_,rfl,rfl,hq⟩
   ·refine⟨rfl,i4,_,ek,rfl,by decide,_,rfl,?_⟩
    exact⟨_,rfl,rfl,hq⟩
   ·refine⟨rfl,i4,_,ek,rfl,by decide,_,rfl,?_⟩
    exact⟨_,rfl,rfl,hq⟩
 ·obtain⟨x,gs,f,g,vs,u,rfl,_⟩:=h;exact⟨_,_,rfl,rfl⟩
theorem jF(T:Txt K mg a)(t2:Bool):aP P w K mg base CX0 3 a.bO a.kX ["self","program","f","args","coins"] (spL K 0 (Av a.aA a.az t2)):=by
 have jN:=@mr P w K mg base a T t2;refine T.ig.okL vI (fun ts Q h=>?_) (fun _ _ _ _ _ _ hr=>?_) fun ts Q h=>?_
 ·obtain⟨_,_,_,_,_,_,_,_,rfl,_⟩:=h;rfl
 ·have hu:=bj hr;refine⟨_,_,((ah (c8 T.aD T.cy (aF (j:=0)) (QPE.f (aq (qv 1) ag)))
 (ah (c8 T.aD T.cp (aF (j:=0)) (aY (af (km T.yX jN (hr.mono (by first|decide|omega)) rfl T.yW T.ou (ae (a6 (bQ T.aD T.cy (aF (j:=0)))) (ae (qv 2) (ae (qv 3) aH)))) au)))
 (ah (c8 T.aD T.fh (aF (j:=0)) (QPE.f (qv 4)))
 (ah (c8 T.aD T.jG (aF (j:=0)) jl)
 (aj (c8 T.aD T.cD (aF (j:=0)) dJ))))))),fun ts Q t0 a0 h ht ha=>?_⟩
  obtain⟨x,ks,gs,f,g,vs,u,c,rfl,him,hg,hl,i4,i5,hu2,hq⟩:=h;cases ht;cases ha;have hi:(L2.T.t (gs.map Fn.t)).im=true:=him;refine⟨_,rfl,hi,rfl,by decide,_,rfl,?_⟩
  refine⟨rfl,_,rfl,fun z=>?_⟩
  refine⟨z,gs,f,g,vs,u,rfl,him,hg,hl,i4,hu2,rfl,rfl,?_⟩;refine⟨rfl,by decide,_,rfl,?_⟩
  refine⟨rfl,rfl,by decide,_,rfl,?_⟩
  refine⟨rfl,by decide,_,rfl,?_⟩
  refine⟨rfl,by decide,_,rfl,?_⟩
  exact⟨_,rfl,rfl,hq z⟩
 ·obtain⟨x,ks,gs,f,g,vs,u,c,rfl,_⟩:=h;exact⟨_,_,rfl,rfl⟩
theorem oQ(T:Txt K mg a):aP P w K mg base CX0 3 a.bf a.fS ["self","frame","word"] (spL K 0 (DG a.aA a.az)):=by
 have iR:=@kE P w K mg base a T;have fX:=@iZ P w K mg base a T;refine T.df.okL iU (fun ts Q h=>?_) (fun _ _ _ _ _ _ hr=>?_) fun ts Q h=>?_
 ·obtain⟨_,_,_,_,_,_,_,_,_,_,_,_,rfl,_⟩:=h;rfl
 ·have hu:=bj hr;refine⟨_,_,((ah (aJ 3 iU.nd (QPE.f (aq (a6 (bQ T.aK T.aN (cQ (j:=0) (i:=1)))) ag)))
 (aj (bR (QPW.pt (rD (cX hu (qv 2) (QPF.w ay)) (nL (yy (qv 3) (a6 (bQ T.aD T.fh (aF (j:=0))))))))
 (aj (cY T.aD T.i3 fX (hr.mono (by first|decide|omega)) T.jV (aF (j:=0)) (ae (QPF.w (aE (af ay (af (QPE.f (qv 3)) au)))) aH)))
 (ah (vX T.aD T.fh Bc (aF (j:=0)) (QPF.w (ND (cX hu (qv 2) (QPF.w ay)) (QPE.f (qv 3)) (kl (qv 3)))))
 (aj (cY T.aK T.kH iR (hr.mono (by first|decide|omega)) T.mw (cQ (j:=0) (i:=1)) (ae (aq (a6 (bQ T.aK T.aN (cQ (j:=0) (i:=1)))) ag) (ae ag aH))))))))),fun ts Q t0 a0 h ht ha=>?_⟩
  obtain⟨x0,x,fns,frs,f,n,wd,k,b,ns,c,m,rfl,hb,hw,h1,h2,h3⟩:=h;cases ht;cases ha;refine⟨x,_,wy frs,_,_,_,.inl rfl,rfl,aR,rfl,_,rfl,.i k,rfl,rfl,?_⟩;rcases hw with rfl|rfl
  ·refine⟨rfl,rfl,_,rfl,bY (fun g=>?_) fun g=>?_⟩
   ·refine⟨rfl,rfl,rfl,rfl,a0,_,_,c,m,.n,_,rfl,rfl,rfl,rfl,_,rfl,?_⟩;exact⟨_,rfl,rfl,h1 ⟨rfl,of_decide_eq_true g⟩⟩
   ·refine⟨rfl,by decide,c,rfl,rfl,_,rfl,?_⟩
    refine⟨x,_,wy frs,_,_,_,.inl rfl,rfl,aR (c:=c + -k),rfl,rfl,x,_,wy frs,_,_,_,.inl rfl,rfl,aR (c:=c + -k),rfl,_,rfl,b,rfl,(by show(b.im&&(true&&true))=true;rw[hb];rfl),x,f,n,_,ns,b,0,rfl,hb,rfl,rfl,_,rfl,?_⟩
    exact⟨_,rfl,qI (c:=c + -k) (t:=fT a.az x f n (.t [.s "pay",.i k,b]) ns) (h2 ⟨rfl,fun z=>g (decide_eq_true z)⟩)⟩
  ·refine⟨rfl,rfl,by decide,c,rfl,rfl,rfl,_,rfl,?_⟩
   refine⟨x,_,wy frs,_,_,_,.inl rfl,rfl,aR (c:=c+k),rfl,rfl,x,_,wy frs,_,_,_,.inl rfl,rfl,aR (c:=c+k),rfl,_,rfl,b,rfl,(by show(b.im&&(true&&true))=true;rw[hb];rfl),x,f,n,_,ns,b,0,rfl,hb,rfl,rfl,_,rfl,?_⟩
   exact⟨_,rfl,qI (c:=c+k) (t:=fT a.az x f n (.t [.s "get",.i k,b]) ns) (h3 rfl)⟩
 ·obtain⟨x0,x,fns,frs,f,n,wd,k,b,ns,c,m,rfl,_⟩:=h;exact⟨_,_,rfl,rfl⟩
theorem pX(T:Txt K mg a):aP P w K mg base CX0 3 a.bo a.gX ["self","frame"] (spL K 0 (Hq a.aA a.az)):=by
 have du:=@fZ P w K mg base a T;have fX:=@iZ P w K mg base a T;have d7:=@gO P w K mg base a T;have Qt:=@LQ P w K mg base a T;have Nl:=@HI P w K mg base a T;refine T.d8.okL jR (fun ts Q h=>?_) (fun _ _ _ _ _ _ hr=>?_) fun ts Q h=>?_
 ·obtain⟨_,_,_,_,_,_,_,_,_,_,_,_,_,_,rfl,_⟩:=h;rfl
 ·have hu:=bj hr;refine⟨_,_,((ah (aJ 2 jR.nd (aE (af (QPE.f (aq (a6 (bQ T.aK T.aN (cQ (j:=0) (i:=1)))) ag)) (af (yz T.aK T.gQ d7 (hr.mono (by first|decide|omega)) T.ic (a6 (cQ (j:=0) (i:=1))) (ae (aq (a6 (bQ T.aK T.aN (cQ (j:=0) (i:=1)))) ag) aH)) au))))
 (aj (bR (QPW.pt (B2 (yy (QPF.w (bX Qt hr T.JG (ae (qv 2) aH))) (QPF.w (yC rfl T.uB))) (vV (yy (QPF.w (bX Nl hr T.Dc (ae (qv 2) aH))) (QPF.w (yC rfl T.uA))))))
 (aj (cY T.aD T.i3 fX (hr.mono (by first|decide|omega)) T.jV (aF (j:=0)) (ae (QPF.w (aE (af ay (af (QPE.f (aq (a6 (bQ T.aK T.aN (cQ (j:=0) (i:=1)))) ag)) au)))) aH)))
 (aj (cY T.aK T.f6 du (hr.mono (by first|decide|omega)) T.g6 (cQ (j:=0) (i:=1)) (ae (qv 2) aH))))))),fun ts Q t0 a0 h ht ha=>?_⟩
  obtain⟨x0,x,fns,frs,f,n,y,mk,ys,vs,b,ns,c,m,rfl,hb,hns,hl,hyl,hlk,hsz,hq1,hq2⟩:=h;cases ht;cases ha;have et:(L2.T.t [.s mk,.t (vs.map Vl.t)]) =(Vl.mk mk vs).t:=by rw[Vl.Di];rfl
  refine⟨x,_,wy frs,_,_,_,.inl rfl,rfl,aR,rfl,_,rfl,.s mk,rfl,rfl,?_⟩;refine⟨x,_,wy frs,_,_,_,.inl rfl,rfl,aR,rfl,rfl,?_⟩;refine⟨x,_,wy frs,_,_,_,.inl rfl,rfl,aR,rfl,_,rfl,.t (ys.map .s),rfl,?_⟩;refine⟨x,f,n,_,ns,ys,vs.map Vl.t,rfl,hyl,hlk,?_⟩;refine⟨Vl.mk mk vs,by rw[<- et],hsz,?_⟩
  have mim:(L2.T.t [.s mk,.t (vs.map Vl.t)]).im=true:=by rw[et];exact Vl.im _
  have pim:L2.T.ims [.s "make",.s y,.s mk,.t (ys.map .s),b]=true:=by
   show(true&&(true&&(true&&(L2.T.ims (ys.map .s)&&(b.im&&true)))))=true;rw[sO,hb];rfl
  have great:((Vl.mk mk vs).sz > 200\/(Vl.mk mk vs).dp > 60)->_:=hq1;refine bY (fun g1=>?_) (fun g1=>?_)
  ·have g1:=of_decide_eq_true g1;refine⟨rfl,rfl,x,_,wy frs,_,_,_,.inl rfl,rfl,aR,rfl,_,rfl,.s mk,rfl,rfl,rfl,a0,_,_,c,m,.n,_,rfl,rfl,rfl,rfl,_,rfl,?_⟩;exact⟨_,rfl,rfl,hq1 (.inl (by omega))⟩
  ·have g1:¬((200:Int)<((Vl.mk mk vs).sz:Nat)):=fun z=>g1 (decide_eq_true z)
   refine⟨Vl.mk mk vs,by rw[<- et],hsz,bY (fun g2=>?_) (fun g2=>?_)⟩
   ·have g2:=of_decide_eq_true g2;refine⟨rfl,rfl,x,_,wy frs,_,_,_,.inl rfl,rfl,aR,rfl,_,rfl,.s mk,rfl,rfl,rfl,a0,_,_,c,m,.n,_,rfl,rfl,rfl,rfl,_,rfl,?_⟩;exact⟨_,rfl,rfl,hq1 (.inr (by omega))⟩
   ·have g2:¬((60:Int)<((Vl.mk mk vs).dp:Nat)):=fun z=>g2 (decide_eq_true z)
    refine⟨x,_,wy frs,_,_,_,.inl rfl,rfl,aR,rfl,rfl,(by show((L2.T.t [.s mk,.t (vs.map Vl.t)]).im&&true)=true;rw[mim];rfl),x,f,n,_,ns,_,y,b,rfl,mim,hns,hl,pim,rfl,rfl,rfl,rfl,_,rfl,?_⟩
    have hq:=hq2 (by omega)
    rw[<- et]at hq;exact⟨_,rfl,qI (t:=fT a.az x f n (.t [.s "make",.s y,.s mk,.t (ys.map .s),b]) ns) hq⟩
 ·obtain⟨x0,x,fns,frs,f,n,y,mk,ys,vs,b,ns,c,m,rfl,_⟩:=h;exact⟨_,_,rfl,rfl⟩
theorem wI(T:Txt K mg a):aP P w K mg base CX0 1 a.dw a.pJ ["functions","name"] (spQ K Hk):=by
 refine T.pS.F.okQ jh (fun ts Q h=>?_) (fun _ _ _ _ _ _ hr=>?_)
 ·obtain⟨_,_,_,_,rfl,_⟩:=h;rfl
 ·have hu:=bj hr;refine⟨_,_,((ah (jk (g:=(Tg.tp [2,3])) PassesOwn.never rfl (K9 rfl T.zw (by kernel_rfl) (ae (qv 0) aH)) (Hv (eU 2 jh.nd) (eU 3 jh.nd))
 (aj (bR (cX hu (aq (qv 3) ag) (qv 1))
 (aj (bg (QPE.f (qv 2))))
 cb)))
 (aj (bg dJ)))),fun ts Q h=>?_⟩
  obtain⟨gs,nm,f,g,rfl,him,hg,hgn,hlt,hq⟩:=h;have hfl:=(VZ.mp hg).1;refine⟨him,fun i q=>(∃ o2 o3,q = [.r (.t (gs.map Fn.t)),.r (.s nm),o2,o3])/\i<=f,⟨⟨_,_,rfl⟩,XU _⟩,?_,?_⟩
  ·rintro i x q hx ⟨⟨o2,o3,rfl⟩,hij⟩
   obtain⟨y,hy,rfl⟩:=zf hx;rw[Xc]at hy;obtain⟨g',hg',rfl⟩:=Xg.mp hy;rcases Nat.lt_or_eq_of_le hij with z|rfl
   ·obtain⟨s',e,hne⟩:=hlt i g' z hg';refine⟨_,rfl,.s s',by show some g'.nm=_;rw[e],rfl,bY (fun g=>?_) fun g=>⟨⟨_,_,rfl⟩,z⟩⟩
    exact absurd (V.str.inj (of_decide_eq_true g)) hne
   ·rw[hg]at hg';cases hg';refine⟨_,rfl,.s nm,by show some g.nm=_;rw[hgn],rfl,bY (fun _=>⟨rfl,hq⟩) fun z=>absurd (decide_eq_true rfl) z⟩
  ·rintro q ⟨_,hij⟩
   rw[pb,PZ]at hij;omega
theorem AJ(T:Txt K mg a):aP P w K mg base CX0 4 a.dA a.pe ["self","frame"] (spL K 0 (VP a.aA a.az)):=by
 have du:=@fZ P w K mg base a T;have d7:=@gO P w K mg base a T;have jN:=@mr P w K mg base a T true;have tQ:aP P w K mg base CX0 1 a.bp a.gY ["self","frame"] (spL K 0 fun _ _=>False):=.Tj fun _ _ z=>z
 have tP:=@pX P w K mg base a T;have qj:=@oQ P w K mg base a T;have zA:=@wI P w K mg base a T;have lB:aP P w K mg base CX0 1 a.aO a.cH ["self"] (spL K 0 fun _ _=>False):=.Tj fun _ _ z=>z
 refine T.l9.okL mz (fun ts Q h=>?_) (fun _ _ _ _ _ _ hr=>?_) fun ts Q h=>?_
 ·obtain⟨_,_,_,_,_,_,_,_,_,_,_,rfl,_⟩:=h;rfl
 ·have hu:=bj hr;refine⟨_,_,((ah (aJ 2 mz.nd (QPE.f (aq (a6 (bQ T.aK T.aN (cQ (j:=0) (i:=1)))) ag)))
 (aj (bR (cX hu (qv 2) (QPF.w ay))
 (aj (cY T.aD T.pZ tQ (hr.mono (by first|decide|omega)) T.tG (aF (j:=0)) (ae (qv 1) aH)))
 (aj (bR (cX hu (qv 2) (QPF.w ay))
 (aj (cY T.aD T.pY tP (hr.mono (by first|decide|omega)) T.tF (aF (j:=0)) (ae (qv 1) aH)))
 (aj (bR (cX hu (qv 2) (QPF.w ay))
 (ah (aJ 3 mz.nd (bX zA hr T.pS (ae (a6 (bQ T.aD T.cy (aF (j:=0)))) (ae (aq (a6 (bQ T.aK T.aN (cQ (j:=0) (i:=1)))) ag) aH))))
 (aj (K5 (bQ T.aD T.cp (aF (j:=0))) (km T.yX jN (hr.mono (by first|decide|omega)) rfl T.yW T.ou (ae (a6 (bQ T.aD T.cy (aF (j:=0)))) (ae (qv 3) (ae (QPF.w (yz T.aK T.gQ d7 (hr.mono (by first|decide|omega)) T.ic (a6 (cQ (j:=0) (i:=1))) (ae (aq (a6 (bQ T.aK T.aN (cQ (j:=0) (i:=1)))) ag) aH))) aH)))))))
 (aj (bR (cX hu (qv 2) (QPF.w ay))
 (aj (cY T.aK T.f6 du (hr.mono (by first|decide|omega)) T.g6 (cQ (j:=0) (i:=1)) (ae (aU (a6 (bQ T.aK T.cE (cQ (j:=0) (i:=1)))) (aq (a6 (bQ T.aK T.aN (cQ (j:=0) (i:=1)))) ag)) aH)))
 (aj (bR (cX hu (qv 2) (QPF.w ay))
 (aj (uR T.aK T.jY lB (hr.mono (by first|decide|omega)) T.lh (cQ (j:=0) (i:=1))))
 (aj (cY T.aD T.oS qj (hr.mono (by first|decide|omega)) T.qh (aF (j:=0)) (ae (qv 1) (ae (qv 2) aH)))))))))))))))),fun ts Q t0 a0 h ht ha=>?_⟩
  obtain⟨x0,x,gs,frs,f,n,p,ns,c,m,r,rfl,hf,hns,hl,hfr,hs,hq⟩:=h;cases ht;cases ha;cases hs with
  | @short k _ b _ h1 h2 =>
   refine⟨x,_,wy frs,_,_,_,.inl rfl,rfl,aR,rfl,_,rfl,.s "pay",rfl,rfl,?_⟩;refine⟨rfl,rfl,rfl,rfl,rfl,rfl,rfl,rfl,a0,x,_,frs,f,n,_,k,b,ns,c,m,rfl,h1,.inl rfl,fun _=>⟨rfl,rfl,_,rfl,?_⟩,fun g=>absurd h2 g.2,fun g=>absurd g (by decide)⟩
   exact⟨_,rfl,rfl,hq _ rfl⟩
  | @pay k _ b _ h1 h2 =>
   refine⟨x,_,wy frs,_,_,_,.inl rfl,rfl,aR,rfl,_,rfl,.s "pay",rfl,rfl,?_⟩;refine⟨rfl,rfl,rfl,rfl,rfl,rfl,rfl,rfl,a0,x,_,frs,f,n,_,k,b,ns,c,m,rfl,h1,.inl rfl,fun g=>absurd g.2 h2,fun _=>⟨rfl,rfl,_,rfl,?_⟩,fun g=>absurd g (by decide)⟩
   exact⟨_,rfl,rfl,hq _ rfl⟩
  | @get k _ b _ h1 =>
   refine⟨x,_,wy frs,_,_,_,.inl rfl,rfl,aR,rfl,_,rfl,.s "get",rfl,rfl,?_⟩;refine⟨rfl,rfl,rfl,rfl,rfl,rfl,rfl,rfl,a0,x,_,frs,f,n,_,k,b,ns,c,m,rfl,h1,.inr rfl,fun g=>absurd g.1 (by decide),fun g=>absurd g.1 (by decide),fun _=>⟨rfl,rfl,_,rfl,?_⟩⟩
   exact⟨_,rfl,rfl,hq _ rfl⟩
  | @name y z v b _ _ h1 h2 h3 =>
   refine⟨x,_,wy frs,_,_,_,.inl rfl,rfl,aR,rfl,_,rfl,.s "name",rfl,rfl,?_⟩;refine⟨rfl,rfl,rfl,rfl,x,_,wy frs,_,_,_,.inl rfl,rfl,aR,rfl,rfl,x,_,wy frs,_,_,_,.inl rfl,rfl,aR,rfl,_,rfl,?_⟩;refine⟨x,_,wy frs,_,_,_,.inl rfl,rfl,aR,rfl,_,rfl,.s z,rfl,v,h2,(by show(v.im&&true)=true;rw[h3];rfl),x,f,n,_,ns,v,y,b,rfl,h3,hns,hl,(by show(true&&(true&&(true&&(b.im&&true))))=true;rw[h1];rfl),rfl,rfl,rfl,rfl,_,rfl,?_⟩
   exact⟨_,rfl,qI (t:=fT a.az x f n (.t [.s "name",.s y,.s z,b]) ns) (hq _ rfl)⟩
  | @great y mk ys vs b _ _ h1 h2 h3 h4 h5 =>
   refine⟨x,_,wy frs,_,_,_,.inl rfl,rfl,aR,rfl,_,rfl,.s "make",rfl,rfl,?_⟩;refine⟨rfl,rfl,rfl,rfl,rfl,a0,x,_,frs,f,n,y,mk,ys,vs,b,ns,c,m,rfl,h1,hns,hl,h2,h3,h4.1,fun _=>⟨rfl,rfl,_,rfl,?_⟩,fun z=>absurd h5 z⟩
   exact⟨_,rfl,rfl,hq _ rfl⟩
  | @make y mk ys vs b _ _ h1 h2 h3 h4 h5 =>
   refine⟨x,_,wy frs,_,_,_,.inl rfl,rfl,aR,rfl,_,rfl,.s "make",rfl,rfl,?_⟩;refine⟨rfl,rfl,rfl,rfl,rfl,a0,x,_,frs,f,n,y,mk,ys,vs,b,ns,c,m,rfl,h1,hns,hl,h2,h3,h4.1,fun z=>absurd z h5,fun _=>⟨rfl,rfl,_,rfl,?_⟩⟩
   exact⟨_,rfl,rfl,hq _ rfl⟩
  | @call y nm ys vs b _ _ h g h1 h2 h3 h4 h5 h6 h7 =>
   refine⟨x,_,wy frs,_,_,_,.inl rfl,rfl,aR,rfl,_,rfl,.s "call",rfl,rfl,?_⟩;refine⟨rfl,rfl,rfl,rfl,_,rfl,x,_,wy frs,_,_,_,.inl rfl,rfl,aR,rfl,_,rfl,.s nm,rfl,gs,nm,h,g,rfl,hf,h4,h5,h6,?_⟩;refine⟨rfl,_,rfl,aW (by rw[Xl];show frs.length+1<=_;omega),?_⟩
   refine⟨rfl,_,rfl,x,_,wy frs,_,_,_,.inl rfl,rfl,aR,rfl,rfl,x,_,wy frs,_,_,_,.inl rfl,rfl,aR,rfl,_,rfl,.t (ys.map .s),rfl,?_⟩;refine⟨x,f,n,_,ns,ys,vs,rfl,h2,h3,?_⟩;have him:(L2.T.t (gs.map Fn.t)).im=true:=hf;refine fun x'=>?_
   refine⟨x',gs,h,g,vs,.t vs,rfl,hf,h4,h7,h3.ims,.inl ⟨rfl,rfl⟩,rfl,rfl,?_⟩;exact⟨_,rfl,_,rfl,rfl,hq _ ⟨x',g,h4,rfl⟩⟩
 ·obtain⟨x0,x,gs,frs,f,n,p,ns,c,m,r,rfl,_⟩:=h;exact⟨_,_,rfl,rfl⟩
theorem jE(T:Txt K mg a):aP P w K mg base CX0 5 a.b8 a.kW ["self"] (spL K 0 (Ax a.aA a.az)):=by
 have ET:=@AJ P w K mg base a T;refine T.ie.okL vH (fun ts Q h=>?_) (fun _ _ _ _ _ _ hr=>?_) fun ts Q h=>?_
 ·rcases h with⟨_,_,_,_,_,_,_,_,_,_,_,rfl,_⟩ |⟨_,_,_,_,_,rfl,_⟩ <;> rfl
 ·have hu:=bj hr;refine⟨_,_,((ah (bR (b9 kC hX (a7 _) (a6 (bQ T.aD T.cD (aF (j:=0)))) (QPF.w dJ))
 (ah (vX T.aD T.jG Bc (aF (j:=0)) ag)
 (aj (cY T.aD T.AR ET (hr.mono (by first|decide|omega)) T.EM (aF (j:=0)) (ae (QPF.w (OP (R5 (n:=-1) (bQ T.aD T.cp (aF (j:=0))) (NP FI bu) (fun _ _ _ h=>⟨1,rfl,h⟩)))) aH))))
 cb)
 (aj (KW (kn kC hX (a7 _) (a6 (bQ T.aD T.cD (aF (j:=0)))) (QPF.w dJ)))))),fun ts Q t0 a0 h ht ha=>?_⟩
  rcases h with⟨x0,x,gs,frs,f,n,p,ns,c,m,r,rfl,hf,hns,hl,hfr,hs,hq⟩ |⟨x0,fns,c,m,ps,rfl,hi,hq⟩
  ·cases ht;cases ha;refine⟨rfl,_,rfl,rfl,by decide,m,rfl,_,rfl,?_⟩
   refine⟨rfl,rfl,rfl,_,rfl,frs.length,fT a.az x f n p ns,?_,?_,rfl,a0,x,gs,frs,f,n,p,ns,c,m+1,r,rfl,hf,hns,hl,hfr,hs,fun t ht=>?_⟩
   ·show ixN (frs ++ [fT a.az x f n p ns]).length (-1)=_;rw[Xl];unfold ixN;rw[if_neg (by decide)]
    show(if -((frs.length+1:Nat):Int) <= -1 then some (-1+((frs.length+1:Nat):Int)).toNat else none)=some frs.length
    rw[if_pos (by omega)]
    congr 1
    omega
   ·rw[XG (Xa _),Ze];rfl
   ·cases r with
    | on n' p' ns' c' =>
     obtain rfl:=ht;refine⟨rfl,rfl,_,rfl,?_⟩;exact⟨rfl,_,rfl,_,rfl,rfl,hq _ rfl⟩
    | push g vs =>
     obtain⟨x',g',hg,rfl⟩:=ht;refine⟨rfl,rfl,_,rfl,?_⟩;exact⟨rfl,_,rfl,_,rfl,rfl,hq _ ⟨x',g',hg,rfl⟩⟩
    | fin c' e' =>
     obtain⟨ps,rfl⟩:∃ ps,e' = .t ps:=by cases hs <;> exact⟨_,rfl⟩
     obtain rfl:=ht;refine⟨rfl,rfl,_,rfl,?_⟩;exact⟨rfl,_,rfl,_,rfl,rfl,hq _ rfl⟩
  ·cases ht;cases ha;exact⟨rfl,_,rfl,rfl,_,rfl,_,rfl,rfl,hq⟩
 ·rcases h with⟨x0,x,gs,frs,f,n,p,ns,c,m,r,rfl,_⟩ |⟨x0,fns,c,m,ps,rfl,_⟩
  ·exact⟨_,_,rfl,rfl⟩
  ·exact⟨_,_,rfl,rfl⟩
theorem HR{w:World}{K:W.Frag}{CX:CXT}{k j:Nat}{f:Addr}{fd:FuncData}{ps:List Str}{sp:PSp}(h:∀ ts Q,¬ sp ts Q):aP P w K mg base CX k f fd ps (spM K j sp):=⟨fun vs H Q E z=>by
 obtain⟨_,_,_,_,_,_,_,_,_,_,_,z,_⟩:=z;exact(h _ _ z).elim,fun A outer s H args us vs Q E _ _ _ _ z=>by
 obtain⟨_,_,_,_,_,_,_,_,_,_,_,z,_⟩:=z;exact(h _ _ z).elim⟩
theorem uW(T:Txt K mg a):∀ k:Nat,aP P w K mg base CX0 (k+1) a.jb a.zk ["_law_body"] (spQ K (Hl k))
 | 0=>never fun ts Q ⟨_,_,_,h,_⟩=>by cases h
 | k+1=>by
  have oz:=uW T k;refine T.oC.F.okQ eu (fun ts Q h=>?_) (fun _ _ _ _ _ _ hr=>?_)
  ·obtain⟨_,_,rfl,_⟩:=h;rfl
  ·have hu:=bj hr;refine⟨_,_,((ah (aJ 1 eu.nd (aY (af (QPE.f (qv 0)) au)))
 (ah (bR (cX hu (aq (qv 0) ag) (QPF.w ay))
 (aj (jk (g:=(Tg.tp [2,3,4])) PassesOwn.never rfl (Aq (QPE.f (aq (qv 0) ag))) (nT (K:=K) (n:=3) rfl rfl (bD (eU 2 eu.nd) (bD (eU 3 eu.nd) (bD (eU 4 eu.nd) nS))))
 (aj (aJ 1 eu.nd (bh (qv 1) (QPF.w (bX oz hr T.oC (ae (qv 4) aH))))))))
 (aj (bR (b9 yO qU (a7 _) (aq (qv 0) ag) (QPF.w ay))
 (aj (aJ 1 eu.nd (bh (qv 1) (QPF.w (bX oz hr T.oC (ae (aq (qv 0) (QPF.w (kl ag))) aH))))))
 cb)))
 (aj (qz (i:=1) (pv 1)))))),fun ts Q h=>?_⟩
   obtain⟨b,L,rfl,hL,hlen,hq⟩:=h;have him:=hL.ims;have hbm:=hL.im;cases hL with
   | @give _ y=>exact⟨rfl,_,rfl,rfl,_,rfl,rfl,hq⟩
   | @more _ wd ps b' L' h1 h2 h3 h4 h5 h6 =>
    have e0:atI ps ((0:Nat):Int)=some (.s wd):=lZ h1;have n1:¬ decide ((L2.T.s wd).v =(L2.T.s "case").v)=true:=fun z=>h3 (V.str.inj (of_decide_eq_true z))
    have n2:¬(!decide ((L2.T.s wd).v =(L2.T.s "give").v))=false:=fun z=>h2 (V.str.inj (of_decide_eq_true (by cases hz:decide ((L2.T.s wd).v =(L2.T.s "give").v)with|true=>exact hz|false=>rw[hz]at z;cases z)))
    rw[Xn]at hlen;refine⟨hbm,_,e0,rfl,bY (fun z=>absurd z n1) fun _=>?_⟩
    refine⟨_,e0,rfl,bY (fun _=>?_) fun z=>absurd (by simpa using z) n2⟩
    exact⟨b',CZ h4,b',L',rfl,h6,by omega,XO (aW (by show 1+L'.length<=_;omega)),(by show((L2.T.t ps).im&&true)=true;rw[hbm];rfl),h6.ims,hq⟩
   | @case _ x arms Ls hl h2 h3 =>
    refine⟨hbm,_,rfl,rfl,bY (fun _=>?_) fun z=>absurd (by decide +kernel) z⟩
    have len:∀ i,((Ls.take i).flatten).length<=Ls.flatten.length:=fun i=>by
     conv=>rhs;rw[<- Zo i Ls,Zx,Xl]
     omega
    rw[Xn]at hlen;obtain⟨b0,eb0⟩:∃ b0:L2.T,b0 = .t [.s "case",.s x,.t (arms.map M0)]:=⟨_,rfl⟩
    refine⟨_,rfl,h3,fun i q=>∃(LL:List L2.T)(o2 o3 o4:Sl),q = [.r b0,.o (.l LL),o2,o3,o4]/\LL=b0 ::(Ls.take i).flatten,⟨_,_,_,_,by rw[eb0];rfl,by rw[eb0];rfl⟩,?_,?_⟩
    ·rintro i y q hy ⟨LL,o2,o3,o4,rfl,rfl⟩
     rw[Xc]at hy;obtain⟨z,hz,rfl⟩:=Xg.mp hy;have hi:=(VZ.mp hz).1;have hLi:Ls[i]? = some (Ls[i]'(by omega)):=RH (by omega)
     have hz2:=h2 i z _ hz hLi;have e1:(Ls.take (i+1)).flatten =(Ls.take i).flatten++Ls[i]'(by omega):=by
      rw[Xu,hLi,Zx];simp
     have l1:=len (i+1);rw[e1,Xl]at l1;have Wy:b0.im=true:=by rw[eb0];exact hbm
     have i1:L2.T.ims (b0 ::(Ls.take i).flatten)=true:=bW fun t ht=>by
      rcases QH.mp ht with rfl|ht
      ·exact Wy
      ·refine dW him (Es _ ?_);obtain⟨M,hM,ht⟩:=Za.mp ht;exact Za.mpr ⟨M,Zs hM,ht⟩
     refine⟨_,rfl,z.2.2,_,rfl,hz2,by omega,XO (aW (by rw[Xn];omega)),i1,hz2.ims,_,_,_,_,rfl,?_⟩
     rw[e1];rfl
    ·rintro q ⟨LL,o2,o3,o4,rfl,rfl⟩
     rw[PZ,<- hl,Xv,eb0];exact hq
theorem yQ(T:Txt K mg a):∀ k:Nat,aP P w K mg base CX0 (k+1) a.lS a.CJ ["_law_value_here"] (spQ K (Ll k))
 | 0=>never fun ts Q ⟨v,_,h,_⟩=>by cases v with|mk m ps=>rw[Vl.dp]at h;omega
 | k+1=>by
  have xU:=yQ T k;refine T.xV.F.okQ yk (fun ts Q h=>?_) (fun _ _ _ _ _ _ hr=>?_)
  ·obtain⟨_,rfl,_⟩:=h;rfl
  ·have hu:=bj hr;refine⟨_,_,((ah (vW (i:=1) yk.nd rfl (Or.inl rfl) rfl (kj (aq (qv 0) ag)) (N':=["_law_part"]) (.own rfl .nil) (eB (g:=(Tg.nm 0)) (fun _ _ _ _ _=>⟨(mL 0),(bX xU hr T.xV (ae (qv 0) aH))⟩)))
 (aj (bg (aE (af (bh ag (QPF.w (iW (EH rfl rfl) Ku (by rfl) T.Ux (by kernel_rfl) (ae (QPF.w (dM rfl (nN (qv 1)) (N':=["_law_one"]) (.own rfl .nil) (eB (g:=(Tg.nm 0)) (fun _ _ _ _ _=>⟨(mL 0),(QPE.f (aq (qv 0) ag))⟩)))) aH)))) (af (bh ag (QPF.w (La T.CT (QPF.w (dM rfl (nN (qv 1)) (N':=["_law_one"]) (.own rfl .nil) (eB (g:=(Tg.nm 0)) (fun _ _ _ _ _=>⟨(mL 0),(QPE.f (aq (qv 0) ag))⟩))))))) au))))))),fun ts Q h=>?_⟩
   obtain⟨v,rfl,hd,hs,hq⟩:=h;rw[Vl.Di];have hpl:=Vl.nZ v.ps;have ev:v.sz=1+Vl.szs v.ps:=by cases v with|mk m ps=>rw[Vl.sz];rfl
   have ed:v.dp=1+Vl.dps v.ps:=by cases v with|mk m ps=>rw[Vl.dp];rfl
   refine⟨_,rfl,aW (by rw[PZ];omega),fun i ys=>ys =(v.ps.take i).map fun u=>L2.T.t [.i (u.sz:Nat),.i (u.dp:Nat)],rfl,fun i z ys hz e=>?_,fun ys e=>?_⟩
   ·subst e;rw[Xc]at hz;obtain⟨u,hu1,rfl⟩:=Xg.mp hz;have hm:=XA hu1;have hd1:u.dp<=Vl.dps v.ps:=Vl.IP hm;have hs1:u.sz<=Vl.szs v.ps:=Vl.FW hm;refine⟨_,rfl,u,rfl,by omega,by omega,?_⟩
    rw[Xu,hu1];simp
   ·subst e;rw[PZ,Xv];refine⟨aW (by rw[PZ];omega),fun i ys=>ys =(v.ps.take i).map fun u=>L2.T.i (u.sz:Nat),rfl,fun i z ys hz e=>?_,fun ys e=>?_⟩
    ·subst e;rw[Xc]at hz;obtain⟨u,hu1,rfl⟩:=Xg.mp hz;refine⟨_,rfl,_,rfl,rfl,?_⟩;rw[Xu,hu1];simp
    ·subst e;rw[PZ,Xv];refine⟨v.ps.map fun u=>((u.sz:Nat):Int),by rw[<- ins_map,YM];rfl,?_⟩
     refine⟨aW (by rw[PZ];omega),fun i ys=>ys =(v.ps.take i).map fun u=>L2.T.i (u.dp:Nat),rfl,fun i z ys hz e=>?_,fun ys e=>?_⟩
     ·subst e;rw[Xc]at hz;obtain⟨u,hu1,rfl⟩:=Xg.mp hz;refine⟨_,rfl,_,rfl,rfl,?_⟩;rw[Xu,hu1];simp
     ·subst e;rw[PZ,Xv];refine⟨v.ps.map fun u=>((u.dp:Nat):Int),by rw[YM];rfl,?_⟩
      rw[Vl.BR,Vl.MF];have e1:(1:Int)+((Vl.szs v.ps:Nat):Int) =((v.sz:Nat):Int):=by omega
      have e2:(1:Int)+((Vl.dps v.ps:Nat):Int) =((v.dp:Nat):Int):=by omega
      rw[<- e1,<- e2]at hq;exact hq
theorem sf(T:Txt K mg a)(t2:Bool):aP P w K mg base CX0 1 a.lX a.CN ["_law_program","_law_f","_law_args","_law_coins"] (spQ K (Ln t2)):=by
 refine T.qL.F.okQ ym (fun ts Q h=>?_) (fun _ _ _ _ _ _ hr=>?_)
 ·obtain⟨_,_,_,_,_,_,_,rfl,_⟩:=h;rfl
 ·have hu:=bj hr;refine⟨_,_,((ah (aJ 4 ym.nd (rL (t2:=t2) rfl T.xH rfl T.Jp (ae (QPF.w (dM rfl (kj (aq (aq (aq (qv 0) ag) (qv 1)) ag)) (N':=["_law_param"]) (.own rfl .nil) (eB (g:=(Tg.nm 0)) (fun _ _ _ _ _=>⟨(mL 0),(QPE.f (aq (qv 0) ag))⟩)))) (ae (qv 2) aH))))
 (aj (GQ (i:=4) (bg (GU (nM (QPF.w ay) (QPF.w (e7 (aY (af (aE (af (QPE.f (qv 1)) (af jl (af (QPE.f (qv 4)) au)))) au)))) (nM (QPF.w ay) (qv 3) (nM (QPF.w ay) ag (nM (QPF.w ay) (QPF.w dJ) K6)))))))))),fun ts Q h=>?_⟩
  obtain⟨ks,gs,f,g,vs,u,c,rfl,him,hg,hl,hv,hpl,hu2,hq⟩:=h;have eg:atI (gs.map Fn.t) (f:Int)=some g.t:=lZ (by rw[Xc,hg];rfl)
  refine⟨_,rfl,g.t,eg,_,rfl,aW (by rw[PZ];omega),fun i ys=>ys =((g.prs.take i).map fun p=>L2.T.s p.1),rfl,fun i z ys hz hi=>?_,fun ys e=>?_⟩
  ·subst hi;rw[Xc]at hz;obtain⟨p,hp,rfl⟩:=Xg.mp hz;refine⟨_,rfl,_,rfl,rfl,?_⟩;rw[Xu,hp];simp
  ·subst e;rw[PZ,Xv];have ek:kM (g.prs.map fun p=>L2.T.s p.1)=some (g.prs.map fun p=>(.inr p.1:Key)):=by
    clear hl hq eg hg
    induction g.prs with
    | nil=>rfl
    | cons p r ih=>rw[Xs,Xs,kM,ih];rfl
   have nim:L2.T.imk (g.names vs)=true:=Fn.yU hv;have npl:((true&&(true&&(L2.T.hJ (g.names vs)&&true)))&&true)=true:=by rw[Fn.oR hpl];rfl
   rcases hu2 with⟨rfl,rfl⟩ |⟨rfl,rfl|rfl⟩
   ·exact⟨rfl,hv,_,ek,nim,fun o ws=>⟨rfl,rfl,npl,rfl,rfl,rfl,rfl,hq o ws⟩⟩
   ·exact⟨rfl,hv,_,ek,nim,fun o ws=>⟨rfl,rfl,npl,rfl,rfl,rfl,rfl,hq o ws⟩⟩
   ·exact⟨rfl,hv,_,ek,nim,fun o ws=>⟨rfl,rfl,npl,rfl,rfl,rfl,rfl,hq o ws⟩⟩
theorem DS(T:Txt K mg a):aP P w K mg base CX0 1 a.jc a.zm ["_law_state","_law_end"] (spM K 0 Hm):=by
 refine T.g9.F.okM Dx (fun ts Q h=>?_) (fun _ _ _ _ _ _ hr=>?_)
 ·obtain⟨_,_,_,_,_,_,rfl,_⟩:=h;rfl
 ·have hu:=bj hr;refine⟨_,_,((ah (lJ (i:=0) hu (pv 0) (QPF.w ay) (qv 1))
 (aj (lJ (i:=0) hu (pv 0) (QPF.w ay) (QPF.w (e7 (aY au))))))),fun ts Q p ks h ht=>?_⟩
  obtain⟨a0,stk,c,m,e,e',rfl,he,he',hq⟩:=h;cases ht;have i1:L2.T.imk (stT stk c m e)=true:=by show(true&&(true&&(true&&(e.im&&true))))=true;rw[he];rfl
  have i2:L2.T.imk (stT stk c m e')=true:=by show(true&&(true&&(true&&(e'.im&&true))))=true;rw[he'];rfl
  refine⟨(by show 4<WT;decide),i1,he',?_⟩
  refine⟨rfl,(by show 4<WT;decide),i2,rfl,?_⟩
  exact⟨_,rfl,(by show(true&&(true&&(true&&(e'.im&&true))))=true;rw[he'];rfl),hq⟩
theorem S1(T:Txt K mg a)(t2:Bool):aP P w K mg base CX0 1 a.Em a.Uk ["_law_state","_law_n","_law_names","_law_values"] (spM K 0 (VN t2)):=by
 refine T.uH.F.okM qY (fun ts Q h=>?_) (fun _ _ _ _ _ _ hr=>?_)
 ·obtain⟨_,_,_,_,_,_,_,_,_,_,_,_,_,_,rfl,_⟩:=h;rfl
 ·have hu:=bj hr;refine⟨_,_,((ah (rF (g:=(Tg.tp [4,5,6])) (aq (aU (qv 0) (QPF.w ay)) (QPF.w (kl ag))) (nT (K:=K) (n:=3) rfl rfl (bD (eU 4 qY.nd) (bD (eU 5 qY.nd) (bD (eU 6 qY.nd) nS)))))
 (ah (aJ 7 qY.nd (ez k6 nt (by rfl) T.xH (by kernel_rfl) (ae (qv 6) aH)))
 (ah (jk (g:=(Tg.tp [8,9])) PassesOwn.never rfl (K7 (t2:=t2) rfl T.Jp (by kernel_rfl) (ae (qv 2) (ae (qv 3) aH))) (Hv (eU 8 qY.nd) (eU 9 qY.nd))
 (aj (OO (i:=7) hu (pv 7) (qv 8) (qv 9))))
 (aj (GQ (i:=7) (lJ (i:=0) hu (pv 0) (QPF.w ay) (QPF.w (e7 (bh (QPF.w (nO (aU (qv 0) (QPF.w ay)) qE (qD (QPF.w (kl ag))))) (QPF.w (aY (af (aE (af (QPE.f (qv 4)) (af (QPE.f (qv 1)) (af (QPE.f (qv 7)) au)))) au))))))))))))),fun ts Q p ks h ht=>?_⟩
  obtain⟨a0,stk,f,n,n',o,vs,ns,c,m,ys,us,u1,u2,rfl,hi,hp,hl,hlu,hiu,hpu,hsl,hsp,hsi,e1,e2,hq⟩:=h;cases ht;have IL:atI (stk ++ [frL f n o vs ns]) (-1)=some (frL f n o vs ns):=L2.tH _ _;refine⟨_,rfl,_,IL,rfl,_,rfl,?_⟩;refine⟨hi,?_⟩;obtain⟨kz,ekz⟩:∃ kz,kz =(ys.map fun y=>(.inr y:Key)).zip us:=⟨_,rfl⟩
  have kzl:kz.length=ys.length:=by rw[ekz,Yd,PZ,hlu];omega
  have kim:∀ p∈kz,p.2.im=true:=fun p hp=>by rw[ekz]at hp;exact dW hiu (Yc hp).2
  have kpl:∀ p∈kz,p.2.pln=true:=fun p hp=>by rw[ekz]at hp;exact iX hpu (Yc hp).2
  have stp:∀ i,aS ns (kz.take (i+1))=match kz[i]? with|some q=>dC (aS ns (kz.take i)) q.1 q.2|none=>aS ns (kz.take i):=fun i=>by
   rw[Xu];cases kz[i]? with
   | none=>rw[Option.toList_none,Xh]
   | some q=>unfold aS;rw[ZE,List.foldl_append];rfl
  have loop:∀(u1 u2:L2.T)(D:pR),(∀ o8 o9,D.nx [.o (.dp p (stT (stk ++ [frL f n o vs ns]) c m .n)),.r (.i n'),.r u1,.r u2,.r (.i f),.r (.i n),.r (.fd o vs ns),.o (.d (aS ns kz)),o8,o9]) ->
    UR (Tg.tp [8,9]) (Lf 7 (eC 8) (eC 9)) D (vo (ys.map .s) us) [.o (.dp p (stT (stk ++ [frL f n o vs ns]) c m .n)),.r (.i n'),.r u1,.r u2,.r (.i f),.r (.i n),.r (.fd o vs ns),.o (.d ns),.no,.no]:=fun u1 u2 D h=>by
   refine⟨fun i q=>∃(DD:List (Key×L2.T))(o8 o9:Sl),q = [.o (.dp p (stT (stk ++ [frL f n o vs ns]) c m .n)),.r (.i n'),.r u1,.r u2,.r (.i f),.r (.i n),.r (.fd o vs ns),.o (.d DD),o8,o9]/\DD=aS ns (kz.take i),⟨_,_,_,rfl,rfl⟩,?_,?_⟩
   ·rintro i z q hz ⟨DD,o8,o9,rfl,rfl⟩
    obtain⟨x1,y1,hx1,hy1,rfl⟩:=vn hz;rw[Xc]at hx1;obtain⟨y,hy,rfl⟩:=Xg.mp hx1;have hkz:kz[i]? = some (.inr y,y1):=by
     rw[ekz,YD];exact⟨by rw[Xc,hy];rfl,hy1⟩
    have Ws:=kim _ (XA hkz);have l1:(aS ns (kz.take i)).length<=ns.length+(kz.take i).length:=oT;rw[X7]at l1;refine⟨_,rfl,aW (by omega),lP hi fun q hq=>kim q (Zs hq),Ws,_,_,_,rfl,?_⟩
    rw[stp i,hkz]
   ·rintro q ⟨DD,o8,o9,rfl,rfl⟩
    rw[j9,PZ,hlu,Nat.min_self,<- kzl,Xv];exact h o8 o9
  have dI:L2.T.imk (aS ns kz)=true:=lP hi kim;have dP:L2.T.hJ (aS ns kz)=true:=mJ hp kpl;rw[<- ekz]at hq;have i1:L2.T.imk (stT (stk ++ [frL f n o vs ns]) c m .n)=true:=rfl;have nl:∀ o' vs',L2.T.dE (stk ++ [frL f n' o' vs' (aS ns kz)])=true:=fun o' vs'=>iY fun t ht=>by
   rcases Xj.mp ht with z|z
   ·exact iX hsp z
   ·rw[qr.mp z];show(true&&(true&&(L2.T.hJ (aS ns kz)&&true)))=true;rw[dP];rfl
  have TU:L2.T.ims (jZ (stk ++ [frL f n o vs ns]) none (some (-1)))=true:=by rw[oh];exact hsi
  have TV:(jZ (stk ++ [frL f n o vs ns]) none (some (-1))).length+1<=WT:=by rw[oh];exact XO (aW (by omega))
  have nl':∀ o' vs',L2.T.dE (jZ (stk ++ [frL f n o vs ns]) none (some (-1)) ++ [frL f n' o' vs' (aS ns kz)])=true:=fun o' vs'=>by rw[oh];exact nl o' vs'
  have hq':∀ o' vs',Q (.dp p (stT (jZ (stk ++ [frL f n o vs ns]) none (some (-1)) ++ [frL f n' o' vs' (aS ns kz)]) c m .n)):=fun o' vs'=>by rw[oh];exact hq o' vs'
  cases t2 with
  | true =>
   subst e1 e2;refine⟨rfl,sO ys,hiu,loop _ _ _ fun o8 o9=>?_⟩
   refine⟨dI,fun o' vs'=>?_⟩
   refine⟨_,rfl,?_⟩;exact⟨rfl,rfl,rfl,TV,TU,rfl,nl' o' vs',(by show 4<WT;decide),i1,rfl,_,rfl,rfl,hq' o' vs'⟩
  | false =>
   subst e1 e2;refine⟨rfl,loop _ _ _ fun o8 o9=>?_⟩
   refine⟨dI,fun o' vs'=>?_⟩
   refine⟨_,rfl,?_⟩;exact⟨rfl,rfl,rfl,TV,TU,rfl,nl' o' vs',(by show 4<WT;decide),i1,rfl,_,rfl,rfl,hq' o' vs'⟩
theorem Cm(T:Txt K mg a):aP P w K mg base CX0 70 a.oV a.IY ["_law_program","_law_state"] (spM K 1 Ay):=by
 have oz:=@uW P w K mg base a T 60;have xU:=@yQ P w K mg base a T 62;have oA:=@sf P w K mg base a T false;have zC:=@DS P w K mg base a T;have Qu:=@S1 P w K mg base a T false;have Nk:aP P w K mg base CX0 1 a.lT a.CK ["_law_program","_law_state","_law_value_here"] (spM K 1 fun _ _=>False):=HR fun _ _ z=>z
 have zD:aP P w K mg base CX0 1 a.dz a.pL ["_law_state","_law_n","_law_piece","_law_value_here"] (spM K 0 fun _ _=>False):=HR fun _ _ z=>z
 refine T.m9.F.okM dG (fun ts Q h=>?_) (fun _ _ _ _ _ _ hr=>?_)
 ·obtain⟨_,_,_,_,_,_,_,_,_,_,_,_,_,_,_,rfl,_⟩:=h;rfl
 ·have hu:=bj hr;refine⟨_,_,((ah (rF (g:=(Tg.tp [2,3,4])) (aq (aU (qv 1) (QPF.w ay)) (QPF.w (kl ag))) (nT (K:=K) (n:=3) rfl rfl (bD (eU 2 dG.nd) (bD (eU 3 dG.nd) (bD (eU 4 dG.nd) nS)))))
 (ah (aJ 5 dG.nd (QPE.f (aq (QPF.w (bX oz hr T.oC (ae (aq (aq (aq (qv 0) ag) (qv 2)) ag) aH))) (qv 3))))
 (ah (aJ 6 dG.nd (QPE.f (aq (qv 5) ag)))
 (ah (lJ (i:=1) hu (pv 1) (QPF.w ay) (QPF.w (bh (aU (qv 1) (QPF.w ay)) ag)))
 (aj (bR (cX hu (qv 6) (QPF.w ay))
 (ah (aJ 7 dG.nd (aE (af (QPE.f (aq (qv 5) ag)) (af (ez (ve rfl) uL (by rfl) T.CS (by kernel_rfl) (ae (QPF.w (dM rfl (kj (aq (qv 5) ag)) (N':=["_law_y","_law_known"]) (.own rfl (.got (i:=4) rfl rfl (.inl rfl) .nil)) (eB (g:=(Tg.nm 0)) (fun _ _ _ _ _=>⟨(mL 0),(QPE.f (aU (qv 1) (qv 0)))⟩)))) aH)) au))))
 (ah (rF (g:=(Tg.tp [8,9])) (QPF.w (bX xU hr T.xV (ae (qv 7) aH))) (Hv (eU 8 dG.nd) (eU 9 dG.nd)))
 (aj (bR (QPW.pt (B2 (yy (qv 8) ag) (vV (yy (qv 9) ag))))
 (aj (f9 (i:=1) (j:=0) zC (hr.mono (by first|decide|omega)) rfl T.g9.m T.g9.F.kp T.g9.b (gb (i:=1) (pv 1) (ae (QPF.w (aE (af ay (af (QPE.f (aq (qv 5) ag)) au)))) aH))))
 (aj (f9 (i:=1) (j:=0) Qu (hr.mono (by first|decide|omega)) rfl T.uH.m T.uH.F.kp T.uH.b (gb (i:=1) (pv 1) (ae (QPF.w (bh (qv 3) ag)) (ae (QPF.w (e7 (aY (af (QPE.f (aq (qv 5) ag)) au)))) (ae (QPF.w (e7 (aY (af (QPE.f (qv 7)) au)))) aH))))))))))
 (aj (bR (cX hu (qv 6) (QPF.w ay))
 (ah (aJ 10 dG.nd (GS (QPF.w (dM rfl (kj (aq (qv 0) ag)) (N':=["_law_head"]) (.own rfl .nil) (eB (g:=(Tg.nm 0)) (fun _ _ _ _ _=>⟨(mL 0),(QPE.f (aq (qv 0) ag))⟩)))) (aq (qv 5) ag)))
 (ah (vW (i:=11) dG.nd rfl (Or.inl rfl) rfl (kj (aq (qv 5) ag)) (N':=["_law_y","_law_known"]) (.own rfl (.got (i:=4) rfl rfl (.inl rfl) .nil)) (eB (g:=(Tg.nm 0)) (fun _ _ _ _ _=>⟨(mL 0),(QPE.f (aU (qv 1) (qv 0)))⟩)))
 (aj (lJ (i:=1) hu (pv 1) (QPF.w ay) (QPF.w (e7 (Le (aU (qv 1) (QPF.w ay)) (aU (QPF.w (bX oA hr T.qL (ae (qv 0) (ae (qv 10) (ae (qv 11) (ae ag aH)))))) (QPF.w ay)))))))))
 (aj (bR (cX hu (qv 6) (QPF.w ay))
 (aj (f9 (i:=1) (j:=0) Qu (hr.mono (by first|decide|omega)) rfl T.uH.m T.uH.F.kp T.uH.b (gb (i:=1) (pv 1) (ae (QPF.w (bh (qv 3) ag)) (ae (QPF.w (e7 (aY (af (QPE.f (aq (qv 5) ag)) au)))) (ae (QPF.w (e7 (aY (af (QPE.f (aU (qv 4) (aq (qv 5) ag))) au)))) aH))))))
 (aj (bR (cX hu (qv 6) (QPF.w ay))
 (aj (f9 (i:=1) (j:=0) zD (hr.mono (by first|decide|omega)) rfl T.lE.m T.lE.F.kp T.lE.b (gb (i:=1) (pv 1) (ae (qv 3) (ae (qv 5) (ae (aU (qv 4) (aq (qv 5) ag)) aH))))))
 (aj (bR (cX hu (qv 6) (QPF.w ay))
 (aj (f9 (i:=1) (j:=1) Nk (hr.mono (by first|decide|omega)) rfl T.xW.m T.xW.F.kp T.xW.b (vY (qv 0) (gb (i:=1) (pv 1) (ae (aU (qv 4) (aq (qv 5) ag)) aH)))))
 (aj (bR (QPW.pt (rD (cX hu (qv 6) (QPF.w ay)) (nL (B3 (aU (qv 1) (QPF.w ay)) (aq (qv 5) ag)))))
 (aj (f9 (i:=1) (j:=0) zC (hr.mono (by first|decide|omega)) rfl T.g9.m T.g9.F.kp T.g9.b (gb (i:=1) (pv 1) (ae (QPF.w (aE (af ay (af (QPE.f (aq (qv 5) ag)) au)))) aH))))
 (ah (lJ (i:=1) hu (pv 1) (QPF.w ay) (QPF.w (bh (aU (qv 1) (QPF.w ay)) (QPF.w (rJ (aq (qv 5) ag) (QPF.w (mH (aY (af jl (af (kl ag) au))) (QPF.w (ez pk vF (by rfl) T.Jq (by kernel_rfl) (ae (QPF.w (kn (sd hu rfl) nq (a7 _) (qv 6) (QPF.w ay))) aH))))))))))
 (aj (f9 (i:=1) (j:=0) Qu (hr.mono (by first|decide|omega)) rfl T.uH.m T.uH.F.kp T.uH.b (gb (i:=1) (pv 1) (ae (QPF.w (bh (qv 3) ag)) (ae (QPF.w (e7 (aY au))) (ae (QPF.w (e7 (aY au))) aH)))))))))))))))))))))))),fun ts Q pp kss h ht=>?_⟩
  obtain⟨a0,ks,gs,stk,f,n,o,vs,ns,c,m,g,L,p,r,rfl,him,hnm,hgl,hg,hL,hLl,hp,hns,hsl,hsp,hsi,hs,hq⟩:=h;cases ht;have eg:atI (gs.map Fn.t) (f:Int)=some g.t:=lZ (by rw[Xc,hg];rfl)
  have IL:atI (stk ++ [frL f n o vs ns]) (-1)=some (frL f n o vs ns):=L2.tH _ _;have pim:p.im=true:=dW hL.ims (XA hp);refine⟨_,rfl,_,IL,rfl,_,rfl,?_⟩;refine⟨_,rfl,g.t,eg,g.b,rfl,g.b,L,rfl,hL,hLl,p,lZ hp,pim,?_⟩;cases hs with
  | @short k _ b _ h1 h2 =>
   refine⟨_,rfl,rfl,?_⟩;refine⟨_,rfl,(by show 4<WT;decide),rfl,rfl,?_⟩
   refine⟨rfl,rfl,rfl,rfl,rfl,rfl,_,rfl,_,rfl,bY (fun _=>?_) (fun z=>absurd (decide_eq_true h2) z)⟩
   refine⟨rfl,_,rfl,rfl,rfl,pp,_,c,m+1,.n,_,rfl,rfl,rfl,?_⟩;exact⟨_,rfl,rfl,hq _ rfl⟩
  | @pay k _ b _ h1 h2 =>
   refine⟨_,rfl,rfl,?_⟩;refine⟨_,rfl,(by show 4<WT;decide),rfl,rfl,?_⟩
   refine⟨rfl,rfl,rfl,rfl,rfl,rfl,_,rfl,_,rfl,bY (fun z=>absurd (of_decide_eq_true z) h2) (fun _=>?_)⟩
   refine⟨_,rfl,_,rfl,rfl,.i (-1),by rfl,.inr ⟨by decide,by decide⟩,(by show 4<WT;decide),rfl,rfl,?_⟩
   refine⟨rfl,rfl,rfl,rfl,pp,stk,f,n,(n:Int)+1,o,vs,ns,c+k * -1,m+1,[],[],.zl [],.zl [],rfl,hns.1,hns.2.1,Zd hns.2.2 (by decide),rfl,rfl,rfl,by omega,hsp,hsi,rfl,rfl,fun o' vs'=>?_⟩
   exact⟨_,rfl,rfl,hq _ ⟨o',vs',by rw[show c - k=c+k * -1 by omega];rfl⟩⟩
  | @get k _ b _ h1 =>
   refine⟨_,rfl,rfl,?_⟩;refine⟨_,rfl,(by show 4<WT;decide),rfl,rfl,?_⟩
   refine⟨rfl,rfl,rfl,rfl,rfl,rfl,?_⟩;refine⟨_,rfl,_,rfl,rfl,.i 1,by rfl,.inr ⟨by decide,by decide⟩,(by show 4<WT;decide),rfl,rfl,?_⟩
   refine⟨rfl,rfl,rfl,rfl,pp,stk,f,n,(n:Int)+1,o,vs,ns,c+k*1,m+1,[],[],.zl [],.zl [],rfl,hns.1,hns.2.1,Zd hns.2.2 (by decide),rfl,rfl,rfl,by omega,hsp,hsi,rfl,rfl,fun o' vs'=>?_⟩
   exact⟨_,rfl,rfl,hq _ ⟨o',vs',by rw[show c+k=c+k*1 by omega];rfl⟩⟩
  | @name y z v b _ _ h1 h2 h3 =>
   refine⟨_,rfl,rfl,?_⟩;refine⟨_,rfl,(by show 4<WT;decide),rfl,rfl,?_⟩
   refine⟨rfl,rfl,rfl,?_⟩;have vp:=hns.pln h2;refine⟨rfl,_,rfl,rfl,rfl,_,rfl,_,h2,h3,(by show(v.pln&&true)=true;rw[vp];rfl),rfl,pp,stk,f,n,(n:Int)+1,o,vs,ns,c,m+1,[y],[v],.zl [.s y],.zl [v],rfl,hns.1,hns.2.1,(by have:=hns.2.2;show ns.length+1<1000;omega),rfl,(by show(v.im&&true)=true;rw[h3];rfl),(by show(v.pln&&true)=true;rw[vp];rfl),by omega,hsp,hsi,rfl,rfl,fun o' vs'=>?_⟩
   exact⟨_,rfl,rfl,hq _ ⟨o',vs',rfl⟩⟩
  | @great y mk ys us b _ _ h1 h2 h3 h4 h5 =>
   refine⟨_,rfl,rfl,?_⟩;refine⟨_,rfl,(by show 4<WT;decide),rfl,rfl,?_⟩
   refine⟨rfl,_,rfl,rfl,_,rfl,?_⟩;refine⟨aW (by rw[PZ];omega),fun i zs=>zs =(us.map Vl.t).take i,rfl,fun i z zs hz e=>?_,fun zs e=>?_⟩
   ·subst e;rw[Xc]at hz;obtain⟨y',hy1,rfl⟩:=Xg.mp hz;obtain⟨v,g1,g2,g3⟩:=h3.2 i y' hy1;refine⟨_,rfl,v,g2,g3,?_⟩;rw[Xu,g1];rfl
   ·subst e;rw[PZ,<- h3.1,Xv];refine⟨Vl.ims us,?_⟩;have et:(L2.T.t [.s mk,.t (us.map Vl.t)]) =(Vl.mk mk us).t:=by rw[Vl.Di];rfl
    refine⟨Vl.mk mk us,by rw[<- et],h4.2,h4.1,rfl,_,rfl,?_⟩
    refine bY (fun _=>?_) fun z1=>bY (fun _=>?_) fun z2=>?_
    ·refine⟨rfl,_,rfl,rfl,rfl,pp,_,c,m+1,.n,_,rfl,rfl,rfl,?_⟩;exact⟨_,rfl,rfl,hq _ rfl⟩
    ·refine⟨rfl,_,rfl,rfl,rfl,pp,_,c,m+1,.n,_,rfl,rfl,rfl,?_⟩;exact⟨_,rfl,rfl,hq _ rfl⟩
    ·exfalso
     have z1:¬((200:Int)<((Vl.mk mk us).sz:Nat)):=fun z=>z1 (decide_eq_true z)
     have z2:¬((60:Int)<((Vl.mk mk us).dp:Nat)):=fun z=>z2 (decide_eq_true z)
     omega
  | @make y mk ys us b _ _ h1 h2 h3 h4 h5 =>
   refine⟨_,rfl,rfl,?_⟩;refine⟨_,rfl,(by show 4<WT;decide),rfl,rfl,?_⟩
   refine⟨rfl,_,rfl,rfl,_,rfl,?_⟩;refine⟨aW (by rw[PZ];omega),fun i zs=>zs =(us.map Vl.t).take i,rfl,fun i z zs hz e=>?_,fun zs e=>?_⟩
   ·subst e;rw[Xc]at hz;obtain⟨y',hy1,rfl⟩:=Xg.mp hz;obtain⟨v,g1,g2,g3⟩:=h3.2 i y' hy1;refine⟨_,rfl,v,g2,g3,?_⟩;rw[Xu,g1];rfl
   ·subst e;rw[PZ,<- h3.1,Xv];refine⟨Vl.ims us,?_⟩;have et:(L2.T.t [.s mk,.t (us.map Vl.t)]) =(Vl.mk mk us).t:=by rw[Vl.Di];rfl
    refine⟨Vl.mk mk us,by rw[<- et],h4.2,h4.1,rfl,_,rfl,?_⟩
    have mim:(L2.T.t [.s mk,.t (us.map Vl.t)]).im=true:=by rw[et];exact Vl.im _
    have mpl:(L2.T.t [.s mk,.t (us.map Vl.t)]).pln=true:=by rw[et];exact Vl.pln _
    have i1:((L2.T.t [.s mk,.t (us.map Vl.t)]).im&&true)=true:=by rw[mim];rfl
    have p1:((L2.T.t [.s mk,.t (us.map Vl.t)]).pln&&true)=true:=by rw[mpl];rfl
    rw[<- et]at hq;refine bY (fun z1=>?_) fun z1=>bY (fun z2=>?_) fun z2=>?_
    ·exact absurd (.inl (by have:=of_decide_eq_true z1;omega)) h5
    ·exact absurd (.inr (by have:=of_decide_eq_true z2;omega)) h5
    ·refine⟨rfl,_,rfl,rfl,rfl,mim,p1,rfl,pp,stk,f,n,(n:Int)+1,o,vs,ns,c,m+1,[y],[.t [.s mk,.t (us.map Vl.t)]],.zl [.s y],.zl [.t [.s mk,.t (us.map Vl.t)]],rfl,hns.1,hns.2.1,(by have:=hns.2.2;show ns.length+1<1000;omega),rfl,i1,p1,by omega,hsp,hsi,rfl,rfl,fun o' vs'=>?_⟩
     exact⟨_,rfl,rfl,hq _ ⟨o',vs',rfl⟩⟩
  | @call y nm ys us b _ _ h g' h1 h2 h3 h4 h5 h6 h7 =>
   refine⟨_,rfl,rfl,?_⟩;refine⟨_,rfl,(by show 4<WT;decide),rfl,rfl,?_⟩
   refine⟨rfl,rfl,_,rfl,aW (by rw[PZ];omega),fun i zs=>zs =(gs.take i).map (·.nm),rfl,fun i z zs hz e=>?_,fun zs e=>?_⟩
   ·subst e;rw[Xc]at hz;obtain⟨k,hk,rfl⟩:=Xg.mp hz;obtain⟨s',e1⟩:=hnm k (XA hk);refine⟨_,rfl,k.nm,rfl,(by rw[e1];rfl),?_⟩
    rw[Xu,hk];simp
   ·subst e;rw[PZ,Xv];refine⟨_,rfl,Qd hnm,rfl,h,P0 hnm h4 h5 h6,?_⟩;refine⟨_,rfl,aW (by rw[PZ];omega),fun i zs=>zs=us.take i,rfl,fun i z zs hz e=>?_,fun zs e=>?_⟩
    ·subst e;rw[Xc]at hz;obtain⟨y',hy1,rfl⟩:=Xg.mp hz;obtain⟨v,g1,g2,g3⟩:=h3.2 i y' hy1;refine⟨_,rfl,v,g2,g3,?_⟩;rw[Xu,g1];rfl
    ·subst e;rw[PZ,<- h3.1,Xv];have hup:=hns.dE h3;refine⟨_,rfl,ks,gs,h,g',us,.l us,0,rfl,him,h4,h7,h3.ims,hup,.inr ⟨rfl,.inr rfl⟩,fun o' ws=>⟨_,rfl,?_⟩⟩
     have Wi:L2.T.ims (stk ++ [frL f n o vs ns])=true:=bW fun t ht=>by
      rcases Xj.mp ht with z|z
      ·exact dW hsi z
      ·rw[qr.mp z];rfl
     have Wg:L2.T.dE (stk ++ [frL f n o vs ns] ++ [frL h 0 o' ws (g'.names us)])=true:=iY fun t ht=>by
      rcases Xj.mp ht with z|z
      ·rcases Xj.mp z with z|z
       ·exact iX hsp z
       ·rw[qr.mp z];show(true&&(true&&(L2.T.hJ ns&&true)))=true;rw[hns.2.1];rfl
      ·rw[qr.mp z];show(true&&(true&&(L2.T.hJ (g'.names us)&&true)))=true;rw[Fn.oR hup];rfl
     refine⟨_,_,rfl,rfl,XO (aW (by rw[Xl];show stk.length+1+1<=_;omega)),Wi,rfl,Wg,(by show 4<WT;decide),rfl,rfl,?_⟩
     exact⟨_,rfl,rfl,hq _ ⟨o',ws,g',h4,rfl⟩⟩
def spT(C:Addr)(p a r:L2.T):L2.T:=.ob C ["piece","above","arm"] [p,a,r]
def spJ(C:Addr)(gv:Str)(ps:List Pc)(j:Nat):L2.T:=spT C (bdT gv (ps.drop j)) (if j=0 then .n else .i ((j - 1:Nat))) .n
def Oq(C:Addr)(gv:Str)(ps:List Pc)(n:Nat):List L2.T:=match ps with
 | []=>[]
 | _::r=>[spT C (bdT gv r) (.i n) .n]
def DH(C:Addr):PSp:=fun ts Q=>∃(gv:Str)(ps:List Pc)(n:Nat),ts = [bdT gv ps,.i n]/\Q (.l (Oq C gv ps n))
def Lk(C:Addr):PSp:=fun ts Q=>∃(gv:Str)(ps:List Pc),ts = [bdT gv ps]/\ps.length<=100/\Q (.l ((Xt (ps.length+1)).map (spJ C gv ps)))
def Hj:PSp:=fun ts Q=>∃(gv:Str)(ps:List Pc),ts = [bdT gv ps]/\ps.length<=100/\Q (.l ((Xt (ps.length+1)).map fun j=>bdT gv (ps.drop j)))
theorem oP(T:Txt K mg a):aP P w K mg base CX0 3 a.bI a.jU ["piece","number"] (spQ K (DH a.a8)):=by
 have qK:=@Cn P w K mg base a T;refine T.jX.F.okQ oH (fun ts Q h=>?_) (fun _ _ _ _ _ _ hr=>?_)
 ·obtain⟨_,_,_,rfl,_⟩:=h;rfl
 ·have hu:=bj hr;refine⟨_,_,((ah (bR (cX hu (aq (qv 0) ag) (QPF.w ay))
 (aj (bg (aY au)))
 cb)
 (ah (bR (cX hu (aq (qv 0) ag) (QPF.w ay))
 (aj (bg (dM rfl (kj (aq (qv 0) ag)) (N':=["arm","number"]) (.own rfl (.got (i:=1) rfl rfl (.inl rfl) .nil)) (eB (g:=(Tg.nm 0)) (fun _ _ _ _ _=>⟨(mL 0),(rK rfl T.wQ qK (hr.mono (by first|decide|omega)) rfl T.wN T.lg (ae (aq (qv 0) ag) (ae (qv 1) (ae (qv 0) aH))))⟩)))))
 cb)
 (aj (bg (aY (af (rK rfl T.wQ qK (hr.mono (by first|decide|omega)) rfl T.wN T.lg (ae (aq (qv 0) (QPF.w (kl ag))) (ae (qv 1) (ae (QPF.w dJ) aH)))) au))))))),fun ts Q h=>?_⟩
  obtain⟨gv,ps,n,rfl,hq⟩:=h;cases ps with
  | nil=>exact⟨_,rfl,rfl,hq⟩
  | cons r l =>
   have hb:=dr gv l;have fin:(((bdT gv l).im&&(true&&(true&&true)))=true):=by rw[hb];rfl
   cases r <;> exact⟨_,rfl,rfl,_,rfl,rfl,_,rfl,fin,rfl,hq⟩
theorem HH(T:Txt K mg a):aP P w K mg base CX0 4 a.lR a.CH ["body"] (spQ K (Lk a.a8)):=by
 have qK:=@Cn P w K mg base a T;have qi:=@oP P w K mg base a T;refine T.C9.F.okQ nA (fun ts Q h=>?_) (fun _ _ _ _ _ _ hr=>?_)
 ·obtain⟨_,_,rfl,_⟩:=h;rfl
 ·have hu:=bj hr;refine⟨_,_,((ah (aJ 1 nA.nd (aY au))
 (ah (aJ 2 nA.nd (aY (af (rK rfl T.wQ qK (hr.mono (by first|decide|omega)) rfl T.wN T.lg (ae (qv 0) (ae (QPF.w dJ) (ae (QPF.w dJ) aH)))) au)))
 (ah (iV PassesOwn.never (rE (qv 2))
 (ah (GO (j:=3) nA.nd rfl (Or.inl rfl) (pv 2))
 (ah (uS (i:=2) (pv 2) (yB rfl rfl T.Bs rfl T.mZ (QPF.w (bX qi hr T.jX (ae (B5 T.oj T.iM (qv 3)) (ae (QPF.w (vZ T.zu (ae (qv 1) aH))) aH))))))
 (aj (lK (i:=1) (pv 1) (QPE.f (qv 3)))))))
 (aj (qz (i:=1) (pv 1))))))),fun ts Q h=>?_⟩
  obtain⟨gv,l,rfl,hl,hq⟩:=h;refine⟨(by show((bdT gv l).im&&(true&&(true&&true)))=true;rw[dr];rfl),rfl,?_⟩
  refine⟨fun c q=>∃(j:Nat)(X Y:List L2.T)(o3:Sl),q = [.r (bdT gv l),.o (.l X),.o (.l Y),o3]/\X =(Xt j).map (spJ a.a8 gv l)/\Y =(if j<=l.length then [spJ a.a8 gv l j]else [])/\j+c=l.length+1,⟨l.length+1,0,_,_,_,rfl,rfl,?_,by omega⟩,?_⟩
  ·rw[if_pos (XU _)];rfl
  rintro c q ⟨j,X,Y,o3,rfl,rfl,rfl,hj⟩
  by_cases g:j<=l.length
  ·rw[if_pos g];refine⟨fun q'=>∃(j':Nat)(X Y:List L2.T)(o3:Sl),q' = [.r (bdT gv l),.o (.l X),.o (.l Y),o3]/\X =(Xt j').map (spJ a.a8 gv l)/\Y =(if j'<=l.length then [spJ a.a8 gv l j']else [])/\j'=j+1,?_,?_⟩
   ·rintro q' ⟨j',X,Y,o3,rfl,rfl,rfl,rfl⟩
    exact⟨c - 1,by omega,j+1,_,_,_,rfl,rfl,rfl,by omega⟩
   ·refine⟨[],_,rfl,rfl,by decide,?_⟩
    refine⟨rfl,(by decide),_,rfl,gv,l.drop j,j,(by rw[PZ,Yb]),?_⟩
    refine⟨bW fun t ht=>?_,?_,aW (by rw[PZ,Yb];omega),rfl,?_⟩
    ·unfold Oq at ht
     split at ht
     ·cases ht
     ·rw[qr.mp ht];rfl
    ·refine XO (aW ?_);unfold Oq
     split <;> simp
    ·refine⟨j+1,_,_,_,rfl,?_,?_,rfl⟩
     ·rw[Zl,YI];rfl
     ·by_cases g2:j+1<=l.length
      ·rw[if_pos g2];have e:l.drop j=l[j]'(by omega)::l.drop (j+1):=Yi (by omega)
       rw[e];rfl
      ·rw[if_neg g2,Zg (by omega)]
       rfl
  ·rw[if_neg g]
   have:j=l.length+1:=by omega
   subst this;exact hq
theorem DR(T:Txt K mg a):aP P w K mg base CX0 5 a.ja a.zj ["body"] (spQ K Hj):=by
 have Nj:=@HH P w K mg base a T;refine T.zK.F.okQ Dw (fun ts Q h=>?_) (fun _ _ _ _ _ _ hr=>?_)
 ·obtain⟨_,_,rfl,_⟩:=h;rfl
 ·have hu:=bj hr;refine⟨_,_,((aj (bg (dM rfl (nN (QPF.w (bX Nj hr T.C9 (ae (qv 0) aH)))) (N':=["spot"]) (.own rfl .nil) (eB (g:=(Tg.nm 0)) (fun _ _ _ _ _=>⟨(mL 0),(QPE.f (B5 T.oj T.iM (qv 0)))⟩)))))),fun ts Q h=>?_⟩
  obtain⟨gv,l,rfl,hl,hq⟩:=h;refine⟨gv,l,rfl,hl,aW (by rw[PZ,Yb];omega),fun i ys=>ys =(Xt i).map fun j=>bdT gv (l.drop j),rfl,?_,?_⟩
  ·rintro i y ys hy rfl
   rw[Xc]at hy;obtain⟨z,hz,rfl⟩:=Xg.mp hy;have hz':z=i:=by
    have:=VZ.mp hz
    obtain⟨_,h2⟩:=this;simp at h2;exact h2.symm
   subst hz';refine⟨_,rfl,rfl,(by decide),_,rfl,dr gv _,?_⟩
   rw[Zl,YI];rfl
  ·rintro ys rfl
   rw[PZ,Yb];exact hq
def SI:PSp:=fun ts Q=>∃ W:Gw,ts = [W.t]/\W.Ok/\Q (.i (nh W.pcs))
theorem pW(T:Txt K mg a):aP P w K mg base CX0 6 a.bZ a.kU ["program"] (spQ K SI):=by
 have Jy:=@DR P w K mg base a T;refine T.lD.F.okQ cn (fun ts Q h=>?_) (fun _ _ _ _ _ _ hr=>?_)
 ·obtain⟨_,rfl,_⟩:=h;rfl
 ·have hu:=bj hr;refine⟨_,_,((ah (aJ 1 cn.nd jl)
 (ah (jk (g:=(Tg.nm 2)) PassesOwn.never rfl (Aq (QPE.f (aq (qv 0) ag))) (eU 2 cn.nd)
 (ah (vW (i:=3) cn.nd rfl (Or.inl rfl) rfl (nN (QPF.w (bX Jy hr T.zK (ae (aq (qv 2) ag) aH)))) (N':=["piece"]) (.own rfl .nil) (OS (g:=(Tg.nm 0)) (fun _ _ _ _ _=>⟨(mL 0),(cX hu (aq (qv 0) ag) (QPF.w ay)),(QPE.f (aq (qv 0) ag))⟩)))
 (aj (aJ 1 cn.nd (iW (Bm rfl rfl) Gf (by rfl) T.CT (by kernel_rfl) (ae (QPF.w (bh (QPF.w (aY (af (QPE.f (qv 1)) au))) (qv 3))) aH))))))
 (aj (bg (QPE.f (qv 1))))))),fun ts Q h=>?_⟩
  obtain⟨W,rfl,ok,hq⟩:=h;have hl:=ok.ln;refine⟨_,rfl,ok.fns,fun i q=>∃ g o2 o3,q = [.r W.t,.o (.i g),o2,o3]/\(i=0/\g=0\/i=1/\g=nh W.pcs),⟨_,_,_,rfl,.inl ⟨rfl,rfl⟩⟩,?_,?_⟩
  ·rintro i x q hx ⟨g,o2,o3,rfl,hg⟩
   match i,hx with
   | 0,hx =>
    cases hx;have hg:g=0:=by rcases hg with⟨_,z⟩ |⟨z,_⟩;exact z;cases z
    subst hg;refine⟨_,rfl,_,rfl,W.gv,W.pcs,rfl,by omega,aW (by rw[PZ,Yb];omega),fun i ys=>ys =(fq (W.pcs.take i)).map .i,rfl,?_,?_⟩
    ·rintro i y ys hy rfl
     rw[Xc]at hy;obtain⟨z,hz,rfl⟩:=Xg.mp hy;obtain⟨hi,h2⟩:=VZ.mp hz;simp at h2 hi;subst i;refine⟨_,rfl,?_⟩;by_cases g2:z+1<=W.pcs.length
     ·have e:W.pcs.drop z=W.pcs[z]'(by omega)::W.pcs.drop (z+1):=Yi (by omega)
      have et:W.pcs.take (z+1)=W.pcs.take z ++ [W.pcs[z]'(by omega)]:=by rw[Xu,RH (by omega)];rfl
      rw[e,et,lM,YI]
      generalize W.pcs[z]'(by omega)=r
      cases r with
      | pay k=>exact⟨_,rfl,rfl,_,rfl,rfl,rfl⟩
      | get k=>exact⟨_,rfl,rfl,(Xh _).symm⟩
      | name _ _=>exact⟨_,rfl,rfl,(Xh _).symm⟩
      | make _ _ _=>exact⟨_,rfl,rfl,(Xh _).symm⟩
      | call _ _ _=>exact⟨_,rfl,rfl,(Xh _).symm⟩
     ·have:z=W.pcs.length:=by omega
      subst this;rw[List.drop_length,Xv,Zh (by omega)]
      exact⟨_,rfl,rfl,rfl⟩
    ·rintro ys rfl
     rw[PZ,Yb,Zh (by omega)]
     have hp:=lL W.pcs;exact⟨rfl,XO (aW (by show 1+((fq W.pcs).map L2.T.i).length<=_;rw[PZ];omega)),rfl,Im _,0::fq W.pcs,rfl,X3 _ _,_,_,_,rfl,.inr ⟨rfl,rfl⟩⟩
  ·rintro q ⟨g,o2,o3,rfl,hg⟩
   have hg:g=nh W.pcs:=by rcases hg with⟨z,_⟩ |⟨_,z⟩;cases z;exact z
   subst hg;exact⟨rfl,hq⟩
def O2(CW:Addr):PSp:=fun ts Q=>∃ a fns frs c m e,ts = [wT CW a fns frs c m e]/\(e = .n/\Q (.t [.s "late"])\/∃ ps,e = .t ps/\T.ims ps=true/\Q (.t ps))
theorem pF(T:Txt K mg a):aP P w K mg base CX0 2 a.e6 a.sU ["walk"] (spQ K (O2 a.aA)):=by
 have dt:=@kD P w K mg base a T;refine T.nc.F.okQ yl (fun ts Q h=>?_) (fun _ _ _ _ _ _ hr=>?_)
 ·obtain⟨_,_,_,_,_,_,rfl,_⟩:=h;rfl
 ·have hu:=bj hr;refine⟨_,_,((aj (bg (ND (b9 kC hX (a7 _) (QPF.w (bq T.aD T.ft dt (hr.mono (by first|decide|omega)) T.g0 (qv 0))) (QPF.w dJ)) (aE (jm (by rfl))) (bq T.aD T.ft dt (hr.mono (by first|decide|omega)) T.g0 (qv 0)))))),fun ts Q h=>?_⟩
  obtain⟨x,fns,frs,c,m,e,rfl,⟨rfl,hq⟩ |⟨ps,rfl,hi,hq⟩⟩:=h
  ·refine⟨rfl,rfl,x,fns,frs,c,m,_,rfl,rfl,?_⟩;exact hq
  ·refine⟨rfl,rfl,x,fns,frs,c,m,_,rfl,hi,?_⟩;exact⟨rfl,rfl,x,fns,frs,c,m,_,rfl,hi,hq⟩
def Ho(CW:Addr):PSp:=fun ts Q=>∃ a fns c m e,ts = [wT CW a fns [] c m e]/\Q (.l [])
theorem sg(T:Txt K mg a):aP P w K mg base CX0 2 a.bA a.iP ["self"] (spQ K (Ho a.aA)):=by
 refine T.fi.okQ qZ (fun ts Q h=>?_) (fun _ _ _ _ _ _ hr=>?_)
 ·obtain⟨_,_,_,_,_,rfl,_⟩:=h;rfl
 ·have hu:=bj hr;refine⟨_,_,((aj (bg (dM rfl (nN (h8 T.aD T.cp (qv 0))) (N':=["frame"]) (.own rfl .nil) (eB (g:=(Tg.nm 0)) (fun _ _ _ _ _=>⟨(mL 0),(aE (af (QPE.f (h8 T.aK T.si (qv 0))) (af (QPE.f (h8 T.aK T.fN (qv 0))) (af (ez k6 nt (by rfl) T.xH (by kernel_rfl) (ae (h8 T.aK T.cE (qv 0)) aH)) au))))⟩)))))),fun ts Q h=>?_⟩
  obtain⟨x,fns,c,m,e,rfl,hq⟩:=h;refine⟨rfl,_,rfl,by decide,fun i ys=>ys = [],rfl,fun i z ys hz=>?_,fun ys e=>?_⟩
  ·cases hz
  ·subst e;exact hq
def SJ:PSp:=fun ts Q=>∃(W:Gw)(vs:List L2.T)(c:Int)(D:Nat)(mk:Str),ts = [W.t,.i 0,.l vs,.i c,.i 500]/\W.Ok/\W.Args vs/\1500<=c/\W.End (W.a0 vs) 500 D mk/\Q (.t [grT mk,.i (c+W.sm (W.a0 vs) D),.i ((D+1:Nat):Int)])
theorem Po(T:Txt K mg a):aP P w K mg base CX0 6 a.u6 a.N4 ["program","f","args","coins","most"] (spQ K SJ):=by
 have m8:=@pF P w K mg base a T;have dB:=@jE P w K mg base a T;have fv:=@jF P w K mg base a T false;have d6:=@iL P w K mg base a T;have cj:=@iK P w K mg base a T;refine T.Og.F.okQ Gq (fun ts Q h=>?_) (fun _ _ _ _ _ _ hr=>?_)
 ·obtain⟨_,_,_,_,_,rfl,_⟩:=h;rfl
 ·have hu:=bj hr;refine⟨_,_,((ah (aJ 5 Gq.nd (km T.wO fv (hr.mono (by first|decide|omega)) rfl T.wM T.lb (ae (qv 0) (ae (qv 1) (ae (qv 2) (ae (qv 3) aH))))))
 (ah (DB PassesOwn.never (tN.pt (KS (Ap (B3 (QPF.w (bq T.aD T.cZ cj (hr.mono (by first|decide|omega)) T.d5 (a6 (aF (j:=5))))) (qv 4))) (GN (DA T.aD T.gk dB (hr.mono (by first|decide|omega)) T.ib (aF (j:=5))))))
 (aj KZ))
 (aj (bg (aE (af (bX m8 hr T.nc (ae (qv 5) aH)) (af (bq T.aD T.iN d6 (hr.mono (by first|decide|omega)) T.jM (a6 (aF (j:=5)))) (af (bq T.aD T.cZ cj (hr.mono (by first|decide|omega)) T.d5 (a6 (aF (j:=5)))) au))))))))),fun ts Q h=>?_⟩
  obtain⟨W,vs,c0,D,mk,rfl,ok,av,hc,he,hq⟩:=h;have gd:=av.gd ok;have hD:=he.lt;have hnp:=ok.np;refine fun x0=>?_
  refine⟨x0,W.ks,[W.g],0,W.g,vs,_,c0,rfl,ok.fns,rfl,(by show W.prs.length<=100;omega),av.im,ok.ks,.inr ⟨rfl,.inr rfl⟩,fun x=>⟨rfl,rfl,?_⟩⟩
  rw[Gw.wk0];refine⟨fun m q=>∃(k:Nat)(frs:List L2.T)(x:Addr),q = [.r W.t,.r (.i 0),.r (.l vs),.r (.i c0),.r (.i 500),.o (W.wk (W.a0 vs) c0 a.aA a.az x0 frs x k)]/\frs.length<=k/\W.Al (W.a0 vs) c0 k/\k+m=D,⟨D,0,[],x,rfl,Xa _,.zero,by omega⟩,?_⟩
  rintro m q ⟨k,frs,x,rfl,hf,al,hm⟩
  have hsh:=al.OG (N:=500) ok gd (Gw.Rx ok) (by omega) (by omega)
  refine⟨rfl,rfl,x0,_,_,_,k,.n,rfl,rfl,?_⟩;refine bY (fun _=>?_) (fun z=>absurd (decide_eq_true (by omega)) z)
  refine⟨rfl,rfl,rfl,?_⟩;refine Gw.turn (W:=W) (a0:=W.a0 vs) (c0:=c0) (x0:=x0) (x:=x) (frs:=frs) (k:=k) ok gd al hf (by omega) (fun q e=>?_) (fun mk' e _=>?_) (fun al' ur x' hf'=>?_)
  ·rw[hsh]at e;cases e
  ·obtain⟨rfl,rfl⟩:=he.uniq al e;exact⟨rfl,rfl,_,rfl,x0,_,[],_,_,_,rfl,.inr ⟨_,rfl,rfl,rfl,rfl,x0,_,[],_,_,_,rfl,rfl,rfl,rfl,x0,_,[],_,_,_,rfl,rfl,hq⟩⟩
  ·refine⟨rfl,rfl,_,rfl,fun q'=>∃(frs:List L2.T)(x:Addr),q' = [.r W.t,.r (.i 0),.r (.l vs),.r (.i c0),.r (.i 500),.o (W.wk (W.a0 vs) c0 a.aA a.az x0 frs x (k+1))]/\frs.length<=k+1,?_,?_⟩
   ·rintro q' ⟨frs,x,rfl,h1⟩
    have:=he.le al'
    exact⟨m - 1,by omega,k+1,frs,x,rfl,h1,al',by omega⟩
   ·exact⟨ur,x',rfl,hf'⟩
def O3:PSp:=fun ts Q=>∃(W:Gw)(vs:List L2.T),ts = [W.t,.i 0,.l vs,.i 500]/\W.Ok/\W.Args vs/\(∀ D mk,W.End (W.a0 vs) 500 D mk->Q (.t [.i (-(W.lo (W.a0 vs) D)),grT mk]))/\(W.Nh (W.a0 vs) 500->Q (.t [.i (-(W.lo (W.a0 vs) 500)),.t [.s "late"]]))
theorem LR(T:Txt K mg a):aP P w K mg base CX0 7 a.oX a.I0 ["program","f","args","most"] (spQ K O3):=by
 have m8:=@pF P w K mg base a T;have dB:=@jE P w K mg base a T;have fv:=@jF P w K mg base a T false;have d6:=@iL P w K mg base a T;have cj:=@iK P w K mg base a T;have dt:=@kD P w K mg base a T;have tO:=@pW P w K mg base a T;refine T.BJ.F.okQ nB (fun ts Q h=>?_) (fun _ _ _ _ _ _ hr=>?_)
 ·obtain⟨_,_,rfl,_⟩:=h;rfl
 ·have hu:=bj hr;refine⟨_,_,((ah (aJ 4 nB.nd (rJ (QPF.w (bX tO hr T.lD (ae (qv 0) aH))) (qv 3)))
 (ah (aJ 5 nB.nd (km T.wO fv (hr.mono (by first|decide|omega)) rfl T.wM T.lb (ae (qv 0) (ae (qv 1) (ae (qv 2) (ae (qv 4) aH))))))
 (ah (aJ 6 nB.nd (QPE.f (qv 4)))
 (ah (iV PassesOwn.never (QPW.pt (rD (B3 (QPF.w (bq T.aD T.cZ cj (hr.mono (by first|decide|omega)) T.d5 (a6 (aF (j:=5))))) (qv 3)) (nL (b9 kC hX (a7 _) (QPF.w (bq T.aD T.ft dt (hr.mono (by first|decide|omega)) T.g0 (a6 (aF (j:=5))))) (QPF.w dJ)))))
 (ah (uR T.aD T.gk dB (hr.mono (by first|decide|omega)) T.ib (aF (j:=5)))
 (aj (aJ 6 nB.nd (iW (vf rfl) Ac (by rfl) T.N8 (by kernel_rfl) (ae (qv 6) (ae (QPF.w (bq T.aD T.iN d6 (hr.mono (by first|decide|omega)) T.jM (a6 (aF (j:=5))))) aH)))))))
 (aj (bg (aE (af (rG (qv 4) (qv 6)) (af (bX m8 hr T.nc (ae (qv 5) aH)) au)))))))))),fun ts Q h=>?_⟩
  obtain⟨W,vs,rfl,ok,av,hqe,hql⟩:=h;have gd:=av.gd ok;have hnp:=ok.np;refine⟨W,rfl,ok,?_⟩;have t3:=Nq ok;have tk:=FO (W:=W);have t0:=tk.1;refine⟨.inl ⟨by omega,by omega⟩,fun x0=>?_⟩
  refine⟨x0,W.ks,[W.g],0,W.g,vs,_,_,rfl,ok.fns,rfl,(by show W.prs.length<=100;omega),av.im,ok.ks,.inr ⟨rfl,.inr rfl⟩,fun x=>⟨rfl,rfl,?_⟩⟩
  rw[Gw.wk0];refine⟨rfl,?_⟩;obtain⟨Z,hZ⟩:∃ Z:Nat->Sq->Prop,Z=fun n q=>(∃(k:Nat)(frs:List L2.T)(x:Addr)(lo:Int),q = [.r W.t,.r (.i 0),.r (.l vs),.r (.i 500),.o (.i (nh W.pcs*500)),.o (W.wk (W.a0 vs) (nh W.pcs*500) a.aA a.az x0 frs x k),.o (.i lo)]/\lo=nh W.pcs*500+W.lo (W.a0 vs) k/\frs.length<=k/\W.Al (W.a0 vs) (nh W.pcs*500) k/\k+n=500) \/
   (∃(lo c:Int)(D:Nat)(mk:Str),q = [.r W.t,.r (.i 0),.r (.l vs),.r (.i 500),.o (.i (nh W.pcs*500)),.o (wT a.aA x0 (.t ([W.g].map Fn.t)) [] c ((D+1:Nat):Int) (grT mk)),.o (.i lo)]/\lo=nh W.pcs*500+W.lo (W.a0 vs) D/\W.End (W.a0 vs) 500 D mk/\n=0):=⟨_,rfl⟩
  refine⟨Z,⟨500,?_⟩,?_⟩
  ·rw[hZ];exact .inl ⟨0,[],x,_,rfl,(by show _=_+(0:Int);omega),Xa _,.zero,by omega⟩
  intro n q hw;rw[hZ]at hw;rcases hw with⟨k,frs,x,lo,rfl,el,hf,al,hm⟩ |⟨lo,c,D,mk,rfl,el,he,rfl⟩
  ·refine⟨rfl,rfl,x0,_,_,_,k,.n,rfl,rfl,?_⟩;refine bY (fun g=>?_) (fun g=>?_)
   ·have g:(k:Int)<500:=of_decide_eq_true g;have hsh:=al.OG (N:=500) ok gd tk (by omega) (X0 _)
    refine⟨rfl,rfl,x0,_,_,_,k,.n,rfl,rfl,?_⟩;refine⟨fun q'=>∃ n',n'<n/\Z n' q',fun q' h=>h,?_⟩
    refine⟨rfl,rfl,rfl,?_⟩;have hlo:=Gw.lo_le (W:=W) (a:=W.a0 vs) (k:=k);refine Gw.turn (W:=W) (a0:=W.a0 vs) (c0:=nh W.pcs*500) (x0:=x0) (x:=x) (frs:=frs) (k:=k) ok gd al hf (by omega) (fun q e=>?_) (fun mk' e _=>?_) (fun al' ur x' hf'=>?_)
    ·rw[hsh]at e;cases e
    ·refine⟨rfl,rfl,_,rfl,?_⟩;refine⟨rfl,rfl,x0,_,_,_,_,_,rfl,rfl,?_⟩;refine⟨0,by omega,?_⟩
     rw[hZ];refine .inr ⟨_,_,k,mk',rfl,?_,⟨by omega,al.g,e⟩,rfl⟩
     dsimp only
     split <;> omega
    ·refine⟨rfl,rfl,_,rfl,?_⟩;refine⟨rfl,rfl,x0,_,_,_,_,_,rfl,rfl,?_⟩;refine⟨n - 1,by omega,?_⟩
     rw[hZ];refine .inl ⟨k+1,ur,x',_,rfl,?_,hf',al',by omega⟩
     dsimp only;rw[Gw.lo]
     split <;> omega
   ·have g:¬(k:Int)<500:=fun z=>g (decide_eq_true z)
    have:k=500:=by omega
    subst this;have hl:W.Nh (W.a0 vs) 500:=al.g;have hq:=hql hl;have e:nh W.pcs*500 - lo = -(W.lo (W.a0 vs) 500):=by omega
    rw[<- e]at hq;exact⟨x0,_,_,_,_,_,rfl,.inl ⟨rfl,hq⟩⟩
  ·have hq:=hqe D mk he;have e:nh W.pcs*500 - lo = -(W.lo (W.a0 vs) D):=by omega
   rw[<- e]at hq;refine⟨rfl,rfl,x0,_,_,c,_,_,rfl,rfl,?_⟩;refine bY (fun _=>?_) (fun _=>?_)
   ·refine⟨rfl,rfl,x0,_,_,c,_,_,rfl,rfl,?_⟩;exact⟨x0,_,_,c,_,_,rfl,.inr ⟨_,rfl,rfl,hq⟩⟩
   ·exact⟨x0,_,_,c,_,_,rfl,.inr ⟨_,rfl,rfl,hq⟩⟩
theorem cp9:Nn 10 9:=⟨by decide,by decide,by decide⟩
def Hi:PSp:=fun ts Q=>∃(W:Gw)(vs:List L2.T),ts = [W.t,.l vs,.i 500]/\W.Ok/\W.Args vs/\(∀ D mk,W.End (W.a0 vs) 500 D mk->Q (.t [grT mk,.i (-(W.lo (W.a0 vs) D)),.i ((D+1:Nat):Int),.i (1000000000+W.sm (W.a0 vs) D)]))/\(W.Nh (W.a0 vs) 500->Q (.t [.n,.i (-(W.lo (W.a0 vs) 500)),.i 500,.i (1000000000+W.sm (W.a0 vs) 500)]))
theorem DQ(T:Txt K mg a):aP P w K mg base CX0 71 a.i9 a.zi ["_law_program","_law_args","_law_most"] (spQ K Hi):=by
 have oA:=@sf P w K mg base a T false;have BG:=@Cm P w K mg base a T;refine T.zJ.F.okQ lI (fun ts Q h=>?_) (fun _ _ _ _ _ _ hr=>?_)
 ·obtain⟨_,_,rfl,_⟩:=h;rfl
 ·have hu:=bj hr;refine⟨_,_,((ah (aJ 3 lI.nd (bX oA hr T.qL (ae (qv 0) (ae ag (ae (qv 1) (ae (QPF.w (rH ag ag)) aH))))))
 (ah (aJ 4 lI.nd (rH ag ag))
 (ah (iV PassesOwn.never (QPW.pt (rD (b9 kC hX (a7 _) (aU (qv 3) (QPF.w ay)) (QPF.w dJ)) (nL (B3 (aU (qv 3) (QPF.w ay)) (qv 2)))))
 (ah (f9 (i:=3) (j:=1) BG (hr.mono (by first|decide|omega)) rfl T.m9.m T.m9.F.kp T.m9.b (vY (qv 0) (gb (i:=3) (pv 3) aH)))
 (aj (aJ 4 lI.nd (iW (vf rfl) Ac (by rfl) T.N8 (by kernel_rfl) (ae (qv 4) (ae (aU (qv 3) (QPF.w ay)) aH)))))))
 (aj (bg (aE (af (QPE.f (aU (qv 3) (QPF.w ay))) (af (rG (QPF.w (rH ag ag)) (qv 4)) (af (QPE.f (aU (qv 3) (QPF.w ay))) (af (QPE.f (aU (qv 3) (QPF.w ay))) au))))))))))),fun ts Q h=>?_⟩
  obtain⟨W,vs,rfl,ok,av,hqe,hql⟩:=h;have gd:=av.gd ok;have hnp:=ok.np;refine⟨cp9,W.ks,[W.g],0,W.g,vs,_,_,rfl,ok.fns,rfl,(by show W.prs.length<=100;omega),av.im,av.pl,.inr ⟨rfl,.inr rfl⟩,fun o ws=>?_⟩
  rw[Gw.lw0];refine⟨cp9,?_⟩;obtain⟨Z,hZ⟩:∃ Z:Nat->Sq->Prop,Z=fun n q=>(∃(k:Nat)(stk:List L2.T)(o:Obj)(ws:List (Key×V))(lo:Int),q = [.r W.t,.r (.l vs),.r (.i 500),.o (.d (W.lw (W.a0 vs) 1000000000 stk o ws k)),.o (.i lo)]/\lo=1000000000+W.lo (W.a0 vs) k/\xS stk k/\W.Al (W.a0 vs) 1000000000 k/\k+n=500) \/
   (∃(lo:Int)(D:Nat)(mk:Str),q = [.r W.t,.r (.l vs),.r (.i 500),.o (.d (stT [] (1000000000+W.sm (W.a0 vs) D) ((D+1:Nat):Int) (grT mk))),.o (.i lo)]/\lo=1000000000+W.lo (W.a0 vs) D/\W.End (W.a0 vs) 500 D mk/\n=0):=⟨_,rfl⟩
  refine⟨Z,⟨500,?_⟩,?_⟩
  ·rw[hZ];exact .inl ⟨0,[],o,ws,_,rfl,(by show(1000000000:Int)=1000000000+(0:Int);omega),.nil,.zero,by omega⟩
  intro n q hw;rw[hZ]at hw;rcases hw with⟨k,stk,o,ws,lo,rfl,el,hst,al,hm⟩ |⟨lo,D,mk,rfl,el,he,rfl⟩
  ·refine⟨_,rfl,?_⟩;refine⟨_,rfl,bY (fun g=>?_) (fun g=>?_)⟩
   ·have g:(k:Int)<500:=of_decide_eq_true g;have hsh:=al.OG (N:=500) ok gd (Gw.Rx ok) (by omega) (by omega)
    refine⟨fun q'=>∃ n',n'<n/\Z n' q',fun q' h=>h,?_⟩
    refine⟨rfl,fun p=>⟨ok.im,rfl,?_⟩⟩
    have hlo:=Gw.lo_le (W:=W) (a:=W.a0 vs) (k:=k);refine Gw.step (W:=W) (a0:=W.a0 vs) (c0:=1000000000) (p:=p) (stk:=stk) (o:=o) (vs:=ws) (k:=k) ok gd al hst (by omega) (fun q e=>?_) (fun mk' e _=>?_) (fun al' Dk o' ws' um=>?_)
    ·rw[hsh]at e;cases e
    ·refine⟨_,rfl,?_⟩;refine⟨0,by omega,?_⟩
     rw[hZ];refine .inr ⟨_,k,mk',rfl,?_,⟨by omega,al.g,e⟩,rfl⟩
     dsimp only
     split <;> omega
    ·refine⟨_,rfl,?_⟩;refine⟨n - 1,by omega,?_⟩
     rw[hZ];refine .inl ⟨k+1,Dk,o',ws',_,rfl,?_,um,al',by omega⟩
     dsimp only;rw[Gw.lo]
     split <;> omega
   ·have g:¬(k:Int)<500:=fun z=>g (decide_eq_true z)
    have:k=500:=by omega
    subst this;have hl:W.Nh (W.a0 vs) 500:=al.g;have hq:=hql hl;have e:1000000000 - lo = -(W.lo (W.a0 vs) 500):=by omega
    rw[<- e]at hq;exact⟨_,rfl,rfl,cp9,_,rfl,rfl,_,rfl,rfl,hq⟩
  ·have hq:=hqe D mk he;have e:1000000000 - lo = -(W.lo (W.a0 vs) D):=by omega
   rw[<- e]at hq;refine⟨_,rfl,?_⟩;exact⟨_,rfl,rfl,cp9,_,rfl,rfl,_,rfl,rfl,hq⟩
def Lm:PSp:=fun ts Q=>∃(mk la:Str)(nm many:Int),ts = [.s mk,.s la,.i nm,.i many]/\(nm=1\/nm=2)/\1<=many/\many<=60/\∀ v,Sml v->Q v
theorem HJ(T:Txt K mg a):aP P w K mg base CX0 1 a.lV a.CM ["_law_maker","_law_last","_law_names","_law_many"] (spQ K Lm):=by
 refine T.Dd.F.okQ nE (fun ts Q h=>?_) (fun _ _ _ _ _ _ hr=>?_)
 ·obtain⟨_,_,_,_,rfl,_⟩:=h;rfl
 ·have hu:=bj hr;refine⟨_,_,((ah (aJ 4 nE.nd (aE (af (QPE.f (qv 1)) (af (aE au) au))))
 (ah (jk (g:=(Tg.nm 5)) PassesOwn.never rfl (oK rfl T.qJ (ae (QPF.w (rG (qv 3) ag)) aH)) (eU 5 nE.nd)
 (aj (aJ 4 nE.nd (aE (af (QPE.f (qv 0)) (af (bh (QPF.w (aE (af (QPE.f (qv 4)) au))) (QPF.w (B4 (QPF.w (aE (af (aE (af (QPE.f (qv 1)) (af (aE au) au))) au))) (QPF.w (rG (qv 2) ag))))) au))))))
 (aj (bg (QPE.f (qv 4))))))),fun ts Q h=>?_⟩
  obtain⟨mk,la,nm,many,rfl,hnm,m1,m2,hq⟩:=h;refine⟨rfl,by omega,by omega,?_⟩
  refine⟨fun i q=>∃(v:Vl)(t:L2.T)(o5:Sl),q = [.r (.s mk),.r (.s la),.r (.i nm),.r (.i many),.o t,o5]/\t=v.t/\v.sz<=2*i+1/\v.dp<=i+1,⟨.mk la [],_,_,rfl,rfl,Xa _,Xa _⟩,?_,?_⟩
  ·rintro i y q hy ⟨v,t,o5,rfl,rfl,h1,h2⟩
   obtain⟨rfl,hi⟩:=vU hy;refine⟨_,rfl,?_⟩;rcases hnm with rfl|rfl
   ·refine⟨rfl,v.im,rfl,by decide,by decide,X3 _ _,(by show 1<=1000;decide),rfl,?_⟩
    refine⟨XO (aW (by show 1<=_;decide)),(by show(v.t.im&&true)=true;rw[v.im];rfl),rfl,.mk mk [v],_,_,rfl,(by rw[Vl.t,Vl.ts,Vl.ts];rfl),?_,?_⟩
    ·rw[Vl.sz,Vl.szs,Vl.szs];omega
    ·rw[Vl.dp,Vl.dps,Vl.dps];omega
   ·refine⟨rfl,v.im,rfl,by decide,by decide,X3 _ _,(by show 1<=1000;decide),rfl,?_⟩
    refine⟨XO (aW (by show 2<=_;decide)),(by show(v.t.im&&true)=true;rw[v.im];rfl),rfl,.mk mk [v,.mk la []],_,_,rfl,(by rw[Vl.t,Vl.ts,Vl.ts,Vl.ts,Vl.t,Vl.ts];rfl),?_,?_⟩
    ·rw[Vl.sz,Vl.szs,Vl.szs,Vl.szs,Vl.sz,Vl.szs];omega
    ·rw[Vl.dp,Vl.dps,Vl.dps,Vl.dps,Vl.dp,Vl.dps];omega
  ·rintro q ⟨v,t,o5,rfl,rfl,h1,h2⟩
   rw[nI]at h1 h2;exact⟨v.im,hq _ ⟨v,rfl,by omega,by omega⟩⟩
def ksT(kw m1 m2:Str)(fs:List Str):L2.T:=.t [.t [.s kw,.t [.t [.s m1,.t []],.t [.s m2,.t (fs.map .s)]]]]
def Hn:PSp:=fun ts Q=>ts = [.og]/\∀(W:Gw)(kw m1 m2:Str)(fs:List Str),W.Ok->W.ks=ksT kw m1 m2 fs ->(fs.length=1\/fs.length=2)->Q W.t
def Py(w:Nat->Str):List Str:=[w 0,w 1,w 2,w 3,w 4,w 5,w 6,w 7,w 8,w 9,w 10,w 11,w 12,w 13,w 14,w 15,w 16,w 17,w 18,w 19]
theorem w20(h:ws.length=20):∃ w:Nat->Str,ws=Py w:=⟨fun n=>ws.getD n "",by
 match ws,h with
 | [_,_,_,_,_,_,_,_,_,_,_,_,_,_,_,_,_,_,_,_],_=>rfl⟩
def rdG:QS:=(GW (yE 7 (rM (a9 (qC (L2.T.s (Str.ofString "call"))) (a9 (qIm (qOp qIx (eC 1) (qC (L2.T.i 7)))) (a9 (qIm (qOp qIx (eC 1) (qC (L2.T.i 8)))) (a9 (qIm (eC 6)) (a9 (rM (a9 (qC (L2.T.s (Str.ofString "give"))) (a9 (qIm (qOp qIx (eC 1) (qC (L2.T.i 7)))) ko))) ko))))))) (GW (yE 7 (rM (a9 (qC (L2.T.s (Str.ofString "make"))) (a9 (qIm (qOp qIx (eC 1) (qC (L2.T.i 6)))) (a9 (qIm (qOp qIx (eC 1) (qC (L2.T.i 2)))) (a9 (qIm (eC 4)) (a9 (qIm (eC 7)) ko))))))) (GW (Sw (asJ (Ql (a9 (rO oN (a9 (eC 0) (a9 (qC (L2.T.i 3)) ko))) ko))) (Tg.nm 8) (yE 7 (rM (a9 (Sn (Sj fun x Q=>Q (List.map L2.T.s ((fun x=>Str.ofString "pay" :: x) ((fun x=>Str.ofString "get" :: x) [])))) (rO oN (a9 (eC 0) (a9 (qC (L2.T.i 2)) ko)))) (a9 (qOp Lg (qC (L2.T.i 1)) (rO oN (a9 (eC 0) (a9 (qC (L2.T.i 3)) ko)))) (a9 (qIm (eC 7)) ko)))))) (GW (Ss (B6 (qOp G8 (rO oN (a9 (eC 0) (a9 (qC (L2.T.i 3)) ko))) (qC (L2.T.i 0)))) (yE 7 (rM (a9 (qC (L2.T.s (Str.ofString "name"))) (a9 (qIm (qOp qIx (eC 1) (qC (L2.T.i 9)))) (a9 (qIm (qOp qIx (eC 1) (qC (L2.T.i 4)))) (a9 (qIm (eC 7)) ko)))))) GY) fun D q=>rM (a9 (rM (a9 (rM (a9 (qIm (qOp qIx (eC 1) (qC (L2.T.i 0)))) (a9 (qIm (eC 3)) ko))) ko)) (a9 (rM (a9 (rM (a9 (qIm (qOp qIx (eC 1) (qC (L2.T.i 8)))) (a9 (qIm (eC 5)) (a9 (qIm (qOp qIx (eC 1) (qC (L2.T.i 0)))) (a9 (qIm (eC 7)) ko))))) ko)) ko)) q D.rt))))
def UU(cs:List Pc):Prop:=∀ p∈cs,∃ k:Int,1<=k/\k<=3/\(p = .pay k\/p = .get k)
theorem se{np:Nat}{nm:Str}{sc:List Str}{tl:List Pc}(h:okP np nm sc tl):∀{cs:List Pc},UU cs->okP np nm sc (cs++tl)
 | [],_=>h
 | p::r,hc=>by
  have ih:=se h (cs:=r) fun q hq=>hc q (Es _ hq)
  obtain⟨k,k1,k2,rfl|rfl⟩:=hc p j5
  ·exact⟨k1,k2,ih⟩
  ·exact⟨k1,k2,ih⟩
theorem FQ{Q:L2.T->Prop}{w:Nat->Str}{fm:Int}{fs nms ar:List Str}{prs:List (Str×L2.T)}(hfs:fs.length=1\/fs.length=2)(hp:∀ p∈prs,p.2.im=true)(hpl:prs.length<=2)(h4:w 4∈prs.map (·.1))(hn:nms.length<=2)(hns:∀ z∈nms,z∈prs.map (·.1))(ha:ar.length=prs.length)(has:∀ z∈ar,z∈w 6::prs.map (·.1))
  (hq:∀(W:Gw)(kw m1 m2:Str)(fs:List Str),W.Ok->W.ks=ksT kw m1 m2 fs ->(fs.length=1\/fs.length=2)->Q W.t) :
  rdG { nx:=fun _=>Q .n,rt:=Q } [.r .og,.o (.l ((Py w).map .s)),.o (.i fm),.o (.t [.t [.s (w 1),.t []],.t [.s (w 2),.t (fs.map .s)]]),.o (.t (nms.map .s)),.o (.t (prs.map fun p=>.t [.s p.1,p.2])),.o (.t (ar.map .s)),.no,.no]:=by
 have prim:L2.T.ims (prs.map fun p=>L2.T.t [.s p.1,p.2])=true:=bW fun t ht=>by
  obtain⟨p,h,rfl⟩:=XC.mp ht;show(true&&(p.2.im&&true))=true;rw[hp p h];rfl
 have Pw:(L2.T.t [.t [.s (w 1),.t []],.t [.s (w 2),.t (fs.map .s)]]).im=true:=by
  show((true&&(true&&true))&&((true&&(L2.T.ims (fs.map .s)&&true))&&true))=true;rw[hV];rfl
 obtain⟨tl,htl⟩:∃ tl:List Pc,tl = [.make (w 6) (w 2) nms,.call (w 7) (w 8) ar]:=⟨_,rfl⟩
 have S0:∀ sc:List Str,(∀ z∈prs.map (·.1),z∈sc)->okP prs.length (w 8) sc tl:=fun sc hsc=>by
  rw[htl];refine⟨hn,fun z hz=>hsc z (hns z hz),rfl,ha,fun z hz=>?_⟩
  rcases QH.mp (has z hz)with e|e
  ·rw[e];exact j5
  ·exact Es _ (hsc z e)
 refine⟨_,rfl,rfl,_,rfl,rfl,hV ar,_,rfl,rfl,?_⟩;refine⟨_,rfl,rfl,_,rfl,rfl,hV nms,(by show(true&&(true&&(true&&(L2.T.ims (ar.map .s)&&(true&&true)))))=true;rw[hV];rfl),?_⟩
 refine⟨by decide,by decide,fun n n0 n1=>⟨by omega,by omega,?_⟩⟩
 refine⟨fun i q=>∃(cs:List Pc)(b:L2.T)(o8:Sl),q = [.r .og,.o (.l ((Py w).map .s)),.o (.i fm),.o (.t [.t [.s (w 1),.t []],.t [.s (w 2),.t (fs.map .s)]]),.o (.t (nms.map .s)),.o (.t (prs.map fun p=>.t [.s p.1,p.2])),.o (.t (ar.map .s)),.o b,o8]/\b=bdT (w 7) (cs++tl)/\cs.length=i/\UU cs,⟨[],_,_,rfl,by rw[htl];rfl,rfl,fun _ h=>nomatch h⟩,?_,?_⟩
 ·rintro i y q hy ⟨cs,b,o8,rfl,rfl,hc,hcs⟩
  obtain⟨rfl,hi⟩:=vU hy;refine⟨_,rfl,?_⟩;refine⟨by decide,by decide,fun d d0 d1=>?_⟩
  obtain⟨wd,ew,hwd⟩:=CV (ws:=["pay","get"]) d0 d1;refine⟨_,ew,by decide,by decide,fun c c0 c1=>⟨dr _ _,?_⟩⟩
  have hwd:wd = "pay" \/ wd = "get":=by simpa using hwd
  rcases hwd with rfl|rfl
  ·refine⟨.pay (1+c)::cs,_,_,rfl,rfl,by rw[Xn,hc],fun p hp=>?_⟩
   rcases QH.mp hp with rfl|hp
   ·exact⟨_,by omega,by omega,.inl rfl⟩
   ·exact hcs p hp
  ·refine⟨.get (1+c)::cs,_,_,rfl,rfl,by rw[Xn,hc],fun p hp=>?_⟩
   rcases QH.mp hp with rfl|hp
   ·exact⟨_,by omega,by omega,.inr rfl⟩
   ·exact hcs p hp
 ·rintro q ⟨cs,b,o8,rfl,rfl,hc,hcs⟩
  rw[nI]at hc;have fin:∀ pcs:List Pc,okP prs.length (w 8) (prs.map (·.1)) pcs->pcs.length<=5 ->(∀ k,Pc.pay k∈pcs->k<=3)->Q (.t [ksT (w 0) (w 1) (w 2) fs,.t [.t [.s (w 8),.t (prs.map fun p=>.t [.s p.1,p.2]),.s (w 0),bdT (w 7) pcs]]]):=fun pcs h1 h2 h3=>by
   refine hq ⟨ksT (w 0) (w 1) (w 2) fs,w 8,prs,.s (w 0),w 7,pcs⟩ (w 0) (w 1) (w 2) fs ⟨?_,rfl,hp,hpl,h1,h2,h3⟩ rfl hfs;show(((true&&(((L2.T.t [.t [.s (w 1),.t []],.t [.s (w 2),.t (fs.map .s)]]).im)&&true))&&true))=true;rw[Pw];rfl
  have hpy:∀ k,Pc.pay k∈cs++tl->k<=3:=fun k hk=>by
   rcases Xj.mp hk with z|z
   ·obtain⟨q,_,q2,e|e⟩:=hcs _ z
    ·cases e;exact q2
    ·cases e
   ·rw[htl]at z;rcases QH.mp z with z|z
    ·cases z
    ·cases qr.mp z
  have hlen:(cs++tl).length<=4:=by
   rw[Xl,htl];show cs.length+2<=4;omega
  refine⟨by decide,by decide,fun r r0 r1=>⟨rfl,bY (fun _=>?_) (fun _=>?_)⟩⟩
  ·refine⟨_,rfl,rfl,_,rfl,rfl,dr _ _,?_⟩
   have:=fin (.name (w 9) (w 4) ::(cs++tl)) ⟨h4,se (S0 _ fun z hz=>Es _ hz) hcs⟩ (YS hlen) fun k hk=>by
    rcases QH.mp hk with z|z
    ·cases z
    ·exact hpy k z
   exact⟨_,rfl,rfl,Pw,_,rfl,rfl,prim,_,rfl,rfl,dr _ (.name (w 9) (w 4) ::(cs++tl)),this⟩
  ·have:=fin (cs++tl) (se (S0 _ fun z hz=>hz) hcs) (Yn hlen) hpy
   exact⟨_,rfl,rfl,Pw,_,rfl,rfl,prim,_,rfl,rfl,dr _ (cs++tl),this⟩
theorem DT(T:Txt K mg a):aP P w K mg base CX0 4 a.jd a.zo ["_law_deal_here"] (spQ K Hn):=by
 have cw:=Bh (@wK P w K mg base a T);have Ni:=@HG P w K mg base a T;refine T.zL.F.okQ bC (fun ts Q h=>?_) (fun _ _ _ _ _ _ hr=>?_)
 ·obtain⟨rfl,_⟩:=h;rfl
 ·have hu:=bj hr;refine⟨_,_,((ah (aJ 1 bC.nd (bX Ni hr T.C8 (ae (qv 0) (ae ag aH))))
 (ah (aJ 2 bC.nd (bX cw hr T.cK (ae (qv 0) (ae ag aH))))
 (ah (aJ 3 bC.nd (aE (af (aE (af (QPE.f (aq (qv 1) ag)) (af (aE au) au))) (af (aE (af (QPE.f (aq (qv 1) ag)) (af (B4 (QPF.w (aE (af (QPE.f (aq (qv 1) ag)) au))) (QPF.w (bh ag (QPF.w (ez pk vF (by rfl) T.Jq (by kernel_rfl) (ae (QPF.w (kn Ck (vG (g':=fun i j=>.b (decide (j<i))) fun _ _ _ _=>.b _) (a7 _) (qv 2) ag)) aH)))))) au))) au))))
 (ah (aJ 4 bC.nd (mH (aY (af (aE (af (QPE.f (aq (qv 1) ag)) au)) (af (aE (af (QPE.f (aq (qv 1) ag)) (af (QPE.f (aq (qv 1) ag)) au))) (af (aE (af (QPE.f (aq (qv 1) ag)) (af (QPE.f (aq (qv 1) ag)) au))) au)))) (qv 2)))
 (ah (aJ 5 bC.nd (nO (QPF.w (aE (af (aE (af (QPE.f (aq (qv 1) ag)) (af (QPE.f (aq (qv 1) ag)) au))) (af (aE (af (QPE.f (aq (qv 1) ag)) (af (QPE.f (aq (qv 1) ag)) au))) au)))) qE (qD (QPF.w (bh ag (QPF.w (ez pk vF (by rfl) T.Jq (by kernel_rfl) (ae (QPF.w (kn (sd hu rfl) nq (a7 _) (qv 2) ag)) aH))))))))
 (ah (aJ 6 bC.nd (mH (aY (af (aE (af (QPE.f (aq (qv 1) ag)) au)) (af (aE (af (QPE.f (aq (qv 1) ag)) au)) (af (aE (af (QPE.f (aq (qv 1) ag)) (af (QPE.f (aq (qv 1) ag)) au))) au)))) (qv 2)))
 (ah (bR (cX hu (qv 2) ag)
 (aj (aJ 6 bC.nd (mH (aY (af (QPE.f (qv 6)) (af (aE (af (QPE.f (aq (qv 1) ag)) (af (QPE.f (aq (qv 1) ag)) au))) (af (aE (af (QPE.f (aq (qv 1) ag)) (af (QPE.f (aq (qv 1) ag)) au))) au)))) (QPF.w (bX cw hr T.cK (ae (qv 0) (ae ag aH)))))))
 cb)
 (ah (aJ 7 bC.nd (aE (af ay (af (QPE.f (aq (qv 1) ag)) (af (QPE.f (aq (qv 1) ag)) (af (QPE.f (qv 6)) (af (aE (af ay (af (QPE.f (aq (qv 1) ag)) au))) au)))))))
 (ah (aJ 7 bC.nd (aE (af ay (af (QPE.f (aq (qv 1) ag)) (af (QPE.f (aq (qv 1) ag)) (af (QPE.f (qv 4)) (af (QPE.f (qv 7)) au)))))))
 (ah (jk (g:=(Tg.nm 8)) PassesOwn.never rfl (oK rfl T.qJ (ae (QPF.w (bX cw hr T.cK (ae (qv 0) (ae ag aH)))) aH)) (eU 8 bC.nd)
 (aj (aJ 7 bC.nd (aE (af (mH (aY (jm (by rfl))) (QPF.w (bX cw hr T.cK (ae (qv 0) (ae ag aH))))) (af (bh ag (QPF.w (bX cw hr T.cK (ae (qv 0) (ae ag aH))))) (af (QPE.f (qv 7)) au)))))))
 (ah (bR (cX hu (QPF.w (bX cw hr T.cK (ae (qv 0) (ae ag aH)))) ag)
 (aj (aJ 7 bC.nd (aE (af ay (af (QPE.f (aq (qv 1) ag)) (af (QPE.f (aq (qv 1) ag)) (af (QPE.f (qv 7)) au)))))))
 cb)
 (aj (bg (aE (af (aE (af (aE (af (QPE.f (aq (qv 1) ag)) (af (QPE.f (qv 3)) au))) au)) (af (aE (af (aE (af (QPE.f (aq (qv 1) ag)) (af (QPE.f (qv 5)) (af (QPE.f (aq (qv 1) ag)) (af (QPE.f (qv 7)) au))))) au)) au))))))))))))))))),fun ts Q h=>?_⟩
  obtain⟨rfl,hq⟩:=h;refine⟨20,rfl,by decide,by decide,fun ws lw nw wl=>?_⟩
  obtain⟨w,rfl⟩:=w20 (ws:=ws) (by omega)
  refine⟨by decide,by decide,fun fm f0 f1=>?_⟩
  have hf:fm=0\/fm=1\/fm=2:=by omega
  refine⟨_,rfl,rfl,_,rfl,rfl,_,rfl,rfl,?_⟩;rcases hf with rfl|rfl|rfl
  ·refine⟨by decide,by decide,X3 _ _,(by show 1<=1000;decide),rfl,?_⟩
   refine⟨_,rfl,rfl,_,rfl,rfl,_,rfl,rfl,_,rfl,rfl,_,rfl,rfl,_,rfl,?_⟩;refine⟨_,rfl,rfl,_,rfl,rfl,_,rfl,rfl,_,rfl,rfl,rfl,?_⟩;refine⟨rfl,?_⟩;refine⟨_,rfl,rfl,_,rfl,rfl,_,rfl,rfl,_,rfl,rfl,_,rfl,?_⟩;refine⟨rfl,?_⟩;exact FQ (w:=w) (fm:=0) (fs:=[w 0]) (nms:=[w 4]) (ar:=[w 6]) (prs:=[(w 4,.s (w 0))]) (.inl rfl) (fun p hp=>by rw[qr.mp hp];rfl) (by show 1<=2;decide) (by simp) (by show 1<=2;decide) (by simp) rfl (by simp) hq
  ·refine⟨by decide,by decide,X3 _ _,(by show 1<=1000;decide),rfl,?_⟩
   refine⟨_,rfl,rfl,_,rfl,rfl,_,rfl,rfl,_,rfl,rfl,_,rfl,rfl,_,rfl,?_⟩;refine⟨_,rfl,rfl,_,rfl,rfl,_,rfl,rfl,_,rfl,rfl,rfl,?_⟩;refine⟨rfl,?_⟩;refine⟨_,rfl,rfl,_,rfl,rfl,_,rfl,rfl,_,rfl,rfl,_,rfl,?_⟩;refine⟨rfl,?_⟩;exact FQ (w:=w) (fm:=1) (fs:=[w 0,w 0]) (nms:=[w 4,w 4]) (ar:=[w 6]) (prs:=[(w 4,.s (w 0))]) (.inr rfl) (fun p hp=>by rw[qr.mp hp];rfl) (by show 1<=2;decide) (by simp) (by show 2<=2;decide) (by simp) rfl (by simp) hq
  ·refine⟨by decide,by decide,X3 _ _,(by show 1<=1000;decide),rfl,?_⟩
   refine⟨_,rfl,rfl,_,rfl,rfl,_,rfl,rfl,_,rfl,rfl,_,rfl,rfl,_,rfl,?_⟩;refine⟨_,rfl,rfl,_,rfl,rfl,_,rfl,rfl,_,rfl,rfl,rfl,?_⟩;refine⟨rfl,?_⟩;refine⟨_,rfl,rfl,_,rfl,rfl,_,rfl,rfl,_,rfl,rfl,_,rfl,?_⟩;refine⟨rfl,?_⟩;have two:∀ p ∈ [(w 4,L2.T.s (w 0)),(w 5,L2.T.s (w 0))],p.2.im=true:=fun p hp=>by
    rcases QH.mp hp with e|hp
    ·rw[e];rfl
    ·rw[qr.mp hp];rfl
   have fin:∀ ar:List Str,ar.length=2 ->(∀ z∈ar,z∈w 6 :: [w 4,w 5])->_:=fun ar h1 h2=>FQ (Q:=Q) (w:=w) (fm:=2) (fs:=[w 0,w 0]) (nms:=[w 4,w 5]) (ar:=ar) (prs:=[(w 4,.s (w 0)),(w 5,.s (w 0))]) (.inr rfl) two (by show 2<=2;decide) (by simp) (by show 2<=2;decide) (by simp) h1 h2 hq
   refine⟨rfl,_,rfl,rfl,_,rfl,rfl,_,rfl,rfl,_,rfl,rfl,by decide,by decide,fun d d0 d1=>?_⟩
   have hd:d=0\/d=1\/d=2:=by omega
   rcases hd with rfl|rfl|rfl
   ·exact⟨_,rfl,fin [w 6,w 5] rfl (by simp)⟩
   ·exact⟨_,rfl,fin [w 6,w 6] rfl (by simp)⟩
   ·exact⟨_,rfl,fin [w 4,w 6] rfl (by simp)⟩
theorem Pp(T:Txt K mg a):aP P w K mg base CX0 100 a.u7 a.N5 ["_law_script"] (qS K):=by
 have Qv:=@LS P w K mg base a T;have cw:=Bh (@wK P w K mg base a T);have JA:=@DT P w K mg base a T;have Nm:=@HJ P w K mg base a T;have Jx:=@DQ P w K mg base a T;have BG:=@Cm P w K mg base a T;have oA:=@sf P w K mg base a T false;have UQ:=@Po P w K mg base a T;have Jz:=@LR P w K mg base a T;have fv:=@jF P w K mg base a T false;have dB:=@jE P w K mg base a T;have d6:=@iL P w K mg base a T;have cj:=@iK P w K mg base a T;have dt:=@kD P w K mg base a T;have uG:=@sg P w K mg base a T;refine T.UT.F.V8 (n:=14) (s1:=(bG pC).headD (.Pass ⟨0,0,0,0⟩)) (rest:=(bG pC).tail) cP rfl rfl (fun _ _ _ _ _ _ hr=>?_)
 have hu:=bj hr;refine⟨_,_,_,(jq (i:=1) cP.nd rfl (Or.inl rfl) (we Qv (hr.mono (by decide)) rfl T.xX.m T.xX.F.kp T.xX.b .nil kB (bV (pv 0) (bV bu gN)))),((ah (aJ 2 cP.nd (bX JA hr T.zL (ae (qv 1) aH)))
 (ah (rF (g:=(Tg.tp [3,4])) (aq (aq (qv 2) ag) ag) (Hv (eU 3 cP.nd) (eU 4 cP.nd)))
 (ah (aJ 5 cP.nd (QPE.f (aq (aq (qv 4) ag) ag)))
 (ah (aJ 6 cP.nd (aY au))
 (ah (jk (g:=(Tg.nm 7)) PassesOwn.never rfl (Aq (QPE.f (aq (aq (aq (qv 2) ag) ag) ag))) (eU 7 cP.nd)
 (ah (aJ 8 cP.nd (bh ag (QPF.w (bX cw hr T.cK (ae (qv 1) (ae (QPF.w (mH (aY (af jl (af jl au))) (QPF.w (bX cw hr T.cK (ae (qv 1) (ae ag aH)))))) aH))))))
 (aj (lK (i:=6) (pv 6) (bX Nm hr T.Dd (ae (aq (aq (qv 4) ag) ag) (ae (aq (aq (qv 4) ag) ag) (ae (QPF.w (vZ T.zu (ae (qv 5) aH))) (ae (qv 8) aH)))))))))
 (ah (rF (g:=(Tg.tp [9,10,11,12])) (QPF.w (bX Jx hr T.zJ (ae (qv 2) (ae (qv 6) (ae ag aH))))) (nT (K:=K) (n:=4) rfl rfl (bD (eU 9 cP.nd) (bD (eU 10 cP.nd) (bD (eU 11 cP.nd) (bD (eU 12 cP.nd) nS))))))
 (ah (bR (b9 kC hX (a7 _) (qv 9) (QPF.w dJ))
 (aj (bg (kn (HF (y9 hr) rfl) BW (a7 _) (aq (QPF.w (bX Jz hr T.BJ (ae (qv 2) (ae ag (ae (qv 6) (ae ag aH)))))) ag) (QPF.w (aE (jm (by rfl)))))))
 cb)
 (ah (bR (QPW.pt (B2 (b9 (AH (y9 hr) rfl) vE (a7 _) (QPF.w (bX Jz hr T.BJ (ae (qv 2) (ae ag (ae (qv 6) (ae ag aH)))))) (QPF.w (aE (af (QPE.f (qv 10)) (af (QPE.f (qv 9)) au))))) (vV (b9 (AH (y9 hr) rfl) vE (a7 _) (QPF.w (bX UQ hr T.Og (ae (qv 2) (ae ag (ae (qv 6) (ae (QPF.w (rH ag ag)) (ae ag aH))))))) (QPF.w (aE (af (QPE.f (qv 9)) (af (QPE.f (qv 12)) (af (QPE.f (qv 11)) au)))))))))
 (aj (bg yD))
 cb)
 (ah (aJ 13 cP.nd (mH (aY (af (rH ag ag) (af (QPE.f (qv 10)) (af (iW (vg rfl) Ac (by rfl) T.CT (by kernel_rfl) (ae (QPF.w (rG (qv 10) ag)) (ae ag aH))) au)))) (QPF.w (bX cw hr T.cK (ae (qv 1) (ae ag aH))))))
 (ah (aJ 14 cP.nd (km T.wO fv (hr.mono (by first|decide|omega)) rfl T.wM T.lb (ae (qv 2) (ae ag (ae (qv 6) (ae (qv 13) aH))))))
 (ah (aJ 15 cP.nd (bX oA hr T.qL (ae (qv 2) (ae ag (ae (qv 6) (ae (qv 13) aH))))))
 (ah (iV PassesOwn.never (b9 kC hX (a7 _) (aU (qv 15) (QPF.w ay)) (QPF.w dJ))
 (ah (f9 (i:=15) (j:=1) BG (hr.mono (by first|decide|omega)) rfl T.m9.m T.m9.F.kp T.m9.b (vY (qv 2) (gb (i:=15) (pv 15) aH)))
 (ah (GP (tN.pt (GL (yw yO qU (a7 _) T.aD T.gk dB (hr.mono (by first|decide|omega)) T.ib (aF (j:=14)) (QPF.w (kn kC hX (a7 _) (aU (qv 15) (QPF.w ay)) (QPF.w dJ)))) (B1 (Ap (b9 yO qU (a7 _) (QPF.w (bq T.aD T.cZ cj (hr.mono (by first|decide|omega)) T.d5 (a6 (aF (j:=14))))) (aU (qv 15) (QPF.w ay)))))))
 (aj (bg yD))
 cb)
 (aj (bR (QPW.pt (B2 (b9 yO qU (a7 _) (QPF.w (bq T.aD T.iN d6 (hr.mono (by first|decide|omega)) T.jM (a6 (aF (j:=14))))) (aU (qv 15) (QPF.w ay))) (vV (b9 (AH (y9 hr) rfl) vE (a7 _) (QPF.w (bq T.aD T.ft dt (hr.mono (by first|decide|omega)) T.g0 (a6 (aF (j:=14))))) (aU (qv 15) (QPF.w ay))))))
 (aj (bg yD))
 cb)))))
 (ah (GP (tN.pt (GL (yw LH Gb (a7 _) T.aD T.gk dB (hr.mono (by first|decide|omega)) T.ib (aF (j:=14)) (QPF.w yD)) (B1 (Ap (b9 (HD hu rfl) Ds (a7 _) (QPF.w (bq T.aD T.sr uG (hr.mono (by first|decide|omega)) T.uC (a6 (aF (j:=14))))) (QPF.w (aY au)))))))
 (aj (bg yD))
 cb)
 (aj (bg (OR (QPF.w (kn (sd hu rfl) nq (a7 _) (QPF.w (bq T.aD T.cZ cj (hr.mono (by first|decide|omega)) T.d5 (a6 (aF (j:=14))))) (aU (qv 15) (QPF.w ay)))) (OQ (kn (HF (y9 hr) rfl) BW (a7 _) (QPF.w (bq T.aD T.ft dt (hr.mono (by first|decide|omega)) T.g0 (a6 (aF (j:=14))))) (aU (qv 15) (QPF.w ay))))))))))))))))))))),fun p0 ns D hS hlen k=>?_,fun ns hlen=>?_⟩
 ·refine⟨_,rfl,p0,ns,_,rfl,hS,hlen,by decide,by decide,fun d l H1 fd fl D1 s1=>?_⟩
  exact k d l H1 fd fl D1 s1
 ·refine⟨rfl,fun W kw m1 m2 fs ok hks hfs=>?_⟩
  have hnp:=ok.np;have prim:(L2.T.t (W.prs.map fun p=>L2.T.t [.s p.1,p.2])).im=true:=bW fun t ht=>by
   obtain⟨p,h,rfl⟩:=XC.mp ht;show(true&&(p.2.im&&true))=true;rw[ok.prs p h];rfl
  refine⟨W.ks,rfl,?_⟩;rw[hks];refine⟨_,rfl,(by show(true&&(((true&&(true&&true))&&((true&&(L2.T.ims (fs.map .s)&&true))&&true))&&true))=true;rw[hV];rfl),_,rfl,?_⟩
  refine⟨_,rfl,_,rfl,hV fs,?_⟩;refine⟨_,rfl,_,rfl,_,rfl,prim,?_⟩;obtain⟨MK,hMK⟩:∃ MK:L2.T,MK = .t [.t [.s m1,.t []],.t [.s m2,.t (fs.map .s)]]:=⟨_,rfl⟩
  refine⟨fun i q=>∃(L:List L2.T)(o7 o8:Sl),q = [.r (.z ns),.r .og,.o W.t,.r (.s kw),.r MK,.o (.t (fs.map .s)),.o (.l L),o7,o8,.no,.no,.no,.no,.no,.no,.no]/\L.length=i/\∀ v∈L,Sml v,⟨[],_,_,by rw[hMK];rfl,rfl,fun _ h=>nomatch h⟩,?_,?_⟩
  ·rintro i y q hy ⟨L,o7,o8,rfl,hL,hs⟩
   subst hMK;have hi:=(VZ.mp hy).1;rw[PZ]at hi;have hi:i<W.prs.length:=hi;refine⟨_,rfl,?_⟩;refine⟨by decide,by decide,fun d d0 d1=>?_⟩
   obtain⟨x,ex,hx⟩:=CY (xs:=[3,60]) d0 d1;have hx:x=3\/x=60:=by simpa using hx
   refine⟨_,ex,by omega,by omega,fun n n0 n1=>?_⟩
   refine⟨aW (by omega),_,rfl,_,rfl,_,rfl,_,rfl,m2,m1,_,_,rfl,?_,by omega,by omega,fun v hv=>?_⟩
   ·rw[PZ];omega
   ·refine⟨L ++ [v],_,_,rfl,by rw[Xl,hL];rfl,fun u hu=>?_⟩
    rcases Xj.mp hu with z|z
    ·exact hs u z
    ·rw[qr.mp z];exact hv
  ·rintro q ⟨L,o7,o8,rfl,hL,hs⟩
   have av:W.Args L:=⟨by rw[hL,PZ];rfl,hs⟩
   have gd:=av.gd ok;refine⟨W,L,rfl,ok,av,fun D mk he=>?_,fun hl=>?_⟩
   ·refine⟨rfl,_,rfl,?_⟩;refine⟨W,L,rfl,ok,av,fun D' mk' he'=>?_,fun hl=>?_⟩
    ·obtain⟨rfl,rfl⟩:=he.eq he';refine⟨rfl,rfl,3,by decide,gq (IT .i IS),fun ca hca=>?_⟩
     obtain rfl:=hca.mpr rfl;refine⟨cp9,W,L,_,D',mk',rfl,ok,av,by decide,he,?_⟩
     refine⟨rfl,rfl,rfl,3,by decide,gq fun z hz=>?_,fun ca hca=>?_⟩
     ·rcases QH.mp hz with rfl|hz
      ·exact IS
      ·exact IT .i .i z hz
     obtain rfl:=hca.mpr rfl;refine⟨cp9,rfl,by decide,by decide,fun d d0 d1=>?_⟩
     obtain⟨c,ec,_⟩:=CY (xs:=[10 ^ (9:Int).toNat,-(W.lo (W.a0 L) D'),(if(0:Int) > -(W.lo (W.a0 L) D') - 1 then 0 else -(W.lo (W.a0 L) D') - 1)]) d0 d1
     refine⟨_,ec,fun x0=>?_⟩
     refine⟨x0,W.ks,[W.g],0,W.g,L,_,c,rfl,ok.fns,rfl,(by show W.prs.length<=100;omega),av.im,ok.ks,.inr ⟨rfl,.inr rfl⟩,fun x=>⟨rfl,rfl,?_⟩⟩
     rw[Gw.wk0];refine⟨W.ks,[W.g],0,W.g,L,_,c,rfl,ok.fns,rfl,(by show W.prs.length<=100;omega),av.im,av.pl,.inr ⟨rfl,.inr rfl⟩,fun o ws=>?_⟩
     rw[Gw.lw0];obtain⟨e9,h9⟩:∃ e9:L2.T,e9=grT mk':=⟨_,rfl⟩
     obtain⟨e10,h10⟩:∃ e10:L2.T,e10 = .i (-W.lo (W.a0 L) D'):=⟨_,rfl⟩
     obtain⟨e11,h11⟩:∃ e11:L2.T,e11 = .i ((D'+1:Nat):Int):=⟨_,rfl⟩
     obtain⟨e12,h12⟩:∃ e12:L2.T,e12 = .i (1000000000+W.sm (W.a0 L) D'):=⟨_,rfl⟩
     obtain⟨Z,hZ⟩:∃ Z:Nat->Sq->Prop,Z=fun n q=>(∃(k:Nat)(frs:List L2.T)(x:Addr)(stk:List L2.T)(o:Obj)(ws:List (Key×V)),q = [.r (.z ns),.r .og,.o W.t,.r (.s kw),.r MK,.o (.t (fs.map .s)),.o (.l L),o7,o8,.r e9,.r e10,.r e11,.r e12,.o (.i c),.o (W.wk (W.a0 L) c a.aA a.az x0 frs x k),.o (.d (W.lw (W.a0 L) c stk o ws k))]/\frs.length<=k/\xS stk k/\W.Al (W.a0 L) c k/\k+n=D'+1) \/
      (∃(cc s:Int)(ps:List L2.T),q = [.r (.z ns),.r .og,.o W.t,.r (.s kw),.r MK,.o (.t (fs.map .s)),.o (.l L),o7,o8,.r e9,.r e10,.r e11,.r e12,.o (.i c),.o (wT a.aA x0 (.t ([W.g].map Fn.t)) [] cc s (.t ps)),.o (.d (stT [] cc s (.t ps)))]/\BH ps/\n=0):=⟨_,rfl⟩
     have hD:=he.lt;refine⟨Z,⟨D'+1,?_⟩,?_⟩
     ·rw[hZ];exact .inl ⟨0,[],x,[],o,ws,by rw[h9,h10,h11,h12];rfl,Xa _,.nil,.zero,by omega⟩
     intro n q hw;rw[hZ]at hw;rcases hw with⟨k,frs,x,stk,o,ws,rfl,hf,hst,al,hm⟩ |⟨cc,st,ps,rfl,hps,rfl⟩
     ·have hkD:=he.le al;refine⟨_,rfl,?_⟩;refine⟨fun q'=>∃ n',n'<n/\Z n' q',fun q' h=>h,?_⟩
      refine⟨rfl,fun p=>⟨ok.im,rfl,?_⟩⟩
      refine Gw.step (W:=W) (a0:=W.a0 L) (c0:=c) (p:=p) (stk:=stk) (o:=o) (vs:=ws) (k:=k) ok gd al hst (by omega) (fun q e=>?_) (fun m' e e0=>?_) (fun al' Dk o' ws' um=>?_)
      ·refine⟨rfl,rfl,rfl,?_⟩;refine Gw.turn (W:=W) (a0:=W.a0 L) (c0:=c) (x0:=x0) (x:=x) (frs:=frs) (k:=k) ok gd al hf (by omega) (fun q' e'=>?_) (fun m' e' e1=>?_) (fun al' ur x' hf'=>?_)
       ·rw[e]at e';cases e';have fp:BH [.s "short",.i q]:=.inr ⟨q,rfl⟩;refine⟨rfl,rfl,_,rfl,?_⟩;refine⟨_,rfl,rfl,bY (fun g=>absurd g ne_self) fun _=>?_⟩
        refine⟨rfl,rfl,x0,_,_,_,_,_,rfl,rfl,_,rfl,rfl,bY (fun g=>absurd g ne_self) fun _=>?_⟩
        refine⟨rfl,rfl,x0,_,_,_,_,_,rfl,rfl,_,rfl,rfl,bY (fun g=>absurd g ne_self) fun _=>?_⟩
        refine⟨rfl,rfl,x0,_,_,_,_,_,rfl,rfl,_,rfl,1,by decide,gq fp.dep,fun ca hca=>?_⟩
        obtain rfl:=hca.mpr rfl;refine⟨0,by omega,?_⟩
        rw[hZ];exact .inr ⟨_,_,_,rfl,fp,rfl⟩
       ·rw[e]at e1;cases e1
       ·have:=al'.s k (XE k);rw[e]at this;cases this
      ·refine⟨rfl,rfl,rfl,?_⟩;refine Gw.turn (W:=W) (a0:=W.a0 L) (c0:=c) (x0:=x0) (x:=x) (frs:=frs) (k:=k) ok gd al hf (by omega) (fun q' e'=>?_) (fun m'' e' e1=>?_) (fun al' ur x' hf'=>?_)
       ·rw[e0]at e';cases e'
       ·rw[e]at e';cases e';have fp:BH [.s "great",.s m']:=.inl ⟨m',rfl⟩;refine⟨rfl,rfl,_,rfl,?_⟩;refine⟨_,rfl,rfl,bY (fun g=>absurd g ne_self) fun _=>?_⟩
        refine⟨rfl,rfl,x0,_,_,_,_,_,rfl,rfl,_,rfl,rfl,bY (fun g=>absurd g ne_self) fun _=>?_⟩
        refine⟨rfl,rfl,x0,_,_,_,_,_,rfl,rfl,_,rfl,rfl,bY (fun g=>absurd g ne_self) fun _=>?_⟩
        refine⟨rfl,rfl,x0,_,_,_,_,_,rfl,rfl,_,rfl,1,by decide,gq fp.dep,fun ca hca=>?_⟩
        obtain rfl:=hca.mpr rfl;refine⟨0,by omega,?_⟩
        rw[hZ];exact .inr ⟨_,_,_,rfl,fp,rfl⟩
       ·have:=al'.g k (XE k);rw[e]at this;cases this
      ·refine⟨rfl,rfl,rfl,?_⟩;refine Gw.turn (W:=W) (a0:=W.a0 L) (c0:=c) (x0:=x0) (x:=x) (frs:=frs) (k:=k) ok gd al hf (by omega) (fun q' e'=>?_) (fun m'' e' e1=>?_) (fun _ ur x' hf'=>?_)
       ·rw[al'.s k (XE k)]at e';cases e'
       ·rw[al'.g k (XE k)]at e';cases e'
       ·refine⟨rfl,rfl,_,rfl,?_⟩;refine⟨_,rfl,rfl,bY (fun g=>absurd g ne_self) fun _=>?_⟩
        refine⟨rfl,rfl,x0,_,_,_,_,_,rfl,rfl,_,rfl,rfl,bY (fun g=>absurd g ne_self) fun _=>?_⟩
        refine⟨rfl,rfl,x0,_,_,_,_,_,rfl,rfl,_,rfl,rfl,bY (fun g=>absurd g ne_self) fun _=>?_⟩
        refine⟨rfl,rfl,x0,_,_,_,_,_,rfl,rfl,_,rfl,rfl,bY (fun g=>absurd g ne_self) fun _=>?_⟩
        have:=he.le al'
        refine⟨n - 1,by omega,?_⟩
        rw[hZ];exact .inl ⟨k+1,ur,x',Dk,o',ws',rfl,hf',um,al',by omega⟩
     ·refine⟨_,rfl,?_⟩;refine⟨rfl,rfl,rfl,.inr ⟨x0,_,cc,st,ps,rfl,hps.im,rfl,rfl,_,rfl,?_⟩⟩;refine⟨rfl,rfl,x0,_,_,_,_,rfl,?_⟩;refine⟨rfl,rfl,x0,_,_,_,_,_,rfl,hps.im,_,rfl,rfl,bY (fun _=>?_) fun g=>absurd (decide_eq_true rfl) g⟩
      refine⟨rfl,rfl,x0,_,_,_,_,_,rfl,hps.im,_,rfl,1,by decide,gq hps.dep,fun ca hca=>?_⟩
      obtain rfl:=hca.mpr rfl;rfl
    ·have:=hl D he.lt
     rw[he.gr]at this;cases this
   ·refine⟨rfl,_,rfl,?_⟩;refine⟨W,L,rfl,ok,av,fun D mk he=>?_,fun _=>?_⟩
    ·have:=hl D he.lt
     rw[he.gr]at this;cases this
    ·refine⟨_,rfl,1,by decide,gq fun z hz=>?_,fun ca hca=>?_⟩
     ·rw[qr.mp hz];exact .s
     ·obtain rfl:=hca.mpr rfl;rfl
end
theorem all_mk{l:W.OpenLaw}{w:World}{K:W.Frag}{h:Heap}{fa:Addr}(X:K.In h)(G:h.Ns mainGlobals mg)(hfa:mg "law" = some (.ref fa))
  {a8:Addr} (wj:W.nsIn K mainGlobals "Spot" = some (some (.ref a8))) (wF:W.plainGet K a8 Str.empty=true) (wC:W.hasDictIn K a8=true) (wA:W.plainOver K a8=true)
  (wx:W.findIn K (.ref a8) "__setattr__" = some (some (.builtin "object.__setattr__"))) (wt:W.makesIn K a8=true) (wo:W.keepIn K (.ref a8)=true)
  (iF:W.findIn K (.ref a8) "piece" = some none)
  (iG:W.findIn K (.ref a8) "above" = some none)
  (kx:W.findIn K (.ref a8) "arm" = some none)
  (fc:W.findIn K (.ref a8) "__init__" = some (some (.ref bP))) (jw:LK K bP "__init__" "Spot.__init__" jg L8 L1 Ml MN Lw M7 xx MT Kq) (jC:CI K xx "Spot.__init__") (gi:KI K bP) (gf:W.isFn K (.ref bP)=true)
  {az:Addr} (rT:W.nsIn K mainGlobals "Frame" = some (some (.ref az))) (r8:W.plainGet K az Str.empty=true) (rZ:W.hasDictIn K az=true) (rY:W.plainOver K az=true)
  (rX:W.findIn K (.ref az) "__setattr__" = some (some (.builtin "object.__setattr__"))) (rW:W.makesIn K az=true) (rV:W.keepIn K (.ref az)=true)
  (mM:W.findIn K (.ref az) "f" = some none)
  (fK:W.findIn K (.ref az) "number" = some none)
  (gJ:W.findIn K (.ref az) "piece" = some none)
  (gK:W.findIn K (.ref az) "names" = some none)
  (dQ:W.findIn K (.ref az) "__init__" = some (some (.ref bz))) (iD:LK K bz "__init__" "Frame.__init__" iw JU JR JY J1 JO J7 uw J4 JL) (iJ:CI K uw "Frame.__init__") (fg:KI K bz) (e8:W.isFn K (.ref bz)=true)
  (cS:W.findIn K (.ref az) "values_at" = some (some (.ref a5))) (di:LK K a5 "values_at" "Frame.values_at" dg AL AK A9 Bi AB Bt mX Bj z8) (dn:CI K mX "Frame.values_at") (cg:KI K a5) (dh:W.isFn K (.ref a5)=true)
  (fG:W.findIn K (.ref az) "go_on" = some (some (.ref bB))) (gH:LK K bB "go_on" "Frame.go_on" gy HN HL Ig IW Hs Jt sX Je F6) (gM:CI K sX "Frame.go_on") (dS:KI K bB) (gD:W.isFn K (.ref bB)=true)
  (cC:W.findIn K (.ref az) "go_on_with" = some (some (.ref aV))) (cT:LK K aV "go_on_with" "Frame.go_on_with" cO zP zO zQ zR zN zT mh zS zM) (cU:CI K mh "Frame.go_on_with") (bU:KI K aV) (cR:W.isFn K (.ref aV)=true)
  (cf:W.findIn K (.ref az) "go_on_in_arm" = some (some (.ref aO))) (cu:LK K aO "go_on_in_arm" "Frame.go_on_in_arm" d9 x4 x3 x5 x6 xZ x9 j4 x8 xY) (cv:CI K j4 "Frame.go_on_in_arm") (bF:KI K aO) (cq:W.isFn K (.ref aO)=true)
  {aA:Addr} (wg:W.nsIn K mainGlobals "Walk" = some (some (.ref aA))) (wD:W.plainGet K aA Str.empty=true) (wB:W.hasDictIn K aA=true) (wz:W.plainOver K aA=true)
  (wu:W.findIn K (.ref aA) "__setattr__" = some (some (.builtin "object.__setattr__"))) (wq:W.makesIn K aA=true) (wm:W.keepIn K (.ref aA)=true)
  (dU:W.findIn K (.ref aA) "functions" = some none)
  (fJ:W.findIn K (.ref aA) "running" = some none)
  (iE:W.findIn K (.ref aA) "coins" = some none)
  (jy:W.findIn K (.ref aA) "done" = some none)
  (gI:W.findIn K (.ref aA) "ending" = some none)
  (fb:W.findIn K (.ref aA) "__init__" = some (some (.ref bO))) (jv:LK K bO "__init__" "Walk.__init__" jf L7 L0 Mj MM Lv M6 xw MS Ko) (jB:CI K xw "Walk.__init__") (gh:KI K bO) (gc:W.isFn K (.ref bO)=true)
  (iA:W.findIn K (.ref aA) "turn" = some (some (.ref b8))) (ju:LK K b8 "turn" "Walk.turn" je L6 LZ Mi ML Lu M5 xv MR Kn) (jA:CI K xv "Walk.turn") (gg:KI K b8) (js:W.isFn K (.ref b8)=true)
  (fF:W.findIn K (.ref aA) "frames" = some (some (.ref bA))) (gG:LK K bA "frames" "Walk.frames" gx HM HK Ie IV Hr Js sW Jd F5) (gL:CI K sW "Walk.frames") (dR:KI K bA) (gC:W.isFn K (.ref bA)=true)
  (gF:W.findIn K (.ref aA) "purse" = some (some (.ref bN))) (iC:LK K bN "purse" "Walk.purse" iu JT JQ JX J0 JN J6 uv J3 JK) (iI:CI K uv "Walk.purse") (ff:KI K bN) (iz:W.isFn K (.ref bN)=true)
  (gE:W.findIn K (.ref aA) "steps" = some (some (.ref bM))) (iB:LK K bM "steps" "Walk.steps" ip JS JP JW JZ JM J5 uu J2 JJ) (iH:CI K uu "Walk.steps") (fe:KI K bM) (iy:W.isFn K (.ref bM)=true)
  (jt:W.findIn K (.ref aA) "end" = some (some (.ref cG))) (ku:LK K cG "end" "Walk.end" kc NV NT NY N3 NO Oa zt N7 Nz) (kA:CI K zt "Walk.end") (ia:KI K cG) (kq:W.isFn K (.ref cG)=true)
  (kr:W.findIn K (.ref aA) "do" = some (some (.ref dA))) (mK:LK K dA "do" "Walk.do" my Pr Pq PR Qf O7 Qn Bl Qh Ox) (mO:CI K Bl "Walk.do") (jx:KI K dA) (mI:W.isFn K (.ref dA)=true)
  (eQ:W.findIn K (.ref aA) "do_give" = some (some (.ref bp))) (fI:LK K bp "do_give" "Walk.do_give" jQ E7 E4 Fb Ff EZ Fo qg Fj EW) (fM:CI K qg "Walk.do_give") (da:KI K bp) (fE:W.isFn K (.ref bp)=true)
  (eO:W.findIn K (.ref aA) "do_make" = some (some (.ref bo))) (fH:LK K bo "do_make" "Walk.do_make" fB E6 E2 E9 Fe EY Fm qf Fh EV) (fL:CI K qf "Walk.do_make") (c9:KI K bo) (fD:W.isFn K (.ref bo)=true)
  (dO:W.findIn K (.ref aA) "do_coins" = some (some (.ref bf))) (eT:LK K bf "do_coins" "Walk.do_coins" er D3 DX Eg Et DL ES pj EA Dr) (eY:CI K pj "Walk.do_coins") (cM:KI K bf) (eJ:W.isFn K (.ref bf)=true)
  (dN:W.findIn K (.ref aA) "end_with" = some (some (.ref bc))) (eR:LK K bc "end_with" "Walk.end_with" eh DZ DW Ef Er DK ER ph Ez Dp) (eV:CI K ph "Walk.end_with") (cL:KI K bc) (eI:W.isFn K (.ref bc)=true)
  (lj:NI K "number_of" dw) (kJ:LK K dw "number_of" "number_of" kg L3 LV Mf MH Lp M1 xr MO Kk) (k7:CI K xr "number_of") (kN:KI K dw)
  (xK:NI K "spots" lR) (wV:LK K lR "spots" "spots" vL Ta S3 Tz Ud SN UC Jg Uo RJ) (xB:CI K Jg "spots") (xa:KI K lR)
  (fV:NI K "spots_beneath" bI) (fP:LK K bI "spots_beneath" "spots_beneath" fC DY DV Ee Ep DJ EO pf Ey Dm) (fU:CI K pf "spots_beneath") (fQ:KI K bI)
  (tJ:NI K "pieces" ja) (sD:LK K ja "pieces" "pieces" rg Q0 QU Q9 Rg QM Rr ED Rl Qz) (tm:CI K ED "pieces") (sI:KI K ja)
  (lr:NI K "makers_in" dy) (kK:LK K dy "makers_in" "makers_in" kh L4 LW Mg MI Lq M3 xt MP Kl) (k8:CI K xt "makers_in") (kO:KI K dy)
  (Bx:NI K "size" oW) (A0:LK K oW "size" "size" Ag Vc U7 Vh Vn U2 Vx MV Vs UX) (Bo:CI K MV "size") (k_size:KI K oW)
  (xO:NI K "depth" lU) (wY:LK K lU "depth" "depth" vN Td S6 TJ Uh SR UG Jk Ur RM) (xE:CI K Jk "depth") (xf:KI K lU)
  (Jv:NI K "ran" u6) (HZ:LK K u6 "ran" "ran" Gr VU VS Wa WI VQ WN Qi WJ VC) (Jn:CI K Qi "ran") (Ib:KI K u6)
  (By:NI K "need" oX) (A1:LK K oX "need" "need" Ah Vd U8 Vi Vo U3 Vy MW Vt UY) (Bp:CI K MW "need") (A6:KI K oX)
  (m3:NI K "end_told" e6) (mR:LK K e6 "end_told" "end_told" mD NU NS NX N2 NN N9 zr N6 Ny) (mY:CI K zr "end_told") (mS:KI K e6)
  (g7:NI K "greatest_pay" bZ) (gR:LK K bZ "greatest_pay" "greatest_pay" gB E5 E1 E8 Fd EX Fl p9 Fg EU) (gZ:CI K p9 "greatest_pay") (gS:KI K bZ)
  (BA:NI K "_law_deal" oZ) (A3:LK K oZ "_law_deal" "_law_deal" Aj Vf Va Vk Vq U5 VA MY Vv U0) (Br:CI K MY "_law_deal") (A8:KI K oZ)
  (Bz:NI K "_law_draw" oY) (A2:LK K oY "_law_draw" "_law_draw" Ai Ve U9 Vj Vp U4 Vz MX Vu UZ) (Bq:CI K MX "_law_draw") (A7:KI K oY)
  (xJ:NI K "_law_words" lQ) (wU:LK K lQ "_law_words" "_law_words" vK S9 S2 Tx Uc SM UB Jf Um RI) (xA:CI K Jf "_law_words") (w6:KI K lQ)
  (tK:NI K "_law_listed" jb) (sE:LK K jb "_law_listed" "_law_listed" rh Q5 QV Ra Rh QN Rt EE Rm QD) (tu:CI K EE "_law_listed") (sJ:KI K jb)
  (xM:NI K "_law_sizes" lS) (wW:LK K lS "_law_sizes" "_law_sizes" vM Tb S4 TB Ue SO UD Jh Up RK) (xC:CI K Jh "_law_sizes") (k_sizes:KI K lS)
  (xQ:NI K "_law_begun" lX) (w5:LK K lX "_law_begun" "_law_begun" vP Tf S8 TL Uj SU UI Jm Ut RO) (xG:CI K Jm "_law_begun") (xh:KI K lX)
  (Qo:NI K "_law_on" Em) (PD:LK K Em "_law_on" "_law_on" OB WY WX WZ W3 WV W6 Uv W4 WU) (Qj:CI K Uv "_law_on") (PN:KI K Em)
  (tL:NI K "_law_halted" jc) (sF:LK K jc "_law_halted" "_law_halted" rj Q6 QW Rb Ri QP Ru EF Rn QF) (tw:CI K EF "_law_halted") (sL:KI K jc)
  (xN:NI K "_law_given" lT) (wX:LK K lT "_law_given" "_law_given" BX Tc S5 TC Ug SQ UE Jj Uq RL) (xD:CI K Jj "_law_given") (xb:KI K lT)
  (lu:NI K "_law_case_step" dz) (kL:LK K dz "_law_case_step" "_law_case_step" pE L5 LX Mh MJ Lr M4 xu MQ Km) (k9:CI K xu "_law_case_step") (kP:KI K dz)
  (Bw:NI K "_law_step" oV) (AZ:LK K oV "_law_step" "_law_step" Af Vb U6 Vg Vm U1 Vw MU Vr UW) (Bn:CI K MU "_law_step") (A5:KI K oV)
  (tM:NI K "_law_grower" jd) (sG:LK K jd "_law_grower" "_law_grower" rn Q7 QY Rc Rj QQ Rv EG Ro QG) (tD:CI K EG "_law_grower") (sM:KI K jd)
  (xP:NI K "_law_chain" lV) (wZ:LK K lV "_law_chain" "_law_chain" vO Te S7 TK Ui SS UH Jl Us RN) (xF:CI K Jl "_law_chain") (xg:KI K lV)
  (tI:NI K "_law_plenty" i9) (sC:LK K i9 "_law_plenty" "_law_plenty" q9 QZ QR Q8 Rf QK Rq EC Rk Qy) (tj:CI K EC "_law_plenty") (sH:KI K i9)
  (C0:NI K "law" u7) (H0:LK K u7 "law" "law" pC VW VT PQ Qe O6 Qm Ji Qg VD) (Jo:CI K Ji "law") (Ic:KI K u7)
  (FD:W.nsIn K mainGlobals "len" = some none)
  (FF:W.nsIn K mainGlobals "all" = some none)
  (zU:W.nsIn K mainGlobals "list" = some none)
  (vq:W.nsIn K mainGlobals "tuple" = some none)
  (FE:W.nsIn K mainGlobals "int" = some none)
  (zV:W.nsIn K mainGlobals "dict" = some none)
  (mx:W.nsIn K mainGlobals "reversed" = some none)
  (FC:W.nsIn K mainGlobals "max" = some none)
  (FA:W.nsIn K mainGlobals "min" = some none)
  (Fv:W.nsIn K mainGlobals "sum" = some none)
  (vt:W.nsIn K mainGlobals "range" = some none)
  (Ft:W.nsIn K mainGlobals "zip" = some none)
  (ka:W.nsIn K mainGlobals "enumerate" = some none)
  {tX:Tok} (il:W.nsIn K mainGlobals "MOST_MAKERS" = some (some (.int 200 tX)))
  {tW:Tok} (ik:W.nsIn K mainGlobals "MOST_WITHIN" = some (some (.int 60 tW)))
  : ∃ fd:FuncData,(∀(s:Shared)(v:Value),BindsTo s fd ⟨[v],[]⟩ [("_law_script",v)])/\∀ base:Heap,K.In base->base.Ns mainGlobals mg->aP l.prog w K mg base CX0 100 fa fd ["_law_script"] (qS K):=by
 have e:=hfa.symm.trans (W.mg_of X G C0);cases e;have pO:=aM kJ k7 kN;have C2:=aM wV xB xa;have jW:=aM fP fU fQ;have zF:=aM sD tm sI;have pP:=aM kK k8 kO;have JC:=aM A0 Bo k_size;have C5:=aM wY xE xf;have Od:=aM HZ Jn Ib;have JD:=aM A1 Bp A6;have tS:=aM mR mY mS;have lC:=aM gR gZ gS;have JF:=aM A3 Br A8;have JE:=aM A2 Bq A7;have C1:=aM wU xA w6;have zG:=aM sE tu sJ;have C3:=aM wW xC k_sizes;have C7:=aM w5 xG xh;have US:=aM PD Qj PN;have zH:=aM sF tw sL;have C4:=aM wX xD xb;have pQ:=aM kL k9 kP;have JB:=aM AZ Bn A5;have zI:=aM sG tD sM;have C6:=aM wZ xF xg;have zE:=aM sC tj sH;have Oe:=aM H0 Jo Ic;have ij:=aM jw jC gi;have gp:=aM iD iJ fg;have cA:=aM di dn cg;have fj:=aM gH gM dS;have ck:=aM cT cU bU;have cJ:=aM cu cv bF;have ig:=aM jv jB gh;have ie:=aM ju jA gg;have fi:=aM gG gL dR;have gn:=aM iC iI ff;have gm:=aM iB iH fe;have jO:=aM ku kA ia;have l9:=aM mK mO jx;have g8:=aM fI fM da;have d8:=aM fH fL c9;have df:=aM eT eY cM;have de:=aM eR eV cL;have T:Txt K mg ⟨a8,bP,_,az,bz,_,a5,_,bB,_,aV,_,aO,_,aA,bO,_,b8,_,bA,_,bN,_,bM,_,cG,_,dA,_,bp,_,bo,_,bf,_,bc,_,dw,_,lR,_,bI,_,ja,_,dy,_,oW,_,lU,_,u6,_,oX,_,e6,_,bZ,_,oZ,_,oY,_,lQ,_,jb,_,lS,_,lX,_,Em,_,jc,_,lT,_,dz,_,oV,_,jd,_,lV,_,i9,_,u7,_⟩:=⟨⟨wF,wC,wA,wx⟩,W.mg_of X G wj,⟨wt,fc,gf,wo⟩,iF,iG,kx,ij,⟨fc,gf,gi⟩,ij.b4,⟨r8,rZ,rY,rX⟩,W.mg_of X G rT,⟨rW,dQ,e8,rV⟩,mM,fK,gJ,gK,gp,⟨dQ,e8,fg⟩,gp.b4,cA,⟨cS,dh,cg⟩,cA.b2,fj,⟨fG,gD,dS⟩,fj.b3,ck,⟨cC,cR,bU⟩,ck.b2,cJ,⟨cf,cq,bF⟩,cJ.b1,⟨wD,wB,wz,wu⟩,W.mg_of X G wg,⟨wq,fb,gc,wm⟩,dU,fJ,iE,jy,gI,ig,⟨fb,gc,gh⟩,ig.b5,ie,⟨iA,js,gg⟩,ie.b1,fi,⟨fF,gC,dR⟩,fi.b1,gn,⟨gF,iz,ff⟩,gn.b1,gm,⟨gE,iy,fe⟩,gm.b1,jO,⟨jt,kq,ia⟩,jO.b1,l9,⟨kr,mI,jx⟩,l9.b2,g8,⟨eQ,fE,da⟩,g8.b2,d8,⟨eO,fD,c9⟩,d8.b2,df,⟨dO,eJ,cM⟩,df.b3,de,⟨dN,eI,cL⟩,de.b2,⟨pO,W.mg_of X G lj,pO.b2⟩,⟨C2,W.mg_of X G xK,C2.b1⟩,⟨jW,W.mg_of X G fV,jW.b2⟩,⟨zF,W.mg_of X G tJ,zF.b1⟩,⟨pP,W.mg_of X G lr,pP.b1⟩,⟨JC,W.mg_of X G Bx,JC.b1⟩,⟨C5,W.mg_of X G xO,C5.b1⟩,⟨Od,W.mg_of X G Jv,Od.b5⟩,⟨JD,W.mg_of X G By,JD.b4⟩,⟨tS,W.mg_of X G m3,tS.b1⟩,⟨lC,W.mg_of X G g7,lC.b1⟩,⟨JF,W.mg_of X G BA,JF.b2⟩,⟨JE,W.mg_of X G Bz,JE.b2⟩,⟨C1,W.mg_of X G xJ,C1.b2⟩,⟨zG,W.mg_of X G tK,zG.b1⟩,⟨C3,W.mg_of X G xM,C3.b1⟩,⟨C7,W.mg_of X G xQ,C7.b4⟩,⟨US,W.mg_of X G Qo,US.b4⟩,⟨zH,W.mg_of X G tL,zH.b2⟩,⟨C4,W.mg_of X G xN,C4.b3⟩,⟨pQ,W.mg_of X G lu,pQ.b4⟩,⟨JB,W.mg_of X G Bw,JB.b2⟩,⟨zI,W.mg_of X G tM,zI.b1⟩,⟨C6,W.mg_of X G xP,C6.b4⟩,⟨zE,W.mg_of X G tI,zE.b3⟩,⟨Oe,W.mg_of X G C0,Oe.b1⟩,W.mg_none_of X G FD,W.mg_none_of X G FF,W.mg_none_of X G zU,W.mg_none_of X G vq,W.mg_none_of X G FE,W.mg_none_of X G zV,W.mg_none_of X G mx,W.mg_none_of X G FC,W.mg_none_of X G FA,W.mg_none_of X G Fv,W.mg_none_of X G vt,W.mg_none_of X G Ft,W.mg_none_of X G ka,⟨_,W.mg_of X G il⟩,⟨_,W.mg_of X G ik⟩⟩;exact⟨W.fnOf "law" "law" (dZ pC) (bG pC) (ao pC) .none PQ Qe O6 Qm Ji Qg,fun s v=>.of_eq rfl,fun base _ _=>Pp T⟩
theorem walk{l:W.OpenLaw}{q:Program}{loose:List Str}{XP:(Str->Option Value)->Heap->Prop}{YP:World->Heap->Prop}{d:DefRec}{K:Params->W.Frag}(hn:l.most=some 63)(hdf:d.params.defaults = [])
  (hY:∀(w:World)(h:Heap),YP w h ->(K w.params).In h)
  (F:∀(w:World)(mg:Str->Option Value)(fa:Addr)(h:Heap),(K w.params).In h->h.Ns mainGlobals mg->mg d.name=some (.ref fa) ->
   ∃ fd:FuncData,(∀(s:Shared)(u:Value),BindsTo s fd ⟨[u],[]⟩ [("_law_script",u)])/\∀ base:Heap,(K w.params).In base->base.Ns mainGlobals mg->aP l.prog w (K w.params) mg base CX0 100 fa fd ["_law_script"] (qS (K w.params))) :
  W.WalkO q loose XP YP l.row.toRowW d [] (fun f vs=>PySem.call f vs) :=
 L2.Kc (n:=63) (k:=100) (x:="_law_script") (CX:=fun _=>CX0) (sp:=fun w=>qS (K w.params)) hn (by decide) hdf ⟨rfl,by decide,by decide⟩ hY F (fun _ _ a ns hl hO hS=>⟨a,ns,rfl,T7 hO hS,hl,fun _=>rfl⟩) fun _ _ _ _ _ z=>z
end K21
namespace PySem.W.Fast
def tw1013778781017426652:=()
def tw10217145675374108569:=()
def tw10221119501049136366:=()
def tw10234368720493730769:=()
def tw10296613129884097731:=()
def tw10404742455505151090:=()
def tw105454242057770677:=()
def tw10594387167651764880:=()
def tw10738800364594354042:=()
def tw10850638454872472808:=()
def tw10919729951165242825:=()
def tw10968491865173858395:=()
def tw11162341194344775588:=()
def tw1120595417222271235:=()
def tw11250997377946488091:=()
def tw11284084107875393898:=()
def tw11407130556396607256:=()
def tw11427267854456028700:=()
def tw11552084609293203611:=()
def tw11669204017782919029:=()
def tw1171457099196020994:=()
def tw11764322529312073474:=()
def tw1176536957015365070:=()
def tw11818707847989471804:=()
def tw11838204725624195889:=()
def tw11980412860152166274:=()
def tw12035716992648639712:=()
def tw12104149568076571509:=()
def tw12105912446217313942:=()
def tw12132790695275570164:=()
def tw1222705030769319555:=()
def tw12303969487006907847:=()
def tw1285798610494958314:=()
def tw12980654333271301697:=()
def tw13154899710932501434:=()
def tw13249962964322596603:=()
def tw1328379653594432790:=()
def tw13324707209080678669:=()
def tw13451305963253453316:=()
def tw1350042694303802091:=()
def tw13614305196662112092:=()
def tw13768214303815953909:=()
def tw13875453128892280776:=()
def tw13969039384104752500:=()
def tw1417261715403638130:=()
def tw14236535487018063409:=()
def tw14360154647393303099:=()
def tw1444177147018104218:=()
def tw14486614020667513902:=()
def tw14628527544694441546:=()
def tw14629109473214490851:=()
def tw14641395695441112198:=()
def tw14663362818737239622:=()
def tw14743292398389038856:=()
def tw14759316463673662160:=()
def tw1483180014485388823:=()
def tw14873288709857567888:=()
def tw14889770581386704595:=()
def tw15191609817140873376:=()
def tw15295482478202468211:=()
def tw15495378376424731781:=()
def tw15583053984094187606:=()
def tw15664607087306279189:=()
def tw15807748298302937467:=()
def tw15864620038652244321:=()
def tw16125950186666367815:=()
def tw16188343884301400378:=()
def tw16217223876125242270:=()
def tw16356872649102032826:=()
def tw1636454737381266905:=()
def tw16505462625837069944:=()
def tw16571317947967174993:=()
def tw16651127282811782684:=()
def tw16766015092875974629:=()
def tw16827552492938754921:=()
def tw1686941392595920453:=()
def tw16917784858741433704:=()
def tw16983286251040976967:=()
def tw17011466759326876239:=()
def tw17304215676708782999:=()
def tw173359031602371159:=()
def tw17394843311213202279:=()
def tw17557230433667607869:=()
def tw17648472661237670780:=()
def tw17675610867012631433:=()
def tw1771551656232844182:=()
def tw17890007673752884121:=()
def tw17903487126467966570:=()
def tw17956230845665917678:=()
def tw18014585121835576080:=()
def tw18060986427088227054:=()
def tw18102320875774676810:=()
def tw18175905705359672430:=()
def tw18196228509832516830:=()
def tw18201397689756446117:=()
def tw18228417002375476727:=()
def tw18251831943545768531:=()
def tw18290969131887788449:=()
def tw18359126866297937977:=()
def tw18428283056408929509:=()
def tw1874241465523662011:=()
def tw1943415237831392422:=()
def tw1969224206345418586:=()
def tw2124573451280878188:=()
def tw2128463587488771025:=()
def tw2211181271305896811:=()
def tw2255660214130771585:=()
def tw2257758923285183048:=()
def tw2277275138631381986:=()
def tw2338280810486504772:=()
def tw257651861181069256:=()
def tw2598191908027861088:=()
def tw260228862701876091:=()
def tw2710776813967432060:=()
def tw2714664385301381407:=()
def tw2808430307224792412:=()
def tw2892472744521246455:=()
def tw3021825196174843030:=()
def tw3248294967661243923:=()
def tw3371239627410294208:=()
def tw3375473255686209935:=()
def tw3481898526357881913:=()
def tw3489023328368733392:=()
def tw351456930845543880:=()
def tw3527236298681299512:=()
def tw353142083265344149:=()
def tw3669202157747153608:=()
def tw3803403656780421857:=()
def tw3918093872905229405:=()
def tw3944193399787001005:=()
def tw3983328033633994193:=()
def tw4173738405631590118:=()
def tw4250479026762828178:=()
def tw4325666070480941211:=()
def tw433597466376081984:=()
def tw4455358671884274865:=()
def tw4498656607255198518:=()
def tw4506995775499080335:=()
def tw4558779020800753064:=()
def tw462037710493715662:=()
def tw4656769331839328387:=()
def tw4702775998636121302:=()
def tw474937962906585687:=()
def tw4818882996171554172:=()
def tw4837009281511979054:=()
def tw4880135045436387448:=()
def tw4899674295120582402:=()
def tw4899979784601892912:=()
def tw5024937957199770817:=()
def tw5121234677642964578:=()
def tw5196781920984505786:=()
def tw5229307679204448329:=()
def tw5251091737595860004:=()
def tw5314281591928307048:=()
def tw5381876209704500950:=()
def tw5406108037585942236:=()
def tw5430028749493460950:=()
def tw5485125571910414534:=()
def tw548968377806887332:=()
def tw5501128256696108045:=()
def tw5531661452551528796:=()
def tw5856498450767395847:=()
def tw5913731610464495958:=()
def tw5963766229189132009:=()
def tw6039295784200049025:=()
def tw6307674065036453687:=()
def tw6314009888067456587:=()
def tw6382564897679157391:=()
def tw6383961533852246621:=()
def tw6432274266533650129:=()
def tw6519452523846395575:=()
def tw6968281023016435273:=()
def tw6999218869782856616:=()
def tw7110576396787047290:=()
def tw7173163436926021416:=()
def tw7225311293804317756:=()
def tw7450668521907997914:=()
def tw7510985571857824361:=()
def tw7600859302428689512:=()
def tw7624545122649406749:=()
def tw7798234631244151949:=()
def tw7826008574517623210:=()
def tw7846431456994737370:=()
def tw7926311551519632299:=()
def tw7955366333733010135:=()
def tw8103783703906923295:=()
def tw8214087172222478737:=()
def tw8356794921490937194:=()
def tw8492754769654012056:=()
def tw8546158049266740303:=()
def tw8777897579563284715:=()
def tw8793734887616915016:=()
def tw882948858790272364:=()
def tw8927690306446991166:=()
def tw8945550050179053595:=()
def tw8964832754570336854:=()
def tw9013976457392157921:=()
def tw9154021950738910197:=()
def tw917119374227592546:=()
def tw925863389861586063:=()
def tw9368591686235392443:=()
def tw9369547255536101736:=()
def tw938836010996868293:=()
def tw941368979184237036:=()
def tw9787493703212967253:=()
def tw9795870661390835443:=()
def tw979749707190588536:=()
def tw9871029613637865958:=()
def tw9926925595508799101:=()
def tw9946205083987132544:=()
end PySem.W.Fast
open PySem PySem.W PyProof.Rows
set_option maxRecDepth 100000 in
set_option maxHeartbeats 0 in
theorem PySem.Challenge.cw_pursewright_k21_values_too_great_holds : PySem.Challenge.rw_pursewright_k21_values_too_great.Holds := by
 w_on;o_law;k_head;(case hw=>w_witness2)
 k_fill
 refine K21.walk (l:=PySem.Challenge.rw_pursewright_k21_values_too_great) rfl rfl (fun w h Y=>PySem.W.kIn_of Y) ?F
 case F =>
  intro w mg fa h KX G hmg;refine' K21.all_mk KX G hmg ?wj ?wF ?wC ?wA ?wx ?wt ?wo ?iF ?iG ?kx ?fc ?jw ?jC ?gi ?gf ?rT ?r8 ?rZ ?rY ?rX ?rW ?rV ?mM ?fK ?gJ ?gK ?dQ ?iD ?iJ ?fg ?e8 ?cS ?di ?dn ?cg ?dh ?fG ?gH ?gM ?dS ?gD ?cC ?cT ?cU ?bU ?cR ?cf ?cu ?cv ?bF ?cq ?wg ?wD ?wB ?wz ?wu ?wq ?wm ?dU ?fJ ?iE ?jy ?gI ?fb ?jv ?jB ?gh ?gc ?iA ?ju ?jA ?gg ?js ?fF ?gG ?gL ?dR ?gC ?gF ?iC ?iI ?ff ?iz ?gE ?iB ?iH ?fe ?iy ?jt ?ku ?kA ?ia ?kq ?kr ?mK ?mO ?jx ?mI ?eQ ?fI ?fM ?da ?fE ?eO ?fH ?fL ?c9 ?fD ?dO ?eT ?eY ?cM ?eJ ?dN ?eR ?eV ?cL ?eI ?lj ?kJ ?k7 ?kN ?xK ?wV ?xB ?xa ?fV ?fP ?fU ?fQ ?tJ ?sD ?tm ?sI ?lr ?kK ?k8 ?kO ?Bx ?A0 ?Bo ?k_size ?xO ?wY ?xE ?xf ?Jv ?HZ ?Jn ?Ib ?By ?A1 ?Bp ?A6 ?m3 ?mR ?mY ?mS ?g7 ?gR ?gZ ?gS ?BA ?A3 ?Br ?A8 ?Bz ?A2 ?Bq ?A7 ?xJ ?wU ?xA ?w6 ?tK ?sE ?tu ?sJ ?xM ?wW ?xC ?k_sizes ?xQ ?w5 ?xG ?xh ?Qo ?PD ?Qj ?PN ?tL ?sF ?tw ?sL ?xN ?wX ?xD ?xb ?lu ?kL ?k9 ?kP ?Bw ?AZ ?Bn ?A5 ?tM ?sG ?tD ?sM ?xP ?wZ ?xF ?xg ?tI ?sC ?tj ?sH ?C0 ?H0 ?Jo ?Ic ?FD ?FF ?zU ?vq ?FE ?zV ?mx ?FC ?FA ?Fv ?vt ?Ft ?ka ?il ?ik
  all_goals try delta L2.NI L2.LK L2.CI L2.KI
  all_goals try first|k_is|kernel_rfl
