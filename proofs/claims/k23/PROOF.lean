import PyProof.Rows.All
import Wide.All
import OpenK.AllK
import Wide.FinOn
import Lean
import PyProof.EqAt
import PyProof.EqKinds
import PyProof.TupleCall
import PyProof.InstStoreFacts
import PySem.Challenge.RW_pursewright_k23_how_runs_end
set_option Elab.async false
set_option linter.all false
set_option maxRecDepth 100000
local macro_rules|`(tactic|symm)=>`(tactic|exact ⟨rfl,rfl,rfl,by decide +kernel,rfl,by decide +kernel,by decide +kernel⟩)
open PySem renaming wpAny_bind→cO,starEach→kz,wpAny_pure→k4,sizeLine→mV,wpAny_call_entry→Es,wpAny_holding→E7,wpAny_Call_Name_kw→QR,plainId_quiet→QY,wpAny_specialOf→Rv,wpAny_updateSeq→TH,wpAny_typeOf→Vx,wpAny_mono→VG,codeAny_builtin→VI,wpAny_rule→VL,wpAny_isInstance→VM,wpAny_attempt→VO,wpAny_newObj_type→VQ,wpAny_of_eq→Wc,sizeLine_eq→WL,PassesOwn→Xr
open List renaming length_map→dz,mem_singleton→ej,getElem?_eq_getElem→eO,mem_cons_self→g5,mem_cons_of_mem→j0,getElem?_eq_some_iff→j3,getElem?_map→j5,mem_cons→kf,nodup_nil→mu,length_append→px,mem_of_getElem?→pA,size_toArray→p5,mem_append_right→p6,mem_append→p7,mem_append_left→qr,length_cons→rl,nodup_cons→sP,append_nil→sQ,mem_map→ui,take_length→uj,take_add_one→u3,lookup_cons→vr,getElem?_append_left→wh,getElem?_append_right→xD,map_cons→xG,not_mem_nil→xH,map_append→zJ,length_take→zL,getElem_of_mem→zN,replicate→BA,find?_cons→BD,nodup_append→Dc,append_eq_nil_iff→Dd,range→E3,all_eq_true→Fq,getElem?_zip_eq_some→Fs,length_zip→Ii,map_map→Jg,length_eq_zero_iff→Nh,cons_ne_nil→Ni,append_assoc→Nj,getElem?_set_ne→Nk,of_mem_zip→QV,length_set→QX,getElem?_set_self→UA,mem_of_find?_eq_some→UN,length_reverse→UR,getElem?_eq_none→Vt,sum_cons→VB,reverse_cons→VE,length→VH,mem_of_mem_take→VP,mem_map_of_mem→VR,perm_append_comm_assoc→VU,any_cons→VW,length_drop→VX,any_eq_true→VY,getD_eq_getElem?_getD→VZ,lookup→V0,take_sublist→V1,length_pos_iff→V6,mem_range→V7,getElem?_replicate→V8,getElem_mem→V9,append_cancel_left→Wa,eq_nil_of_length_eq_zero→Wb,length_nil→Wi,getElem?_toArray→Wl,getElem?_of_mem→Wn,map_congr_left→Wo,forIn_cons→Wq,mem_filterMap→Wr,append_ne_nil_of_right_ne_nil→Wv,findIdx?_eq_some_iff_getElem→Ww,pairwise_map→Wy,flatten_cons→Wz,take_append_drop→WB,ext_getElem→WC,sublist_nil→WE,mem_flatten→WG,map_take→WI,dropLast_concat→WJ,take_append_of_le_length→WK,mem_filter→WM,find?_some→WO,filterMap_cons→WR,all_map→WU,nodup_iff_pairwise_ne→WW,zip_cons_cons→WX,find?_eq_none→WY,map_singleton→WZ,mem_or_eq_of_mem_set→W2,sublist_append_right→W3,any_eq_false→W4,all_cons→W7,map_drop→W8,set_eq_of_length_le→W9,cons_append→Xc,length_pos_of_mem→Xd,any_map→Xe,length_singleton→Xi,set_getElem_self→Xk,dropLast_eq_take→Xl,eq_nil_or_concat→Xm,length_filter_le→Xn,mem_of_getLast?→Xq,take_succ_cons→Xs,flatMap_append→Xu,flatten_append→Xv,pairwise_cons→XH,getElem?_drop→XJ,ext_getElem?→XQ,findIdx?_map→XT,zip→XU,find?_append→XW,flatMap_cons→XX,nodup_range→XZ,zipIdx_cons→X0,map_fst_zip→X1,perm_middle→X4,getElem_map→X5,append_inj'→X6
open PySem.Heap renaming get?_push_of_some→ja,lt_size→kE,get?_push_size→pB,get?_update_other→zK,size_push→zM,get?_update_self→BW,SameBut→Wf,ExtBut→Xo,get?_push_cases→Xp
open Option renaming map_eq_some_iff→j7,isSome_iff_exists→Vw,isSome_map→Wm,bind_eq_some_iff→Xb,map_eq_none_iff→Xf,isSome_some→XA,toList_some→XI,getD_none→XY,getD_some→X3
open Nat renaming le_refl→mW,ne_of_lt→sR,le_trans→u4,lt_of_lt_of_le→zI,zero_le→Jf,ne_of_gt→Jh,le_of_lt→P1,lt_succ_self→VA,lt_succ_of_lt→V2,lt_irrefl→V3,lt_succ_iff_lt_or_eq→V4,sub_self→Wg,le_max_left→Wj,lt_of_sub_eq_succ→Wk,lt_of_le_of_lt→Ws,le_of_lt_succ→WA,le_of_not_lt→WH,not_lt_zero→WQ,add_le_add_left→WS,lt_trans→WT,sub_succ→WV,lt_or_eq_of_le→W0,lt_trichotomy→W6,min_le_right→Xa,min_eq_left→Xg,mul_le_mul_left→Xt,sub_le→Xz,mod_lt→XC,mod_mod_of_dvd→XE,lt_of_le_of_ne→XM,min_self→XS,lt_min→X7
open Bool renaming false_ne_true→qf,and_eq_true→sO,false_eq_true→Wu,and_false→Wx,eq_iff_iff→WN,false_or→Xw,and_true→Xx,eq_false_iff→XO
open Int renaming le_refl→E6,toNat_of_nonneg→QU,le_trans→VN,add_zero→VT,zero_add→Wh,mul_le_mul_of_nonneg_right→WD,toNat_natCast→W5,natCast_mul→Xh,natCast_nonneg→Xy,toNat_le→XN
open PySem.Obj renaming mapSeq→QH,data_mapFields→XF
open Array renaming getElem?_eq_getElem→VJ,getElem?_eq_none→VS,length_toList→V5,getElem?_toList→Xj,forIn_toList→XG,size_append→XR
open Option renaming some→Z,none→Y
open Bool renaming true→O,false→ϊ
open PySem renaming Value→B,Addr→J,Shared→ϋ
def U:a=a:=rfl
open Lean in
def lp:Nat->Syntax->MacroM (TSyntax `rcasesPat)
|n+1,s=>match s with
 |`(($a,$b,*))=>do let c<-(#[a]++b.getElems).mapM λx=>lp n x;`(rcasesPat|⟨$[$c:rcasesPat],*⟩)
 |`(⟨$a,*⟩)=>do let c<-a.getElems.mapM λx=>lp n x;`(rcasesPat|⟨$[$c:rcasesPat],*⟩)
 |`($x:ident)=>let y:=if x.getId==`U then mkIdent `rfl else x;`(rcasesPat|$y:ident)
 |_=>`(rcasesPat|_)
|_,_=>`(rcasesPat|_)
local macro_rules|`(tactic|let $p:term:=$e)=>do`(tactic|obtain $(<-lp 9 p):rcasesPat:=$e)
local macro_rules|`(($a,$b,*))=>`(⟨$a,$b,*⟩)
open PySem.W renaming Frag→BT
open PySem renaming FuncData→Ch,World→Cl,Program→Da,Around→Db,Heap→Do,Expr→Ev,Stmt→EQ
local macro_rules|`(tactic|let $x:ident:=$e)=>`(tactic|have $x:ident:=$e)|`(tactic|let $x:ident:$t :=$e)=>`(tactic|have $x:ident:$t :=$e)
local macro_rules|`(let $x:ident:=$e;$b)=>`(have $x:ident:=$e;$b)|`(let $x:ident:$t :=$e;$b)=>`(have $x:ident:$t :=$e;$b)
noncomputable section
set_option bootstrap.genMatcherCode false
namespace L2
open PySem PySem.Spec PyProof.Rows
inductive P3{A' B' C':Type}(P:A'->B'->C'->Prop):Prop
 |mk(a b c:_)(_:P a b c)
inductive Q4{A' B' C' D':Type}(P:A'->B'->C'->D'->Prop):Prop
 |mk(a b c d:_)(_:P a b c d)
inductive Y5{A' B' C' D' E':Type}(P:A'->B'->C'->D'->E'->Prop):Prop
 |mk(a b c d e:_)(_:P a b c d e)
inductive Y6{A' B' C' D' E' F':Type}(P:A'->B'->C'->D'->E'->F'->Prop):Prop
 |mk(a b c d e f:_)(_:P a b c d e f)
inductive Y7{A' B' C' D' E' F' G':Type}(P:A'->B'->C'->D'->E'->F'->G'->Prop):Prop
 |mk(a b c d e f g:_)(_:P a b c d e f g)
inductive Y8{A' B' C' D' E' F' G' H':Type}(P:A'->B'->C'->D'->E'->F'->G'->H'->Prop):Prop
 |mk(a b c d e f g h:_)(_:P a b c d e f g h)
inductive E10{A' B' C' D' E' F' G' H' I' J':Type}(P:A'->B'->C'->D'->E'->F'->G'->H'->I'->J'->Prop):Prop
 |mk(a b c d e f g h i j:_)(_:P a b c d e f g h i j)
inductive E11{A' B' C' D' E' F' G' H' I' J' K':Type}(P:A'->B'->C'->D'->E'->F'->G'->H'->I'->J'->K'->Prop):Prop
 |mk(a b c d e f g h i j k:_)(_:P a b c d e f g h i j k)
abbrev Key:=Sum Int Str
def uS:Key->B->Bool
 |.inl k,v=>B.isInt k v
 |.inr x,v=>B.isStrOf x v
def UJ(w:Cl):Key->Int
 |.inl k=>hashInt k
 |.inr x=>hashStr w x
theorem cu:∀{k:Key}{v:B},uS k v=O->(∃i t,k=Sum.inl i/\v=B.int i t)\/(∃x t,k=Sum.inr x/\v=B.str x t)
 |.inl i,v,h=>by
  let(t,e):=B.isInt_shape h;exact .inl (i,t,U,e)
 |.inr x,v,h=>by
  let(t,e):=B.isStrOf_shape h;exact .inr (x,t,U,e)
def Ex(i:Int)(t:Tok):uS (.inl i) (.int i t)=true:=by simp[uS,B.isInt]
def Ew(x:Str)(t:Tok):uS (.inr x) (.str x t)=true:=by simp[uS,B.isStrOf]
def PQ(a b:Int):decide ((Sum.inl a:Key)=Sum.inl b)=(a==b):=by
 by_cases e:a=b
 ·subst e;simp
 ·let h:¬(Sum.inl a:Key)=Sum.inl b:=λq=>e (Sum.inl.inj q)
  rw[decide_eq_false h];exact(beq_eq_false_iff_ne.mpr e).symm
def PJ(a b:Str):decide ((Sum.inr a:Key)=Sum.inr b)=decide (a=b):=by
 by_cases e:a=b
 ·simp
 ·let h:¬(Sum.inr a:Key)=Sum.inr b:=λq=>e (Sum.inr.inj q)
  rw[decide_eq_false h,decide_eq_false e]
def PN(a:Int)(b:Str):decide ((Sum.inl a:Key)=Sum.inr b)=false:=decide_eq_false (λq=>nomatch q)
def PL(a:Str)(b:Int):decide ((Sum.inr a:Key)=Sum.inl b)=false:=decide_eq_false (λq=>nomatch q)
def bB(prog:Da)(w:Cl):PySem.KeyKind prog w Key where
 is:=uS
 hash:=UJ w
 inj:=λv a b ha q=>by
  obtain⟨i,t,rfl,rfl⟩|⟨x,t,rfl,rfl⟩:=cu ha
  ·obtain⟨j,u,rfl,e⟩|⟨y,u,rfl,e⟩:=cu q
   ·injection e with g _;rw[g]
   ·exact nomatch e
  ·obtain⟨j,u,rfl,e⟩|⟨y,u,rfl,e⟩:=cu q
   ·exact nomatch e
   ·injection e with g _;rw[g]
 byValue:=λk v h=>by
  obtain⟨i,t,rfl,rfl⟩|⟨x,t,rfl,rfl⟩:=cu h <;> rfl
 pyHash:=λhv h=>by
  obtain⟨i,t,rfl,rfl⟩|⟨x,t,rfl,rfl⟩:=cu hv
  ·exact wpAny_pyHash_int h
  ·exact wpAny_pyHash_str h
 eqBool:=λz hv h=>by
  obtain⟨i,t,rfl,rfl⟩|⟨x,t,rfl,rfl⟩:=cu z
  ·obtain⟨j,u,rfl,rfl⟩|⟨y,u,rfl,rfl⟩:=cu hv
   ·rw[PQ]at h;exact wpAny_eqBool_int h
   ·rw[PN]at h;exact SeqAt.EqAt.int_str i t y u _ _ _ _ h
  ·obtain⟨j,u,rfl,rfl⟩|⟨y,u,rfl,rfl⟩:=cu hv
   ·rw[PL]at h;exact SeqAt.EqAt.str_int x t j u _ _ _ _ h
   ·rw[PJ]at h;exact wpAny_eqBool_str h
 «strs»:=λk x t v h=>by
  obtain⟨i,u,rfl,e⟩|⟨y,u,rfl,e⟩:=cu h
  ·exact nomatch e
  ·injection e with g _
   subst g;cases v <;> rfl
def yV(prog:Da)(w:Cl)(i:Int)(t:Tok):(bB prog w).is (.inl i) (.int i t)=true:=Ex i t
def yU(prog:Da)(w:Cl)(x:Str)(t:Tok):(bB prog w).is (.inr x) (.str x t)=true:=Ew x t
inductive V where
 |non|bl (b:Bool)|int (i:Int)|str (x:Str)|byt (b:Array UInt8)|flt (b:UInt64)|ref (a:J)|ty (n:String)
 deriving DecidableEq
def RelV:V->B->Prop
 |.non,u=>u=B.none
 |.bl b,u=>u=B.bool b
 |.int i,u=>∃t,u=B.int i t
 |.str x,u=>∃t,u=B.str x t
 |.byt b,u=>∃t,u=B.bytes b t
 |.flt b,u=>∃t,u=B.float b t
 |.ref a,u=>u=B.ref a
 |.ty n,u=>u=B.type n
abbrev Vals:List V->List B->Prop:=Paired RelV
theorem Vals.length(r:Vals xs us):xs.length=us.length:=Paired.length r
theorem Vals.get:∀{xs:List V}{us:List B}{i:Nat}{x:V},Vals xs us->xs[i]?=Z x->∃u,us[i]?=Z u/\RelV x u
 |_,_,_,_,.nil,e=>by simp at e
 |_,_,0,_,.cons r _,e=>by simp at e;subst e;exact(_,U,r)
 |_,_,i+1,x,.cons _ t,e=>by
  let(u,h1,h2):=Vals.get t (by simpa using e)
  exact(u,by simpa using h1,h2)
theorem Vals.set(r:RelV x u):∀{xs:List V}{us:List B}(i:Nat),Vals xs us->Vals (xs.set i x) (us.set i u)
 |_,_,_,.nil=>.nil
 |_,_,0,.cons _ t=>.cons r t
 |_,_,i+1,.cons q t=>.cons q (Vals.set r i t)
variable{us:List B}
def Vals.append(h:Vals xs us)(s:Vals ys ws):Vals (xs++ys) (us++ws):=by
 induction h with
 |nil=>exact s
 |cons r _ g=>exact .cons r g
theorem Vals.take:∀{xs:List V}{us:List B}(n:Nat),Vals xs us->Vals (xs.take n) (us.take n)
 |_,_,0,_=>.nil
 |_,_,_+1,.nil=>.nil
 |_,_,n+1,.cons r t=>.cons r (Vals.take n t)
theorem Vals.drop:∀{xs:List V}{us:List B}(n:Nat),Vals xs us->Vals (xs.drop n) (us.drop n)
 |_,_,0,r=>r
 |_,_,_+1,.nil=>.nil
 |_,_,n+1,.cons _ t=>Vals.drop n t
def iz:Option V->Option B->Prop
 |some v,Z u=>RelV v u
 |none,Y=>True
 |_,_=>False
def KV{κ:Type}:List (κ×V)->List (κ×B)->Prop:=Paired λ(p:κ×V)(q:κ×B)=>p.1=q.1/\RelV p.2 q.2
def kV:Key->V
 |.inl i=>.int i
 |.inr x=>.str x
inductive HO where
 |lst(xs:List V)
 |tup(xs:List V)
 |dK(kvs:List (Key×V))|dT (kvs:List (List Key×V))
 |set(S:Int->Bool)(n:Nat)
 |ins(C dx:J)(fs:List (Str×V))
 |own(x:J)
 |xd(fs:List (Str×V))
 |room(x:Int)
 |met(f x:J)
 |rng(lo hi:Int)
 |frz(o:Obj)(u:HO)
 |tbl(ps:Array B)
 |ext(φ:Do->Prop)
abbrev Hp:=J->Option HO
def upd(H:Hp)(a:J)(o:HO):Hp:=λb=>if b=a then Z o else H b
variable{H:Hp}{a:J}
def ax:upd H a o a=Z o:=by unfold upd;rw[if_pos rfl]
def ak(h:b≠a):upd H a o b=H b:=by unfold upd;rw[if_neg h]
def pC:upd (upd H a o) a u=upd H a u:=by
 funext b;unfold upd;split <;> rfl
def ij{o u:HO}(h:H a=Z o)(h':H b=Z u)(d:o≠u):a≠b:=by
 intro e;subst e;rw[h]at h';exact d (Option.some.inj h')
def bj{o:HO}(h:H a=Z o)(h':H b=Y):a≠b:=by
 intro e;subst e;rw[h]at h';cases h'
def lC(h:Do)(a:J)(items:Array B):Prop:=IsTup h a items/\∃o,h.get? a=Z o/\o.dict=Y
theorem lC.new(h:Do)(items:Array B):lC (h.push {cls:=.type "tuple",data:=.seq items}) h.objs.size items:=(IsTup.new _ _,_,pB _ U,U)
section
variable(P:Da)(w:Cl)
def da(H:Hp)(h:Do)(a:J):HO->Prop
 |.lst xs=>xs.length<=mV/\∃(its:List B)(n:Nat),Vals xs its/\h.get? a=Z {cls:=.type "list",data:=.seq its.toArray n}
 |.tup xs=>xs.length<=mV/\∃its:List B,Vals xs its/\lC h a its.toArray
 |.dK kvs=>kvs.length<=mV/\(a==sysModules)=ϊ/\∃vs,KV kvs vs/\h.DictOf (bB P w) a vs
 |.dT kvs=>kvs.length<=mV/\(a==sysModules)=ϊ/\∃xs:List (List Key×J×B),
   Paired (λ(p:List Key×V)(q:List Key×J×B)=>p.1=q.1/\H q.2.1=Z (.tup (p.1.map kV))/\RelV p.2 q.2.2) kvs xs /\
   ∃o es g,h.get? a=Z o/\o.ExactDict/\o.data=.dict es g/\es.toList=xs.map (entryOfKey (tupleKind (bB P w)))/\(xs.map (·.1)).Nodup
 |.set S n=>h.SetOf (intKind P w) a S n
 |.ins C dx fs=>H dx=Z (.own a)/\fs.length<=1000/\dx≠a/\h.get? a=Z (W.instObj C dx) /\
   ∃mA,h.Ns1 dx mA/\(∀f,iz (fs.lookup f) (mA f))/\PySem.Within mA (fs.map (·.1))
 |.own _=>∃o,h.get? a=Z o
 |.xd fs=>∃mA,h.Ns1 a mA/\∀f,iz (fs.lookup f) (mA f)
 |.room x=>∃(its:List B)(n:Nat),Vals [.int x] its/\h.get? a=Z {cls:=.type "list",data:=.seq its.toArray n}
 |.rng lo hi=>∃t u v,h.get? a=Z {cls:=.type "range",data:=.fields #[.int lo t,.int hi u,.int 1 v]}
 |.frz o u=>h.get? a=Z o/\da H h a u
 |.tbl ps=>h.get? a=Z {cls:=.none,data:=.fields ps}
 |.met f x=>h.get? a=Z (W.methodObj (.ref f) (.ref x))
 |.ext φ=>φ h/\(∃o,h.get? a=Z o)/\∀h1 h2:Do,φ h1->(∀o,h1.get? a=Z o->h2.get? a=Z o)->φ h2
def HOk(H:Hp)(h:Do):Prop:=∀a o,H a=Z o->da P w H h a o
end
section
variable{P:Da}{w:Cl}{H':Hp}{h h':Do}{o:HO}
theorem da.lt(x:da P w H h a o):a<h.objs.size:=by
 cases o with
 |lst xs=>let(_,_,_,_,e):=x;exact kE e
 |tup xs=>let(_,_,_,p):=x;exact p.1.lt
 |dK kvs=>let(_,_,_,_,o,_,_,e,_):=x;exact kE e
 |dT kvs=>let(_,_,_,_,o,_,_,e,_):=x;exact kE e
 |set S n=>let(o,_,_,_,e,_):=x;exact kE e
 |ins C dx fs=>let(_,_,_,e,_):=x;exact kE e
 |own y=>let(_,e):=x;exact kE e
 |xd fs=>let(_,(_,_,_,e,_),_):=x;exact kE e
 |room x'=>let(_,_,_,e):=x;exact kE e
 |rng lo hi=>let(_,_,_,e):=x;exact kE e
 |frz ob u=>let(e,_):=x;exact kE e
 |tbl ps=>exact kE (x)
 |met f y=>exact kE (x)
 |ext φ=>let(_,(_,e),_):=x;exact kE e
def Paired.SH{F G:α->β->Prop}(r:Paired F q g)(f:∀a b,F a b->G a b):Paired G q g:=by
 induction r with
 |nil=>exact .nil
 |cons r _ z=>exact .cons (f _ _ r) z
def da.cA(x:da P w H h a o)(k:∀b u,(b=a\/H b=Z (.own a))->h.get? b=Z u->h'.get? b=Z u)
  (ho:∀b,H b=Z (.own a)->H' b=Z (.own a)) (V:∀b xs,H b=Z (.tup xs)->H' b=Z (.tup xs)):da P w H' h' a o:=by
 induction o with
 |lst xs=>let(z,its,n,r,e):=x;exact(z,its,n,r,k _ _ (.inl U) e)
 |tup xs=>let(z,its,r,(ob,e,c),o2,K,d2):=x;exact(z,its,r,(ob,k _ _ (.inl U) e,c),o2,k _ _ (.inl U) K,d2)
 |dK kvs=>let(z,y,vs,r,ob,es,g,e,c):=x;exact(z,y,vs,r,ob,es,g,k _ _ (.inl U) e,c)
 |dT kvs =>
  let(z,y,xs,r,ob,es,g,e,c):=x;exact(z,y,xs,Paired.SH r λp q z=>(z.1,V _ _ z.2.1,z.2.2),ob,es,g,k _ _ (.inl U) e,c)
 |set S n=>let(ob,es,g,t,e,c):=x;exact(ob,es,g,t,k _ _ (.inl U) e,c)
 |ins C dx fs =>
  let(d,z,ne,e,mA,(od,es,g,K,c),r):=x;exact(ho _ d,z,ne,k _ _ (.inl U) e,mA,(od,es,g,k _ _ (.inr d) K,c),r)
 |own y=>let(ob,e):=x;exact(ob,k _ _ (.inl U) e)
 |xd fs=>let(mA,(od,es,g,e,c),r):=x;exact(mA,(od,es,g,k _ _ (.inl U) e,c),r)
 |room x'=>let(t,u,v,e):=x;exact(t,u,v,k _ _ (.inl U) e)
 |rng lo hi=>let(t,u,v,e):=x;exact(t,u,v,k _ _ (.inl U) e)
 |frz ob u Q=>let(e,q):=x;exact(k _ _ (.inl U) e,Q q)
 |tbl ps =>
  let e:=x;exact k a _ (.inl U) e
 |met f y =>
  let e:=x;exact k a _ (.inl U) e
 |ext φ=>let(p,(o,e),st):=x;exact(st _ _ p λo q=>k _ _ (.inl U) q,(o,k _ _ (.inl U) e),st)
theorem HOk.lt(x:HOk P w H h)(e:H a=Z o):a<h.objs.size:=(x a o e).lt
def HOk.fresh(x:HOk P w H h)(e:h.objs.size<=a):H a=none:=by
 cases q:H a with
 |none=>rfl
 |some u=>exact absurd (zI (x.lt q) e) (V3 _)
def HOk.kept(x:HOk P w H h)(k:∀b u,h.get? b=Z u->h'.get? b=Z u):HOk P w H h':=λa o e =>
 (x a o e).cA (λb u _ q=>k b u q) (λ_ q=>q) λ_ _ q=>q
def HOk.laid(x:HOk P w H h)(k:∀b u,h.get? b=Z u->h'.get? b=Z u)(hp:h.objs.size<=a)(new:da P w (upd H a o) h' a o):HOk P w (upd H a o) h':=λb u e=>by
 let hn:=x.fresh hp;by_cases g:b=a
 ·subst g;rw[ax]at e;cases e;exact new
 ·rw[ak g]at e;exact(x b u e).cA (λc v _ q=>k c v q) (λc q=>by rw[ak (bj q hn)];exact q) λc xs q=>by rw[ak (bj q hn)];exact q
end
def Rd(H:Hp)(a:J)(u:HO):Prop:=H a=Z u\/∃o,H a=Z (.frz o u)
def Rd.of(h:H a=Z u):Rd H a u:=.inl h
variable{P:Da}
def Rd.ok(r:Rd H a u)(x:HOk P w H h):da P w H h a u:=by
 obtain r |⟨o,r⟩:=r
 ·exact x a u r
 ·let(_,q):=x a _ r;exact q
def Mut:Option HO->Prop
 |some (.lst _)=>True
 |some (.dK _)=>True
 |some (.dT _)=>True
 |some (.set _ _)=>True
 |some (.ins _ _ _)=>True
 |some (.ext _)=>True
 |some (.room _)=>True
 |_=>False
section
variable{w:Cl}{h h':Do}{x e:J}{o':HO}
def HOk.write(ok:HOk P w H h)(K:Mut (H x))(he:e=x\/H e=Z (.own x))(k:∀b u,b≠e->h.get? b=Z u->h'.get? b=Z u)(av:∃u,h'.get? e=Z u)
  (new:da P w (upd H x o') h' x o'):HOk P w (upd H x o') h':=λb u q=>by
 let SE:∀c y,H c=Z (.own y)->c≠x:=λc y r z=>by subst z;rw[r]at K;exact K
 let Uw:∀c xs,H c=Z (.tup xs)->c≠x:=λc xs r z=>by subst z;rw[r]at K;exact K
 by_cases V:b=x
 ·subst V;rw[ax]at q;cases q;exact new
 ·rw[ak V]at q;by_cases g:b=e
  ·let q':H b=Z (.own x):=by
    obtain z|z:=he
    ·exact absurd (g.trans z) V
    ·rw[g];exact z
   rw[q]at q';cases q';let(v,hv):=av;exact(v,by rw[g];exact hv)
  ·refine(ok b u q).cA (λc v Q r=>k c v ?_ r) (λc r=>by rw[ak (SE c b r)];exact r) λc xs r=>by rw[ak (Uw c xs r)];exact r
   obtain rfl|Q:=Q
   ·exact g
   ·rintro rfl
    obtain z|z:=he
    ·exact SE c b Q z
    ·rw[Q]at z;cases z;exact V U
end
structure Un(fs ex:List J)(H H':Hp)(h h':Do):Prop where
 keep:∀b o,h.get? b=Z o->H b=Y->b ∉ fs->b ∉ ex->h'.get? b=Z o
 slot:∀b o,h.get? b=Z o->H b=Y->b∈fs->b ∉ ex->∃sl,h'.get? b=Z {o with slots:=sl}
 free:∀b o,h.get? b=Z o->H b=Y->b ∉ ex->H' b=Y
 there:∀b o,h.get? b=Z o->b ∉ ex->∃o',h'.get? b=Z o'
 qj:∀b xs,H b=Z (.tup xs)->H' b=Z (.tup xs)
 k9:∀b o u,H b=Z (.frz o u)->H' b=Z (.frz o u)
 qm:∀b ps,H b=Z (.tbl ps)->∃more,H' b=Z (.tbl (ps++more))
section
variable{fs ex:List J}{H1:Hp}{h h1 h':Do}{x e:J}{o:HO}
def Un.any(u:Un fs ex H H1 h h1)(q:h.get? b=Z ob)(n:H b=Y)(hx:b ∉ ex):∃sl,h1.get? b=Z {ob with slots:=sl}:=by
 by_cases g:b∈fs
 ·exact u.slot b ob q n g hx
 ·exact(ob.slots,u.keep b ob q n g hx)
def Un.kept(k:∀b u,h.get? b=Z u->h'.get? b=Z u):Un fs ex H H h h' :=
 (λb ob q _ _ _=>k b ob q,λb ob q _ _ _=>(ob.slots,k b ob q),λ_ _ _ n _=>n,λb ob q _=>(ob,k b ob q),λ_ _ q=>q,λ_ _ _ q=>q,λ_ ps q=>(#[],by rw[q];simp))
def Un.refl:Un fs ex H H h h:=Un.kept λ_ _ q=>q
def Un.laid(k:∀b u,h.get? b=Z u->h'.get? b=Z u)(hp:h.objs.size<=a)(hn:H a=Y):Un fs ex H (upd H a o) h h' where
 keep:=λb u q _ _ _=>k b u q
 slot:=λb u q _ _ _=>(u.slots,k b u q)
 free:=λb u q n _=>by rw[ak (sR (zI (kE q) hp))];exact n
 there:=λb u q _=>(u,k b u q)
 qj:=λb xs q=>by rw[ak (bj q hn)];exact q
 k9:=λb u xs q=>by rw[ak (bj q hn)];exact q
 qm:=λb ps q=>(#[],by rw[ak (bj q hn),q];simp)
def Un.write(K:Mut (H x))(he:e=x\/H e=Z (.own x))(k:∀b u,b≠e->h.get? b=Z u->h'.get? b=Z u)(P:∃u,h'.get? e=Z u):Un fs ex H (upd H x o) h h':=by
 let hx:∀b,H b=Y->b≠x:=λb n z=>by subst z;rw[n]at K;exact K
 let Q:∀b,H b=Y->b≠e:=λb n z=>by
  subst z;obtain r|r:=he
  ·exact hx b n r
  ·rw[n]at r;cases r
 let hm:∀b u,H b=Z u->¬ Mut (Z u)->b≠x:=λb u q nm z=>by subst z;rw[q]at K;exact nm K
 refine(λb u q n _ _=>k b u (Q b n) q,λb u q n _ _=>(u.slots,k b u (Q b n) q),λb u q n _=>by rw[ak (hx b n)];exact n,λb u q _=>?_,
  λb xs q=>by rw[ak (hm b _ q λz=>z)];exact q,λb u xs q=>by rw[ak (hm b _ q λz=>z)];exact q,λb ps q=>(#[],by rw[ak (hm b _ q λz=>z),q];simp))
 by_cases g:b=e
 ·subst g;exact P
 ·exact(u,k b u g q)
end
def trk(h:Do)(H:Hp):List Addr:=(E3 h.objs.size).filter λa=>(H a).isSome
def zc(h:Do)(H:Hp):Do:=W.hideAll h (trk h H)
theorem EB(h:Do)(H:Hp):(zc h H).objs.size=h.objs.size:=W.hideAll_size _ _
theorem Ih{b:J}{o:Obj}(e:h.get? b=Z o)(n:H b=Y):(zc h H).get? b=Z o :=
 W.hideAll_get _ e λhm=>by
  let q:=(WM.mp hm).2;rw[n]at q;simp at q
theorem Ma(e:(zc h H).get? b=Z o):h.get? b=Z o/\H b=none:=by
 let e':=W.of_hideAll (trk h H) e;refine(e',?_);cases q:H b with
 |none=>rfl
 |some x =>
  let hm:b∈trk h H:=WM.mpr (V7.mpr (kE e'),by simp[q])
  let z:(zc h H).get? b=none:=W.hideAll_none (trk h H) hm;rw[z]at e;cases e
structure Mod(K:BT)(mg:Str->Option B)(base:Do):Prop where
 kin:K.In base
 glob:base.Ns mainGlobals mg
 blt:∃mb,base.Ns builtinsNs mb/\∀x:Str,x ≠ "__name__"->mb x=bootBuiltins x
 nolimit:base.NoLimit
structure Cx where
 prog:Da
 w:Cl
 K:BT
 mg:Str->Option B
 base:Do
 A:Db
 N:List Str
 s₀:ϋ
 H₀:Hp
 env:Env
 outer:List Env
 stack:List Env
 ex:List J
 fn:Str->Bool
 calm:Bool
 pn:List (J×Obj)
 xe:B->ϋ->Prop
def frs(l:List Env):List Addr:=l.filterMap (·.frame)
abbrev Cx.fs(X:Cx):List Addr:=frs X.outer
def Vis(sc:Scope)(x:Str):Prop:=sc.names.lookup x=Z .local\/sc.names.lookup x=Z .cell\/sc.names.lookup x=Z .free
def Loc(sc:Scope)(x:Str):Prop:=sc.names.lookup x=Z .local\/sc.names.lookup x=Z .cell
def Look(env:Env)(h:Do)(m:Str->Option B)(x:Str)(u:B):Prop :=
 (env.kindOf x=Z .local/\m x=Z u)\/((env.kindOf x=Z .cell\/env.kindOf x=Z .free)/\∃c,env.cells.lookup x=Z c/\h.IsCell c (Z u))
structure Cx.Ok(X:Cx):Prop where
 mod:Mod X.K X.mg X.base
 kind:X.env.scope.kind=.function
 glob:X.env.globals=mainGlobals
 blt:X.env.builtins=builtinsNs
 above:X.s₀.heap.objs.size<=X.env.locals
 inj:∀x y c,X.env.cells.lookup x=Z c->X.env.cells.lookup y=Z c->x=y
 has:∀x,(X.env.kindOf x=Z .cell\/X.env.kindOf x=Z .free)->∃c,X.env.cells.lookup x=Z c
 cab:∀x c,X.fn x=O->X.env.cells.lookup x=Z c->X.s₀.heap.objs.size<=c
 hd:X.calm=O->X.A.handled=Y
 frames:X.A.frames=Z X.stack
 stk:X.stack=X.outer\/(X.stack=X.env::X.outer/\X.env.frame=Z X.env.locals)
 exf:∀b∈X.ex,b≠X.env.locals/\∀x c,X.env.cells.lookup x=Z c->c≠b
 bs:∀b o,X.base.get? b=Z o->X.s₀.heap.get? b=Z o/\X.H₀ b=Y
 bsz:X.base.objs.size<=X.s₀.heap.objs.size
 HB:∀b o,X.base.get? b=Z o->b ∉ X.ex
 MR:∀b∈X.ex,b ∉ X.fs
 pe:X.s₀.heap.FunFrames X.base X.outer
 frf:∀b∈X.fs,X.H₀ b=Y
structure Inv(X:Cx)(gV:List (J×Obj))(σ:List (Option V))(H:Hp)(s:ϋ):Prop where
 ok:X.Ok
 os:s.os=X.s₀.os
 bare:AllBare s.gens
 base:Un X.fs X.ex X.H₀ H X.s₀.heap s.heap
 loc:∃m,s.heap.Ns X.env.locals m/\∀(i:Nat)(x:Str)(v:V),X.N[i]?=Z x->σ[i]?=Z (Z v)->Vis X.env.scope x->∃u,RelV v u/\Look X.env s.heap m x u
 cell:∀x c,X.env.cells.lookup x=Z c->∃v,s.heap.IsCell c v
 free:H X.env.locals=Y
 gx:∀x c,X.env.cells.lookup x=Z c->H c=Y
 pin:∀p∈X.pn++gV,s.heap.get? p.1=Z p.2/\H p.1=Y/\p.1≠X.env.locals/\p.1 ∉ X.fs/\∀v,p.2.data ≠ .cell v
 hok:HOk X.prog X.w H s.heap
 len:σ.length=X.N.length
variable{ch:List J}{t':Nat}{it:J}{N:List Str}{j:Nat}{x:Str}{u:B}{s':ϋ}
section
variable{X:Cx}{gV:List (J×Obj)}{σ:List (Option V)}{H':Hp}{s:ϋ}{h':Do}
def Cx.Ok.Uz(ok:X.Ok)(e:X.base.get? b=Z o):b ∉ X.fs:=λg=>by
 have:=(ok.pe.mem g).1
 rw[e]at this;cases this
theorem Inv.bs(I:Inv X gV σ H s):∀b o,X.base.get? b=Z o->s.heap.get? b=Z o/\H b=none:=λb o e =>
 (I.base.keep b o (I.ok.bs b o e).1 (I.ok.bs b o e).2 (I.ok.Uz e) (I.ok.HB b o e),I.base.free b o (I.ok.bs b o e).1 (I.ok.bs b o e).2 (I.ok.HB b o e))
def Inv.bk(I:Inv X gV σ H s):∀b o,X.base.get? b=Z o->s.heap.get? b=Z o:=λb o e=>(I.bs b o e).1
theorem Inv.mod(I:Inv X gV σ H s):Mod X.K X.mg X.base:=I.ok.mod
def Inv.kIn(I:Inv X gV σ H s):X.K.In s.heap:=I.ok.mod.kin.keeps I.bk
theorem Inv.lt(I:Inv X gV σ H s):X.env.locals<s.heap.objs.size:=let(_,hn,_):=I.loc;hn.lt
def Inv.sz(I:Inv X gV σ H s):X.s₀.heap.objs.size<=s.heap.objs.size:=u4 I.ok.above (P1 I.lt)
def Inv.SF(I:Inv X gV σ H s)(h:s.heap.objs.size<=a):a ∉ X.fs:=λg=>by
 let(_,o,ho,_):=I.ok.pe.mem g;exact absurd (zI (kE ho) (u4 I.sz h)) (V3 _)
def Inv.cne(I:Inv X gV σ H s):∀x c,X.env.cells.lookup x=Z c->c≠X.env.locals:=λx c e z=>by
 let(v,o,ho,hd):=I.cell x c e;let(m,(o',es,K,g,q,_),_):=I.loc;rw[z,g]at ho;cases ho;rw[q]at hd;cases hd
theorem Inv.pe(I:Inv X gV σ H s):s.heap.FunFrames X.base X.outer:=by
 let all:∀l,(∀b∈frs l,b∈X.fs)->X.s₀.heap.FunFrames X.base l->s.heap.FunFrames X.base l:=by
  intro l
  induction l with
  |nil=>intro _ _;trivial
  |cons env r K =>
   intro hs hl;let(P,(L,o,hf,hn,ho,hd),hr):=hl;let q:=hs L (by unfold frs;rw[WR,hf];exact g5)
   let(sl,e):=I.base.slot L o ho (I.ok.frf L q) q λz=>I.ok.MR L z q
   exact(P,(L,_,hf,hn,e,hd),K (λb g=>hs b (by unfold frs;rw[WR,hf];exact j0 _ g)) hr)
 exact all X.outer (λ_ g=>g) I.ok.pe
theorem Inv.stack(I:Inv X gV σ H s):s.heap.FunFrames X.base X.stack:=by
 obtain e |⟨e,hf⟩:=I.ok.stk
 ·rw[e];exact I.pe
 ·rw[e];let(m,hn,_):=I.loc;exact .cons (by rw[I.ok.kind];decide) hf hn (Heap.get?_none_of_le (u4 I.ok.bsz I.ok.above)) I.pe
def Inv.vw(I:Inv X gV σ H s):∀b∈frs X.stack,b∈X.env.locals::X.fs:=λb g=>by
 obtain e |⟨e,hf⟩:=I.ok.stk
 ·rw[e]at g;exact j0 _ g
 ·rw[e]at g;unfold frs at g;rw[WR,hf]at g;exact g
def Inv.BV(I:Inv X gV σ H s):∀b∈frs X.stack,H b=none:=λb g=>by
 obtain e|g:=kf.mp (I.vw b g)
 ·rw[e];exact I.free
 ·let(_,o,ho,_):=I.ok.pe.mem g;exact I.base.free b o ho (I.ok.frf b g) λz=>I.ok.MR b z g
def Inv.step(I:Inv X gV σ H s)
  (K:∀b∈ch,(b∈X.ex\/X.s₀.heap.objs.size<=b)/\b≠X.env.locals/\(∀x c,X.env.cells.lookup x=Z c->c≠b)/\∀p∈X.pn++gV,p.1≠b)
  (keep:∀b o,b≠X.env.locals->b ∉ X.fs->b ∉ ch->s.heap.get? b=Z o->H b=Y->h'.get? b=Z o)
  (slot:∀b o,b≠X.env.locals->b∈X.fs->b ∉ ch->s.heap.get? b=Z o->H b=Y->∃sl,h'.get? b=Z {o with slots:=sl}) (free:∀b o,b ∉ ch->s.heap.get? b=Z o->H b=Y->H' b=Y)
  (there:∀b o,b ∉ ch->s.heap.get? b=Z o->∃o',h'.get? b=Z o')
  (qj:∀b xs,H b=Z (.tup xs)->H' b=Z (.tup xs)) (k9:∀b o u,H b=Z (.frz o u)->H' b=Z (.frz o u)) (qm:∀b ps,H b=Z (.tbl ps)->∃more,H' b=Z (.tbl (ps++more)))
  (ns:∀m,s.heap.Ns X.env.locals m->h'.Ns X.env.locals m) (hok:HOk X.prog X.w H' h') (hg:AllBare g'):
  Inv X gV σ H' {s with heap:=h',gens:=g',drawn:=d',toks:=t'}:=by
 let av:∀b o,X.s₀.heap.get? b=Z o->b≠X.env.locals:=λb o e=>sR (zI (kE e) I.ok.above)
 let P:∀b o,X.s₀.heap.get? b=Z o->b ∉ X.ex->b ∉ ch:=λb o e hx V=>by
  obtain z|z:=(K b V).1
  ·exact hx z
  ·exact absurd (zI (kE e) z) (V3 _)
 let cellK:∀x c,X.env.cells.lookup x=Z c->∀v,s.heap.IsCell c v->h'.IsCell c v:=λx c e v (o,ho,hd)=>by
  let g:=λz=>(K c z).2.2.1 x c e U
  by_cases hc:c∈X.fs
  ·let(sl,q):=slot c o (I.cne x c e) hc g ho (I.gx x c e);exact(_,q,hd)
  ·exact(o,keep c o (I.cne x c e) hc g ho (I.gx x c e),hd)
 refine(I.ok,I.os,hg,(λb o e n V hx=>?_,λb o e n V hx=>?_,λb o e n hx=>?_,λb o e hx=>?_,λb xs e=>qj b xs (I.base.qj b xs e),λb o xs e=>k9 b o xs (I.base.k9 b o xs e),λb ps e=>?_),?_,λx c e=>?_,?_,λx c e=>?_,λp hp=>?_,hok,I.len)
 ·exact keep b o (av b o e) V (P b o e hx) (I.base.keep b o e n V hx) (I.base.free b o e n hx)
 ·let(sl,Q):=I.base.slot b o e n V hx;let(aD,e2):=slot b _ (av b o e) V (P b o e hx) Q (I.base.free b o e n hx);exact(aD,e2)
 ·let(o',Q):=I.base.there b o e hx;exact free b o' (P b o e hx) Q (I.base.free b o e n hx)
 ·let(o',Q):=I.base.there b o e hx;exact there b o' (P b o e hx) Q
 ·let(m1,Q):=I.base.qm b ps e;let(m2,e2):=qm b _ Q;exact(m1++m2,by rw[e2,Array.append_assoc])
 ·let(m,hn,hl):=I.loc;refine(m,ns m hn,λi x v Q e2 e3=>?_)
  let(u,r,l):=hl i x v Q e2 e3;refine(u,r,?_);obtain l |⟨k,c,e,z⟩:=l
  ·exact .inl l
  ·exact .inr (k,c,e,cellK x c e _ z)
 ·let(v,z):=I.cell x c e;exact(v,cellK x c e v z)
 ·let(m,(o,_,_,ho,_),_):=I.loc;exact free _ o (λz=>(K _ z).2.1 U) ho I.free
 ·let(v,o,ho,hd):=I.cell x c e;exact free c o (λz=>(K c z).2.2.1 x c e U) ho (I.gx x c e)
 ·let(e,n,ne,nf,d):=I.pin p hp;let g:=λz=>(K p.1 z).2.2.2 p hp U
  exact(keep p.1 p.2 ne nf g e n,free p.1 p.2 g e n,ne,nf,d)
def Inv.un(I:Inv X gV σ H s)(u:Un X.fs [] H H' s.heap h')(hok:HOk X.prog X.w H' h'):Inv X gV σ H' {s with heap:=h',toks:=t'}:=by
 let(m,(o,es,ep,ho,r),_):=id I.loc;let(sl,V):=u.any ho I.free (by simp)
 exact I.step (ch:=[]) (λ_ z=>nomatch z) (λb o _ q _ e n=>u.keep b o e n q (by simp)) (λb o _ q _ e n=>u.slot b o e n q (by simp)) (λb o _ e n=>u.free b o e n (by simp)) (λb o _ e=>u.there b o e (by simp)) u.qj u.k9 u.qm (λm' hm=>by
  let(o',K,P,g,Q):=hm;rw[ho]at g;cases g;exact(_,K,P,V,Q)) hok I.bare
def Inv.call(I:Inv X gV σ H s)(u:Un (frs X.stack) ch H H' s.heap h')(hok:HOk X.prog X.w H' h')(hg:AllBare g')
  (K:∀b∈ch,(b∈X.ex\/X.s₀.heap.objs.size<=b)/\b≠X.env.locals/\(∀x c,X.env.cells.lookup x=Z c->c≠b)/\∀p∈X.pn++gV,p.1≠b):
  Inv X gV σ H' {s with heap:=h',gens:=g',drawn:=d',toks:=t'}:=by
 let(m,(o,es,ep,ho,r),_):=id I.loc;let(sl,P):=u.any ho I.free λz=>(K _ z).2.1 U
 exact I.step K (λb o P hb g e n=>u.keep b o e n (λz=>(kf.mp (I.vw b z)).elim P hb) g) (λb o _ _ g e n=>u.any e n g) (λb o g e n=>u.free b o e n g) (λb o g e=>u.there b o e g) u.qj u.k9 u.qm (λm' hm=>by
  let(o',Q,V,q,r'):=hm;rw[ho]at q;cases q;exact(_,Q,V,P,r')) hok hg
def Inv.turned(I:Inv X gV σ H s)(k:∀b o,b≠it->s.heap.get? b=Z o->h'.get? b=Z o)(hn:H it=Y)(P:it≠X.env.locals)
  (h1:it∈X.ex\/X.s₀.heap.objs.size<=it) (h2:∀x c,X.env.cells.lookup x=Z c->c≠it) (h3:∀p∈X.pn++gV,p.1≠it):Inv X gV σ H {s with heap:=h',toks:=t'}:=by
 let K:∀b u,H b=Z u->b≠it:=λb u e z=>by rw[z,hn]at e;cases e
 refine I.step (ch:=[it]) (λb Q=>?_) (λb o _ _ g e _=>k b o (λz=>g (by simp[z])) e) (λb o _ _ g e _=>(o.slots,k b o (λz=>g (by simp[z])) e)) (λ_ _ _ _ n=>n)
  (λb o g e=>(o,k b o (λz=>g (by simp[z])) e)) (λ_ _ e=>e) (λ_ _ _ e=>e) (λb ps e=>(#[],by rw[e];simp)) (λm hm=>?_) (λb u e=>?_) I.bare
 ·let e:=by simpa using Q
  subst e;exact(h1,P,h2,h3)
 ·let(o,es,V,ho,r):=hm;exact(o,es,V,k _ o (Ne.symm P) ho,r)
 ·refine(I.hok b u e).cA (λc v g q=>k c v ?_ q) (λ_ q=>q) λ_ _ q=>q
  obtain z|z:=g
  ·rw[z];exact K b u e
  ·exact K c _ z
def Inv.tok(I:Inv X gV σ H s)(t:Nat):Inv X gV σ H {s with toks:=t}:=I.un Un.refl I.hok
theorem Inv.kept(I:Inv X gV σ H s)(k:∀b u,s.heap.get? b=Z u->h'.get? b=Z u):Inv X gV σ H {s with heap:=h',toks:=t'}:=I.un (Un.kept k) (I.hok.kept k)
theorem Inv.laid(I:Inv X gV σ H s)(k:∀b u,s.heap.get? b=Z u->h'.get? b=Z u)(hp:s.heap.objs.size<=a)(new:da X.prog X.w (upd H a o) h' a o):
  Inv X gV σ (upd H a o) {s with heap:=h',toks:=t'}:=I.un (Un.laid k hp (I.hok.fresh hp)) (I.hok.laid k hp new)
theorem Inv.write{x e:J}(I:Inv X gV σ H s)(q:Mut (H x))(he:e=x\/H e=Z (.own x))(k:∀b u,b≠e->s.heap.get? b=Z u->h'.get? b=Z u)(g:∃u,h'.get? e=Z u)
  (new:da X.prog X.w (upd H x o) h' x o):Inv X gV σ (upd H x o) {s with heap:=h',toks:=t'}:=I.un (Un.write q he k g) (I.hok.write q he k g new)
def Inv.l9(I:Inv X gV σ H s)(h:∀p∈pins',s.heap.get? p.1=Z p.2/\H p.1=Y/\p.1≠X.env.locals/\p.1 ∉ X.fs/\∀v,p.2.data ≠ .cell v):Inv X pins' σ H s :=
 (I.ok,I.os,I.bare,I.base,I.loc,I.cell,I.free,I.gx,λp hp=>(p7.mp hp).elim (λz=>I.pin p (qr _ z)) (h p),I.hok,I.len)
def yP(g:N.Nodup)(a:N[i]?=Z x)(b:N[j]?=Z x):i=j:=by
 let(h1,z):=j3.mp a;let(h2,q):=j3.mp b;exact(List.getElem_inj g).mp (z.trans q.symm)
abbrev AT(X:Cx)(x:Str):Prop:=X.fn x=true\/X.env.scope.names.lookup x=some .local
def DG{A:Db}{E:B->ϋ->Prop}{i:Nat}{v:V}{Q:Unit->ϋ->Prop}(I:Inv X gV σ H s)(hN:X.N.Nodup)(hi:X.N[i]?=Z x)(hx:Loc X.env.scope x)(r:RelV v u)
  (h:∀s',Inv X gV (σ.set i (Z v)) H s'->(∃a,Wf a s.heap s'.heap/\(a=X.env.locals\/X.env.cells.lookup x=Z a))->Q () s') (hf:AT X x:=by first|exact .inl rfl|exact .inr rfl|assumption):wpAny M A (storeName X.env x u) Q E s:=by
 let(m,hn,hl):=id I.loc;let U4:(X.env.scope.kind == .class ||(X.env.scope.kind == .module&&X.env.locals != X.env.globals))=false:=by rw[I.ok.kind];rfl
 let av:i < σ.length:=by rw[I.len];exact(j3.mp hi).1
 let cne:=I.cne;let tracked:∀{a:J}{h':Do},(∃o,s.heap.get? a=Z o/\H a=Y)->Wf a s.heap h'->HOk X.prog X.w H h':=λ{a h'} ha hs b ob e=>by
  let(_,_,jf):=ha;refine(I.hok b ob e).cA (λc w' K q=>(hs.2 c ?_).trans q) (λ_ q=>q) λ_ _ q=>q
  rintro rfl
  obtain rfl|K:=K
  ·rw[jf]at e;cases e
  ·rw[jf]at K;cases K
 obtain hk|hk:=hx
 ·refine wpAny_storeName_local hk hn (λh' aQ hs=>?_) U4
  let(oL,_,_,aM,_):=id hn;refine h _ (I.ok,I.os,I.bare,(λb o e n hb hx=>?_,λb o e n hb hx=>?_,I.base.free,λb o e hx=>?_,I.base.qj,I.base.k9,I.base.qm),(_,aQ,λj y v' g P e3=>?_),λy c e=>?_,I.free,I.gx,λp hp=>?_,tracked (oL,aM,I.free) hs,by simpa using I.len) (_,hs,.inl U)
  ·exact(hs.2 b (sR (zI (kE e) I.ok.above))).trans (I.base.keep b o e n hb hx)
  ·let(sl,g):=I.base.slot b o e n hb hx;exact(sl,(hs.2 b (sR (zI (kE e) I.ok.above))).trans g)
  ·let(o',g):=I.base.there b o e hx;exact(o',(hs.2 b (sR (zI (kE e) I.ok.above))).trans g)
  ·by_cases hj:j=i
   ·subst hj;rw[hi]at g;cases g;rw[UA av]at P;cases P;exact(u,r,.inl (hk,by simp))
   ·rw[Nk (Ne.symm hj)]at P;let(u',r',q):=hl j y v' g P e3;refine(u',r',?_);obtain⟨k,e⟩|⟨k,c,e,z⟩:=q
    ·refine .inl (k,?_)
     have:y≠x:=λe=>hj (yP hN g (e▸hi))
     simp[this,e]
    ·exact .inr (k,c,e,z.sameBut hs (cne y c e))
  ·let(w',z):=I.cell y c e;exact(w',z.sameBut hs (cne y c e))
  ·let(e,n,ne,nf,d):=I.pin p hp;exact((hs.2 p.1 ne).trans e,n,ne,nf,d)
 ·let aD:X.fn x=true:=by
   obtain z|z:=hf
   ·exact z
   ·rw[z]at hk;cases hk
  let(c,K):=I.ok.has x (.inl hk);let(w',z):=I.cell x c K;refine wpAny_storeName_cell I.ok.kind hk K z (λh' aI hs=>?_)
  let(oc,aE,UU):=id z;refine h {s with heap:=h'} (I.ok,I.os,I.bare,(λb o e n hb hx=>?_,λb o e n hb hx=>?_,I.base.free,λb o e hx=>?_,I.base.qj,I.base.k9,I.base.qm),(m,hn.sameBut hs (Ne.symm (cne x c K)),λj y v' g P e3=>?_),λy c' e=>?_,I.free,I.gx,λp hp=>?_,tracked (oc,aE,I.gx x c K) hs,by simpa using I.len) (c,hs,.inr K)
  ·exact(hs.2 b (sR (zI (kE e) (I.ok.cab x c aD K)))).trans (I.base.keep b o e n hb hx)
  ·let(sl,g):=I.base.slot b o e n hb hx;exact(sl,(hs.2 b (sR (zI (kE e) (I.ok.cab x c aD K)))).trans g)
  ·let(o',g):=I.base.there b o e hx;exact(o',(hs.2 b (sR (zI (kE e) (I.ok.cab x c aD K)))).trans g)
  ·by_cases hj:j=i
   ·subst hj;rw[hi]at g;cases g;rw[UA av]at P;cases P;exact(u,r,.inr (.inl hk,c,K,aI))
   ·rw[Nk (Ne.symm hj)]at P;let(u',r',q):=hl j y v' g P e3;refine(u',r',?_);obtain q |⟨k,c',e,z'⟩:=q
    ·exact .inl q
    ·refine .inr (k,c',e,z'.sameBut hs ?_)
     rintro rfl
     exact hj (yP hN g (I.ok.inj _ _ _ e K▸hi))
  ·by_cases aH:c'=c
   ·subst aH;exact(_,aI)
   ·let(w2,z2):=I.cell y c' e;exact(w2,z2.sameBut hs aH)
  ·let(e,n,ne,nf,d):=I.pin p hp;refine((hs.2 p.1 ?_).trans e,n,ne,nf,d);intro q;rw[q,aE]at e;let q':=Option.some.inj e;exact d w' (by rw[<- q'];exact UU)
def hV{A:Db}{E:B->ϋ->Prop}{i:Nat}{v:V}{Q:Unit->ϋ->Prop}(I:Inv X gV σ H s)(g:X.N.Nodup)(hi:X.N[i]?=Z x)(hx:Loc X.env.scope x)(r:RelV v u)
  (h:∀s',Inv X gV (σ.set i (Z v)) H s'->Q () s') (hf:AT X x:=by first|exact .inl rfl|exact .inr rfl|assumption):wpAny M A (storeName X.env x u) Q E s :=
 DG I g hi hx r (λs' q _=>h s' q) hf
def Inv.Tz(I:Inv X gV σ H s)(ho:s'.os=s.os)(u:Un (frs X.stack) ch H H' s.heap s'.heap)(hok:HOk X.prog X.w H' s'.heap)(hg:AllBare s'.gens)
  (g:∀b∈ch,(b∈X.ex\/X.s₀.heap.objs.size<=b)/\b≠X.env.locals/\(∀x c,X.env.cells.lookup x=Z c->c≠b)/\∀p∈X.pn++gV,p.1≠b):Inv X gV σ H' s':=by
 let(h',g',q,t',o'):=s';let e:=ho;subst e;exact I.call u hok hg g
end
abbrev XK:=B->Option J->Hp->Prop
abbrev St:=List (Option V)
abbrev VK:=V->Hp->Prop
abbrev TE:=St->Hp->VK->Prop
abbrev TT:=St->Hp->(Bool->Hp->Prop)->Prop
abbrev TA:=St->Hp->(List V->Hp->Prop)->Prop
structure Ends where
 nx:St->Hp->Prop
 rt:VK
 bk:St->Hp->Prop:=λ_ _=>False
 ct:St->Hp->Prop:=λ_ _=>False
abbrev TS:=Ends->St->Hp->Prop
inductive EP(X:Cx)(gV:List (J×Obj))(σ:St)(Q:VK)(u:B)(s':ϋ):Prop
 |mk(v H')(h1:Inv X gV σ H' s')(h2:RelV v u)(h3:Q v H')
inductive TP(X:Cx)(gV:List (J×Obj))(σ:St)(Q:Bool->Hp->Prop)(b:Bool)(s':ϋ):Prop
 |mk(H')(h1:Inv X gV σ H' s')(h2:Q b H')
inductive AP(X:Cx)(gV:List (J×Obj))(σ:St)(Q:List V->Hp->Prop)(us:List B)(s':ϋ):Prop
 |mk(vs H')(h1:Inv X gV σ H' s')(h2:Vals vs us)(h3:Q vs H')
def SP(X:Cx)(gV:List (J×Obj))(D:Ends)(f:Flow)(s':ϋ):Prop :=
 match f with
 |.next=>∃g H',Inv X gV g H' s'/\D.nx g H'
 |.brk=>∃g H',Inv X gV g H' s'/\D.bk g H'
 |.cont=>∃g H',Inv X gV g H' s'/\D.ct g H'
 |.ret u=>∃v g H',Inv X gV g H' s'/\RelV v u/\D.rt v H'
def PE(X:Cx)(e:Ev)(t:TE):Prop :=
 ∀(gV:List (J×Obj))(s:ϋ)(σ:St)(H:Hp)(Q:VK),Inv X gV σ H s->t σ H Q->wpAny (model X.prog X.w) X.A (eval e X.env) (EP X gV σ Q) X.xe s
def PT(X:Cx)(e:Ev)(t:TT):Prop :=
 ∀(gV:List (J×Obj))(s:ϋ)(σ:St)(H:Hp)(Q:Bool->Hp->Prop),Inv X gV σ H s->t σ H Q->wpAny (model X.prog X.w) X.A (isTrue e X.env (eval e X.env)) (TP X gV σ Q) X.xe s
def PW(X:Cx)(e:Ev)(t:TT):Prop :=
 ∀(whole:Sem B)(gV:List (J×Obj))(s:ϋ)(σ:St)(H:Hp)(Q:Bool->Hp->Prop),Inv X gV σ H s->t σ H Q->wpAny (model X.prog X.w) X.A (isTrue e X.env whole) (TP X gV σ Q) X.xe s
variable{X:Cx}{e:Ev}
def PW.pt(h:PW X e t):PT X e t:=h _
def PA(X:Cx)(es:List Ev)(t:TA):Prop :=
 ∀(pos:Pos)(gV:List (J×Obj))(s:ϋ)(σ:St)(H:Hp)(Q:List V->Hp->Prop),Inv X gV σ H s->t σ H Q->wpAny (model X.prog X.w) X.A (spliced (backTo pos (kz es X.env))) (AP X gV σ Q) X.xe s
def PS(X:Cx)(st:EQ)(t:TS):Prop :=
 ∀(gV:List (J×Obj))(s:ϋ)(σ:St)(H:Hp)(D:Ends),Inv X gV σ H s->t D σ H->wpAny (model X.prog X.w) X.A (exec st X.env) (SP X gV D) X.xe s
def PSs(X:Cx)(st:List EQ)(t:TS):Prop :=
 ∀(gV:List (J×Obj))(s:ϋ)(σ:St)(H:Hp)(D:Ends),Inv X gV σ H s->t D σ H->wpAny (model X.prog X.w) X.A (execs st X.env) (SP X gV D) X.xe s
variable{M:Model}{A:Db}{E:B->ϋ->Prop}
def thn{t:Sem α}{Q Q':α->ϋ->Prop}(h:wpAny M A t Q E s)(g:∀a s,Q a s->Q' a s):wpAny M A t Q' E s:=VG h g λ_ _ x=>x
variable{gV:List (J×Obj)}{Q:B->ϋ->Prop}{op:CmpOp}
section
inductive bK(i:Nat)(σ:St)(H:Hp)(Q:VK):Prop
 |mk(v)(h1:σ[i]?=Z (Z v))(h2:Q v H)
def tC(v:V):TE:=λ_ H Q=>Q v H
abbrev AS(x:Str):Prop:=(x ==("__debug__":Str))=false
def wq{pos:Pos}(P:X.N[i]?=Z x)(hv:Vis X.env.scope x)(hd:AS x:=by decide)(q:(x ==("__classdict__":Str))=false:=by decide):PE X (.Name x pos) (bK i):=by
 intro gV s σ H Q I h;let(v,e,h):=h;let(m,hn,hl):=I.loc;let(u,r,l):=hl i x v P e hv;let fin:EP X gV σ Q u s:=(v,H,I,r,h);obtain⟨g,hm⟩|⟨g,c,z,K⟩:=l
 ·exact wpAny_Name (wpAny_loadName_local I.ok.kind g hn hm fin) hd
 ·obtain g|g:=g
  ·exact wpAny_Name (wpAny_loadName_cell I.ok.kind g z K fin) hd
  ·exact wpAny_Name (wpAny_loadName_free I.ok.kind g z K fin q) hd
def bG:PE X (.Constant (.int i) j pos) (tC (.int i)):=λ_ _ _ H _ I h=>wpAny_Constant_int (.int i,H,I.tok _,(_,U),h)
def Sw:PE X (.Constant (.bool b) j pos) (tC (.bl b)):=λ_ _ _ H _ I h=>Constant_bool (.bl b,H,I,U,h)
def Pg:PE X (.Constant .none j pos) (tC .non):=λ_ _ _ H _ I h=>Constant_none (.non,H,I,U,h)
def dJ:PE X (.Constant (.str x) j pos) (tC (.str x)):=λ_ _ _ H _ I h=>Calls.Constant_str (.str x,H,I.tok _,(_,U),h)
def Gl(X:Cx)(x:Str):Prop:=X.env.kindOf x=Z .globalImplicit
def pP{E:B->ϋ->Prop}{s:ϋ}{σ:St}{pos:Pos}(I:Inv X gV σ H s)(hg:Gl X x)(hm:X.mg x=Z u)(h:Q u s)
  (hd:AS x:=by decide):wpAny (model X.prog X.w) X.A (eval (.Name x pos) X.env) Q E s :=
 Calls.Name_function_global I.ok.kind hg (Calls.loadGlobal_global (by rw[I.ok.glob];exact I.mod.glob.keeps I.bk) hm h) hd
def dM{E:B->ϋ->Prop}{s:ϋ}{σ:St}{pos:Pos}(I:Inv X gV σ H s)(hg:Gl X x)(hm:X.mg x=Y)(hv:bootBuiltins x=Z u)(h:Q u s)
  (hn:x ≠ "__name__":=by decide) (hd:AS x:=by decide):wpAny (model X.prog X.w) X.A (eval (.Name x pos) X.env) Q E s:=by
 let(mb,h1,h2):=I.mod.blt;exact Calls.Name_function_global I.ok.kind hg (Calls.loadGlobal_builtin (by rw[I.ok.glob];exact I.mod.glob.keeps I.bk) hm (by rw[I.ok.blt];exact h1.keeps I.bk) ((h2 x hn).trans hv) h) hd
def Lv(hg:Gl X x)(hm:X.mg x=Z u)(r:RelV v u)(hd:AS x:=by decide):PE X (.Name x pos) (tC v) :=
 λ_ _ _ H _ I h=>pP I hg hm (v,H,I,r,h) hd
def Lz{pos:Pos}(hg:Gl X x)(hm:X.mg x=Y)(hv:bootBuiltins x=Z u)(r:RelV v u)(hn:x ≠ "__name__":=by decide)(hd:AS x:=by decide):PE X (.Name x pos) (tC v) :=
 λ_ _ _ H _ I h=>dM I hg hm hv (v,H,I,r,h) hn hd
variable{a b:Ev}{ta tb:TE}{pos:Pos}
def HC(b:Ev)(h:op ≠ .In)(h2:op ≠ .NotIn):behindInMarks op b=false:=by
 let q:(op==CmpOp.In)=false:=by cases op <;> first|rfl|exact absurd U h
 let g:(op==CmpOp.NotIn)=false:=by cases op <;> first|rfl|exact absurd U h2
 cases b with
 |Set elts k pos =>
  show(k==0&&(op==CmpOp.In||op==CmpOp.NotIn)&&_)=ϊ
  rw[q,g]
  cases(k==0) <;> rfl
 |_=>rfl
def tB(t:TE):TT:=λσ H Q=>t σ H λx H1=>∃c,x=.bl c/\Q c H1
def OY(h:PE X e t)(he:∀whole,isTrue e X.env whole=(do let v <- whole;standAt e.pos;holding [v] (truthy v)):=by intro _;rfl):PT X e (tB t):=by
 intro gV s σ H Q I hw;refine isTrue_plain (thn (h gV s σ H _ I hw) λv s1 (x,H1,z,g,q1)=>?_) (he _)
 let(d,U,q):=q1;cases g;exact wpAny_truthy_bool (H1,z,q)
variable{tA tB':TT}{rest:List Ev}
def JN(t u:TT):TT:=λσ H Q=>t σ H λc H1=>if c=O then u σ H1 Q else Q ϊ H1
def tOr(t u:TT):TT:=λσ H Q=>t σ H λc H1=>if c=O then Q O H1 else u σ H1 Q
def Oh(t:TT):TT:=λσ H Q=>t σ H λc H1=>Q (!c) H1
def v5(ha:PT X a tA):PW X (.BoolOp .And [a] pos) tA:=by
 intro g gV s σ H Q I h;refine isTrue_and (thn (ha gV s σ H Q I h) λc s1 e=>?_)
 cases c with
 |true=>exact isTrue_and_nil e
 |false=>exact e
def OV(ha:PT X a tA):PW X (.BoolOp .Or [a] pos) tA:=by
 intro g gV s σ H Q I h;refine isTrue_or (thn (ha gV s σ H Q I h) λc s1 e=>?_)
 cases c with
 |false=>exact isTrue_or_nil e
 |true=>exact e
def AE(ha:PT X a tA)(K:PW X (.BoolOp .And (b::rest) pos) tB'):PW X (.BoolOp .And (a::b::rest) pos) (JN tA tB'):=by
 intro z gV s σ H Q I h;refine isTrue_and (thn (ha gV s σ H _ I h) λc s1 g=>?_)
 let(H1,q,q1):=g;cases c with
 |true=>exact K z gV s1 σ H1 Q q q1
 |false=>exact(H1,q,q1)
def Sk(ha:PT X a tA)(K:PW X (.BoolOp .Or (b::rest) pos) tB'):PW X (.BoolOp .Or (a::b::rest) pos) (tOr tA tB'):=by
 intro z gV s σ H Q I h;refine isTrue_or (thn (ha gV s σ H _ I h) λc s1 g=>?_)
 let(H1,q,q1):=g;cases c with
 |true=>exact(H1,q,q1)
 |false=>exact K z gV s1 σ H1 Q q q1
def OZ(ha:PT X a tA):PT X (.UnaryOp .Not a pos) (Oh tA):=by
 intro gV s σ H Q I h;refine isTrue_not (thn (ha gV s σ H (λc H1=>Q (!c) H1) I h) λc s' z=>?_)
 let(H',g,q):=z;exact(H',g,q)
def tIf(t:TT)(ta tb:TE):TE:=λσ H Q=>t σ H λc H1=>if c=O then ta σ H1 Q else tb σ H1 Q
def Hb(z:PT X c tA)(ha:PE X a ta)(K:PE X b tb):PE X (.IfExp c a b pos) (tIf tA ta tb):=by
 intro gV s σ H Q I h;refine wpAny_IfExp (thn (z gV s σ H _ I h) λd s1 g=>?_)
 let(H1,q,q1):=g;cases d with
 |true=>exact ha gV s1 σ H1 Q q q1
 |false=>exact K gV s1 σ H1 Q q q1
end
def SqL(K:BT)(H:Hp)(a:J)(xs:List V):Prop :=
 Rd H a (.lst xs) \/
  ∃(o:Obj)(its:Array B)(n:Nat),K.lookup a=Z o/\o.cls=.type "list" /\ o.dict=Y/\o.data=.seq its n/\its.size<=mV/\Vals xs its.toList
def SqT(K:BT)(H:Hp)(a:J)(xs:List V):Prop :=
 Rd H a (.tup xs) \/
  ∃(o:Obj)(its:Array B)(n:Nat),K.lookup a=Z o/\o.cls=.type "tuple" /\ o.data=.seq its n/\its.size<=mV/\Vals xs its.toList
def Vo:B->Option V
 |.none=>Z .non
 |.bool b=>Z (.bl b)
 |.int i _=>Z (.int i)
 |.str x _=>Z (.str x)
 |.bytes b _=>Z (.byt b)
 |.float b _=>Z (.flt b)
 |.ref a=>Z (.ref a)
 |.type n=>Z (.ty n)
 |_=>Y
def RelV.abs{x:V}(r:RelV x u):Vo u=Z x:=by
 cases x with
 |non=>cases r;rfl
 |bl _=>cases r;rfl
 |int _=>let(t,U):=r;rfl
 |str _=>let(t,U):=r;rfl
 |byt _=>let(t,U):=r;rfl
 |flt _=>let(t,U):=r;rfl
 |ref _=>cases r;rfl
 |ty _=>cases r;rfl
theorem RelV.inj{x y:V}(r:RelV x u)(q:RelV y u):x=y:=Option.some.inj (r.abs.symm.trans q.abs)
theorem Vals.inj:∀{xs ys:List V}{us:List B},Vals xs us->Vals ys us->xs=ys:=by
 intro xs ys us h
 induction h generalizing ys with
 |nil=>intro h';cases h';rfl
 |cons r t q=>intro h';cases h' with|cons g t'=>rw[r.inj g,q t']
section
variable{σ:St}{s:ϋ}{xs ys:List V}
theorem SqL.of{K:BT}(h:H a=Z (.lst xs)):SqL K H a xs:=.inl (.inl h)
theorem SqT.of{K:BT}(h:H a=Z (.tup xs)):SqT K H a xs:=.inl (.inl h)
def Inv.list(I:Inv X gV σ H s)(h:SqL X.K H a xs):∃its:List B,Vals xs its/\PlainL s.heap a its.toArray/\xs.length<=mV:=by
 obtain h |⟨o,its,n,g,q,hd,hs,P,r⟩:=h
 ·let(z,its,n,r,e):=h.ok I.hok;exact(its,r,(_,n,e,U,U,U),z)
 ·refine(its.toList,r,(o,n,I.kIn a o g,q,hd,by simpa using hs),?_)
  let e:=r.length;simp only[V5]at e
  lia
def Inv.tuple(I:Inv X gV σ H s)(h:SqT X.K H a xs):∃its:List B,Vals xs its/\IsTup s.heap a its.toArray/\xs.length<=mV:=by
 obtain h |⟨o,its,n,g,q,hs,P,r⟩:=h
 ·let(z,its,r,p):=h.ok I.hok;exact(its,r,p.1,z)
 ·refine(its.toList,r,(o,I.kIn a o g,q,n,by simpa using hs),?_)
  let e:=r.length;simp only[V5]at e;omega
def Inv.yZ(I:Inv X gV σ H s)(h:SqL X.K H a xs)(h':SqL X.K H a ys):xs=ys:=by
 let(its,r,(o,n,e,_,_,d),_):=I.list h;let(its',q,(o',n',e',_,_,g),_):=I.list h';rw[e]at e';cases e';rw[d]at g;injection g with d1 _
 have:=by simpa using congrArg Array.toList d1
 subst this;exact r.inj q
def Inv.uw(I:Inv X gV σ H s)(h:SqT X.K H a xs)(h':SqT X.K H a ys):xs=ys:=by
 let(its,r,(o,e,_,n,d),_):=I.tuple h;let(its',q,(o',e',_,n',g),_):=I.tuple h';rw[e]at e';cases e';rw[d]at g;injection g with d1 _
 have:=by simpa using congrArg Array.toList d1
 subst this;exact r.inj q
end
abbrev Cx.sZ(X:Cx)(E:B->ϋ->Prop):Cx:={X with xe:=E}
abbrev Cx.nox(X:Cx):Cx:=X.sZ λ_ _=>False
theorem Cx.Ok.sZ(ok:X.Ok)(E:B->ϋ->Prop):(X.sZ E).Ok :=
 (ok.mod,ok.kind,ok.glob,ok.blt,ok.above,ok.inj,ok.has,ok.cab,ok.hd,ok.frames,ok.stk,ok.exf,ok.bs,ok.bsz,ok.HB,ok.MR,ok.pe,ok.frf)
def Cx.Ok.js(ok:(X.sZ E).Ok):X.Ok :=
 (ok.mod,ok.kind,ok.glob,ok.blt,ok.above,ok.inj,ok.has,ok.cab,ok.hd,ok.frames,ok.stk,ok.exf,ok.bs,ok.bsz,ok.HB,ok.MR,ok.pe,ok.frf)
section
variable{σ:St}{s:ϋ}
theorem Inv.sZ(I:Inv X gV σ H s)(E:B->ϋ->Prop):Inv (X.sZ E) gV σ H s:=(I.ok.sZ E,I.os,I.bare,I.base,I.loc,I.cell,I.free,I.gx,I.pin,I.hok,I.len)
theorem Inv.js(I:Inv (X.sZ E) gV σ H s):Inv X gV σ H s:=(I.ok.js,I.os,I.bare,I.base,I.loc,I.cell,I.free,I.gx,I.pin,I.hok,I.len)
theorem SP.js(h:SP (X.sZ E) gV D f s'):SP X gV D f s':=by
 cases f with
 |next=>let(g,H',I,q):=h;exact(g,H',I.js,q)
 |brk=>let(g,H',I,q):=h;exact(g,H',I.js,q)
 |cont=>let(g,H',I,q):=h;exact(g,H',I.js,q)
 |ret u=>let(v,g,H',I,r,q):=h;exact(v,g,H',I.js,r,q)
theorem PSs.nox{st:List EQ}(h:PSs X.nox st t):PSs X st t:=λgV s σ H D I hw =>
 VG (h gV s σ H D (I.sZ _) hw) (λ_ _ q=>q.js) λ_ _ z=>False.elim z
end
section
variable{st:EQ}{rest:List EQ}{t u:TS}{te:TE}{pos:Pos}
def BO:TS:=λD σ H=>D.nx σ H
def Rm(t u:TS):TS:=λD σ H=>t {D with nx:=u D} σ H
def Ci:PSs X [] BO:=λ_ _ σ H _ I h=>wpAny_execs_nil (σ,H,I,h)
def cp(h1:PS X st t)(h2:PSs X rest u):PSs X (st::rest) (Rm t u):=by
 intro gV s σ H D I h;refine wpAny_execs_cons (thn (h1 gV s σ H {D with nx:=u D} I h) λf s1 q=>?_)
 cases f with
 |next =>
  let(g,H',z,q):=q;exact h2 gV s1 g H' D z q
 |ret v=>exact q
 |brk=>exact q
 |cont=>exact q
def iL(h1:PS X st t):PSs X [st] t:=by
 intro gV s σ H D I h;refine wpAny_execs_cons (thn (h1 gV s σ H D I h) λf s1 q=>?_)
 cases f with
 |next=>exact wpAny_execs_nil q
 |ret v=>exact q
 |brk=>exact q
 |cont=>exact q
def K9:PS X (.Pass pos) BO:=λ_ _ σ H _ I h=>wpAny_Pass (σ,H,I,h)
def Inv.quiet{σ:St}(I:Inv X gV σ H s):interactive X.env=false:=by simp[interactive,I.ok.kind]
def gD(te:TE):TS:=λD σ H=>te σ H λ_ H1=>D.nx σ H1
def fP(he:PE X e te)(hs:swapsWith e Y pos.line X.env=pure false:=by rfl):PS X (.Expr e pos) (gD te):=by
 intro gV s σ H D I h;exact wpAny_Expr_any (thn (he gV s σ H _ I h) λv s1 (x,H1,g,q,q1)=>(σ,H1,g,q1)) I.quiet hs
def JL(te:TE):TS:=λD σ H=>te σ H D.rt
def nC(he:PE X e te):PS X (.Return (Z e) pos) (JL te):=by
 intro gV s σ H D I h;exact wpAny_Return_some (thn (he gV s σ H _ I h) λv s1 (x,H1,q,g,q1)=>(x,σ,H1,q,g,q1))
def Nm:TS:=λD _ H=>D.rt .non H
def K8:PS X (.Return Y pos) Nm:=λ_ _ σ H _ I h=>wpAny_Return_none (.non,σ,H,I,U,h)
def Ro(c:TT)(t u:TS):TS:=λD σ H=>c σ H λb H1=>if b=O then t D σ H1 else u D σ H1
def NH{a b:List EQ}(z:PT X c tc)(ha:PSs X a t)(K:PSs X b u):PS X (.If c a b pos) (Ro tc t u):=by
 intro gV s σ H D I h;refine wpAny_If (thn (z gV s σ H _ I h) λd s1 g=>?_)
 let(H1,q,q1):=g;cases d with
 |true=>exact ha gV s1 σ H1 D q q1
 |false=>exact K gV s1 σ H1 D q q1
end
abbrev TG:=V->St->Hp->(St->Hp->Prop)->Prop
abbrev TGs:=List V->St->Hp->(St->Hp->Prop)->Prop
def PG(X:Cx)(target:Ev)(t:TG):Prop :=
 ∀(gV:List (J×Obj))(s:ϋ)(σ:St)(H:Hp)(v:V)(u:B)(Q:St->Hp->Prop),Inv X gV σ H s->RelV v u->t v σ H Q ->
  wpAny (model X.prog X.w) X.A (assign target X.env u) (λ_ s'=>∃g H',Inv X gV g H' s'/\Q g H') X.xe s
def PGs(X:Cx)(ts:List Ev)(t:TGs):Prop :=
 ∀(gV:List (J×Obj))(s:ϋ)(σ:St)(H:Hp)(vs:List V)(us:List B)(Q:St->Hp->Prop),Inv X gV σ H s->Vals vs us->t vs σ H Q ->
  wpAny (model X.prog X.w) X.A (assignInOrder ((assignEach ts X.env).map (·.2)) us) (λ_ s'=>∃g H',Inv X gV g H' s'/\Q g H') X.xe s
abbrev QM:=V->V->V->Hp->(Hp->Prop)->Prop
def QN(X:Cx)(t:QM):Prop :=
 ∀(gV:List (J×Obj))(s:ϋ)(σ:St)(H:Hp)(o i v:V)(g iv u:B)(Q:Hp->Prop),Inv X gV σ H s->RelV o g->RelV i iv->RelV v u->t o i v H Q ->
  wpAny (model X.prog X.w) X.A (setItem g iv u) (λ_ s'=>∃H',Inv X gV σ H' s'/\Q H') X.xe s
abbrev TIp:=V->V->Hp->VK->Prop
def PIp(X:Cx)(op:Operator)(t:TIp):Prop :=
 ∀(gV:List (J×Obj))(s:ϋ)(σ:St)(H:Hp)(x y:V)(v u:B)(Q:VK),Inv X gV σ H s->RelV x v->RelV y u->t x y H Q ->
  wpAny (model X.prog X.w) X.A (inplaceOp op v u) (EP X gV σ Q) X.xe s
variable{es:List Ev}{n:Nat}{o:Ev}{to:TE}{te:TE}{pos':Pos}{b:Ev}
section
variable{pos:Pos}
def gw(i:Nat):TG:=λv σ H Q=>Q (σ.set i (Z v)) H
def mf(g:X.N.Nodup)(hi:X.N[i]?=Z x)(hx:Loc X.env.scope x)(hf:AT X x:=by first|exact .inl rfl|exact .inr rfl|assumption):PG X (.Name x pos) (gw i):=by
 intro gV s σ H v u Q I r h;exact wpAny_assign_Name (hV I g hi hx r (λs' q=>(_,H,q,h)) hf)
def Qh:TGs:=λvs σ H Q=>vs=[]/\Q σ H
def CK(t:TG)(u:TGs):TGs:=λvs σ H Q=>∃v r,vs=v::r/\t v σ H λg H'=>u r g H' Q
def d8:PGs X [] Qh:=by
 intro gV s σ H vs us Q I r h;let(e,h):=h;subst e;exact assignInOrder_nil (σ,H,I,h)
def aL{u:TGs}(h1:PG X e t)(h2:PGs X es u)
  (hs:(assignEach (e::es) X.env).map (·.2)=assign e X.env ::(assignEach es X.env).map (·.2):=by rfl):PGs X (e::es) (CK t u):=by
 intro gV s σ H vs us Q I r h;let(v,P,z,h):=h;subst z;cases r with
 |cons r q =>
  rw[hs];exact assignInOrder_cons (thn (h1 gV s σ H _ _ _ I r h) λ_ s1 (g,H1,K,q1)=>(h2 gV s1 g H1 _ _ Q K q q1))
inductive MN(K:BT)(n:Nat)(t:TGs)(v:V)(σ:St)(H:Hp)(Q:(St->Hp->Prop)):Prop
 |mk(a xs)(h1:v=.ref a)(h2:SqT K H a xs)(h3:xs.length=n)(h4:t xs σ H Q)
def Pf{k:Nat}(z:X.calm=O)(h:PGs X es t)
  (hn:(assignEach es X.env).length=n:=by rfl) (g:(assignEach es X.env).findIdx? (·.1)=none:=by rfl):PG X (.Tuple es k pos) (MN X.K n t):=by
 intro gV s σ H v u Q I r hw;let(a,xs,P,hq,hl,hw):=hw;subst P;cases r;let(its,rv,q,hz):=I.tuple hq;refine assign_Tuple_tuple (I.ok.hd z) q (by simp[hn,<- hl,rv.length]) g λh' hx=>?_
 let V:=I.kept (t':=s.toks) λb o e=>hx b o (sR (kE e)) e
 exact h gV _ σ H xs _ Q V (by simpa using rv) hw
def Iq(to ti:TE)(t:QM):TG:=λv σ H Q=>to σ H λo H1=>ti σ H1 λi H2=>t o i v H2 λg=>Q σ g
def G7(ho:PE X o to)(hi:PE X i ti)(hs:QN X t)
  (ha:∀v,assign (.Subscript o i pos) X.env v=(do
   let g <- holding [v] (eval o X.env)
   let iv <- holding [v,g] (eval i X.env)
   standAt pos
   holding [v,g,iv] (setItem g iv v)
   release [v,g,iv] []):=by intro _;rfl):PG X (.Subscript o i pos) (Iq to ti t):=by
 intro gV s σ H v u Q I r h;exact cO (E7 (thn (ho gV s σ H _ I h) λg s1 (x,H1,I1,z,q1)=>(cO (E7 (thn (hi gV s1 σ H1 _ I1 q1) λiv s2 (y,H2,I2,q,P)=>(cO (wpAny_standAt (cO (E7 (thn (hs gV s2 σ H2 x y v g iv u _ I2 z q r P) λ_ s3 (H3,V,K)=>(wpAny_release (σ,H3,V,K))))))))))))
def jj(te:TE)(g:TG):TS:=λD σ H=>te σ H λx H1=>g x σ H1 D.nx
def v8(he:PE X e te)(hg:PG X tg g)(hs:swapsWithSole [tg] e pos.line X.env=pure false:=by rfl)(hw:swappedStores [tg] e X.env=pure none:=by rfl)
  (h1:(assignEach [tg] X.env).map (·.2)=[assign tg X.env]:=by rfl):PS X (.Assign [tg] e pos) (jj te g):=by
 intro gV s σ H D I h;refine wpAny_Assign_stores (thn (he gV s σ H _ I h) λv s1 z=>?_) hs hw
 let(x,H1,P,K,q1):=z;rw[h1];exact thn (hg gV s1 σ H1 x v _ P K q1) λ_ s2 q=>q
def iM(q:X.N.Nodup)(hi:X.N[i]?=Z x)(hx:Loc X.env.scope x)(he:PE X e te)(hs:swapsWith e (Z (.Name x pos')) pos.line X.env=pure false:=by rfl)(hf:AT X x:=by first|exact .inl rfl|exact .inr rfl|assumption):
  PS X (.Assign [.Name x pos'] e pos) (jj te (gw i)):=by
 intro gV s σ H D I h;exact wpAny_Assign_Name (thn (he gV s σ H _ I h) λv s1 (y,H1,K,g,q1)=>(hV K q hi hx g (λs2 z=>(_,H1,z,q1)) hf)) hs
def Og(i j:Nat)(ta:TA):TS:=λD σ H=>ta σ H λvs H1=>∃v w,vs=[v,w]/\D.nx ((σ.set i (Z v)).set j (Z w)) H1
abbrev BC(X:Cx)(x:Str):Prop:=X.env.scope.names.lookup x=some .local
def O0{a:Ev}{K py pt:Pos}(hc:X.calm=O)(hN:X.N.Nodup)(hi:X.N[i]?=Z x)(hj:X.N[j]?=Z y)(Q:i≠j)
  (hx:BC X x) (hy:BC X y) (ha:PA X [a,b] ta)
  (hw:swappedStores [.Tuple [.Name x K,.Name y py] kt pt] (.Tuple [a,b] k2 g) X.env=pure (Z [x,y]))
  (hs:swapsWithSole [.Tuple [.Name x K,.Name y py] kt pt] (.Tuple [a,b] k2 g) pos.line X.env=pure false:=by rfl):
  PS X (.Assign [.Tuple [.Name x K,.Name y py] kt pt] (.Tuple [a,b] k2 g) pos) (Og i j ta):=by
 intro gV s σ H D I h;refine cO (wpAny_standAt ?_);refine cO (k4 ?_);refine cO (Tuple_ (thn (ha _ gV s σ H _ I h) λus s1 V=>?_))
 let(vs,H1,I1,r1,q1):=V;let(v,w,e1,q1):=q1;subst e1;obtain⟨u1,u2,rfl,rv,z⟩:∃u1 u2,us=[u1,u2]/\RelV v u1/\RelV w u2:=by
  cases r1 with
  |cons p q =>
   cases q with
   |cons p' q' =>
    cases q';exact(_,_,U,p,p')
 refine VQ ?_ (by show 2<=mV;decide)
 let I2:Inv X gV σ H1 {s1 with heap:=s1.heap.push {cls:=.type "tuple",data:=.seq [u1,u2].toArray}}:=I1.kept λb o e=>ja _ e
 rw[hw];refine cO (k4 ?_);refine cO (VL (cO (unpackItems_tuple (items:=#[u1,u2]) (I.ok.hd hc) (IsTup.new s1.heap _) λh' P=>?_)))
 let I3:=I2.kept (t':=s1.toks) λb o e=>P b o (sR (kE e)) e
 refine cO (assignInOrder_cons (wpAny_bindName (hV I3 hN hj (.inl hy) z (λs2 I4=>(assignInOrder_cons (wpAny_bindName (hV I4 hN hi (.inl hx) rv (λs3 I5=>assignInOrder_nil (k4 ?_)) (.inr hx))))) (.inr hy))))
 rw[List.set_comm _ _ (Ne.symm Q)]at I5;exact(_,H1,I5,q1)
def Rt(i:Nat)(te:TE)(ti:TIp):TS:=λD σ H=>∃x,σ[i]?=Z (Z x)/\te σ H λy H1=>ti x y H1 λz H2=>D.nx (σ.set i (Z z)) H2
def O2{op:Operator}(hN:X.N.Nodup)(hi:X.N[i]?=Z x)(hx:Loc X.env.scope x)(he:PE X e te)(ho:PIp X op ti)(hf:AT X x:=by first|exact .inl rfl|exact .inr rfl|assumption):
  PS X (.AugAssign (.Name x pos') op e pos) (Rt i te ti):=by
 intro gV s σ H D I h;let(v,e1,h):=h;let(m,hn,hl):=I.loc;let K:Vis X.env.scope x:=by obtain k|k:=hx;exact .inl k;exact .inr (.inl k)
 let(u,r,l):=hl i x v hi e1 K;refine wpAny_AugAssign_Name ?_;let go:wpAny (model X.prog X.w) X.A (eval e X.env) (λw s₂=>wpAny (model X.prog X.w) X.A (inplaceOp op u w) (λr q=>wpAny (model X.prog X.w) X.A (storeName X.env x r) (λ_=>SP X gV D .next) X.xe q) X.xe s₂) X.xe s:=by
  exact thn (he gV s σ H _ I h) λw s1 (y,H1,I1,Q,q1)=>(thn (ho gV s1 σ H1 v y u w _ I1 r Q q1) λz s2 (zv,H2,I2,P,V)=>(hV I2 hN hi hx P (λs3 I3=>(_,H2,I3,V)) hf))
 obtain⟨g,hm⟩|⟨g,c,hc,gq⟩:=l
 ·exact wpAny_loadName_local I.ok.kind g hn hm go
 ·obtain g|g:=g
  ·exact wpAny_loadName_cell I.ok.kind g hc gq go
  ·obtain k|k:=hx
   ·have:X.env.scope.names.lookup x=Z .free:=g
    rw[k]at this;cases this
   ·have:X.env.scope.names.lookup x=Z .free:=g
    rw[k]at this;cases this
inductive ipI(f:Int->Int->Int)(x:V)(y:V)(H:Hp)(Q:VK):Prop
 |mk(i j)(h1:x=.int i)(h2:y=.int j)(h3:Q (.int (f i j)) H)
def P0:PIp X .Add (ipI λi j=>i+j):=by
 intro gV s σ H x y v u Q I z g h;let(i,j,P,K,q):=h;subst P;subst K;let(t,U):=z;let(t',U):=g;exact iadd_int (.int _,H,I.tok _,(_,U),q)
end
variable{body:List EQ}
section
variable{pos:Pos}
def vq(c:TT)(tb:TS):TS:=λD σ H=>∃W:Nat->St->Hp->Prop,(∃m,W m σ H)/\∀m σ H,W m σ H ->
 c σ H λb H1=>if b=O then ∃N:St->Hp->Prop,(∀g H',N g H'->∃m',m'<m/\W m' g H')/\tb {D with nx:=N,ct:=N,bk:=D.nx} σ H1 else D.nx σ H1
def qY(hp:Xr (model X.prog X.w) X.A X.env X.xe)(hc:PT X c tc)(hb:PSs X body tb):PS X (.While c body [] pos) (vq tc tb):=by
 intro gV s σ H D I h;let(W,(m0,w0),turn):=h;refine wpAny_While (codeAny_whileLoop (λn s'=>∃z H',Inv X gV z H' s'/\W n z H') ?_ m0 (σ,H,I,w0))
 rintro n s1 ⟨q,H1,I1,w1⟩
 refine wpAny_passesOwn hp (thn (hc gV s1 q H1 _ I1 (turn n q H1 w1)) λb s2 V=>?_)
 let(H2,I2,Q):=V;cases b with
 |true =>
  let(N,hN,Q):=Q;refine wpAny_passesOwn hp (thn (hb gV s2 q H2 _ I2 Q) λf s3 P=>?_)
  cases f with
  |next =>
   let(g,K,I3,n3):=P;let(m',hm,w3):=hN g K n3;exact(m',hm,g,K,I3,w3)
  |cont =>
   let(g,K,I3,n3):=P;let(m',hm,w3):=hN g K n3;exact(m',hm,g,K,I3,w3)
  |brk=>exact P
  |ret v=>exact P
 |false =>
  exact wpAny_execs_nil (q,H2,I2,Q)
end
structure It where
 go:Nat->Hp->Prop
 yld:Nat->Hp->V->Hp->Prop
 stop:Nat->Hp->Prop
def sS(X:Cx)(gV:List (J×Obj))(H:Hp)(b:J):Prop :=
 H b=Y/\b≠X.env.locals/\b ∉ X.fs/\(b∈X.ex\/X.s₀.heap.objs.size<=b)/\(∀x c,X.env.cells.lookup x=Z c->c≠b)/\∀p∈X.pn++gV,p.1≠b
variable{H':Hp}
def Inv.Ir{σ:St}{s:ϋ}{b:J}(I:Inv X gV σ H s)(g:s.heap.objs.size<=b)(hn:H' b=Y):sS X gV H' b:=by
 refine(hn,Jh (zI I.lt g),I.SF g,.inr (u4 I.sz g),λx c e z=>?_,λp hp z=>?_)
 ·let(v,q):=I.cell x c e;exact absurd (zI q.lt (by rw[z];exact g)) (V3 _)
 ·exact absurd (zI (kE (I.pin p hp).1) (by rw[z];exact g)) (V3 _)
structure Turn(P:Da)(w:Cl)(K:BT)(tg:Ev)(Yc:It)(fp:List J)(it:J)(tn:Nat->Do->Prop):Prop where
 mem:it∈fp
 obj:∀i h,tn i h->∀b∈fp,∃o,h.get? b=Z o/\∀v,o.data ≠ .cell v
 keep:∀i h h',tn i h->(∀b∈fp,∀o,h.get? b=Z o->h'.get? b=Z o)->tn i h'
 item:∀(X:Cx),X.prog=P->X.w=w->X.K=K->X.calm=O->∀(i:Nat)(gV:List (J×Obj))(s:ϋ)(σ:St)(H:Hp)(E:B->ϋ->Prop),Inv X gV σ H s->(∀b∈fp,sS X gV H b)->tn i s.heap->Yc.go i H ->
  wpAny (model P w) X.A (pyNext (.ref it)) (λr s1=>∃u,r=Z u /\
   wpAny (model P w) X.A (letOwnedTupleGo tg (.ref it) u) (λ_ s2=>∃x H',Inv X gV σ H' s2/\RelV x u/\Yc.yld i H x H'/\tn (i+1) s2.heap/\∀b∈fp,H' b=Y) E s1) E s
 done:∀(X:Cx),X.prog=P->X.w=w->X.K=K->X.calm=O->∀(i:Nat)(gV:List (J×Obj))(s:ϋ)(σ:St)(H:Hp)(E:B->ϋ->Prop),Inv X gV σ H s->(∀b∈fp,sS X gV H b)->tn i s.heap->Yc.stop i H ->
  wpAny (model P w) X.A (pyNext (.ref it)) (λr s1=>r=Y/\Inv X gV σ H s1) E s
 self:∀(A:Db)(i:Nat)(s:ϋ)(Q:B->ϋ->Prop)(E:B->ϋ->Prop),tn i s.heap->Q (.ref it) s->wpAny (model P w) A (pyIter (.ref it)) Q E s
abbrev TI:=St->Hp->(It->Hp->Prop)->Prop
def PIE(X:Cx)(gV:List (J×Obj))(σ:St)(tg:Ev)(R:It->Hp->Prop)(g:B)(s2:ϋ):Prop :=
 ∃(it:J)(fp:List J)(tn:Nat->Do->Prop)(Yc:It)(H':Hp),g=.ref it/\Inv X gV σ H' s2/\Turn X.prog X.w X.K tg Yc fp it tn/\tn 0 s2.heap/\(∀b∈fp,sS X gV H' b)/\R Yc H'
def PI(X:Cx)(tg iter:Ev)(wi:TI):Prop :=
 ∀(gV:List (J×Obj))(s:ϋ)(σ:St)(H:Hp)(R:It->Hp->Prop),Inv X gV σ H s->wi σ H R ->
  wpAny (model X.prog X.w) X.A (eval iter X.env) (λv s1=>wpAny (model X.prog X.w) X.A (pyIter v) (PIE X gV σ tg R) X.xe s1) X.xe s
def Im{tg:Ev}{o:Obj}{n:String}{vs:Array B}{Q:Unit->ϋ->Prop}(ho:s.heap.get? it=Z o)(q:o.cls=.type n)(hd:o.data=.fields vs)
  (hn:["enumerate","zip","dict_itemiterator","dict_reverseitemiterator","odict_iterator","itertools.zip_longest","itertools.pairwise"].contains n=ϊ) (g:Q () s):wpAny M A (letOwnedTupleGo tg (.ref it) u) Q E s:=by
 cases tg <;> first
  |exact k4 g
  | (cases u <;> first
    |exact k4 g
    | (refine cO (wpAny_load ho ?_)
       rw[q,hd];show wpAny M A (if(["enumerate","zip","dict_itemiterator","dict_reverseitemiterator","odict_iterator","itertools.zip_longest","itertools.pairwise"].contains n&&vs[0]? == Z (rawInt _))=O then _ else _) Q E s
       rw[if_neg (by intro h;rw[hn]at h;cases h)]
       exact k4 g))
def Itl(K:BT)(a:J):It :=
 (λi H=>∃xs x,SqL K H a xs/\xs[i]?=Z x,λi H x H'=>H'=H/\∀xs,SqL K H a xs->xs[i]?=Z x,λi H=>∃xs,SqL K H a xs/\xs.length<=i)
def Itt(K:BT)(a:J):It :=
 (λi H=>∃xs x,SqT K H a xs/\xs[i]?=Z x,λi H x H'=>H'=H/\∀xs,SqT K H a xs->xs[i]?=Z x,λi H=>∃xs,SqT K H a xs/\xs.length<=i)
def Itr(lo:Int)(n:Nat):It:=(λi _=>i<n,λi H x H'=>H'=H/\x=.int (lo+i),λi _=>n<=i)
theorem DB{K:BT}(a it:J):Turn P w K tg (Itl K a) [it] it (λi h=>h.IsListIter it a i) where
 mem:=by simp
 obj:=λi h st b g=>by
  let e:=by simpa using g
  subst e;let(o,e,c,d):=st;exact(o,e,λv z=>by rw[d]at z;cases z)
 keep:=λi h h' st k=>st.at λo e=>k it (by simp) o e
 item:=by
  intro X Q hw V hc i gV s σ H E I hf st hg;subst Q hw V;let(xs,x,hq,hx):=hg;let(its,rv,p,hz):=I.list hq;let(u,hu,ru):=rv.get hx;let(f0,f1,f2,f3,f4,f5):=hf it (by simp)
  refine wpAny_pyNext_list_item st p.isList (by simpa using hu) λh' q sb=>?_
  let I1:=I.turned (t':=s.toks) (λb o g e=>(sb.2 b g).trans e) f0 f1 f3 f4 f5
  let(o,e,c,d):=id q;exact(u,U,Im e c d (by decide) (x,H,I1,ru,(U,λys hy=>by rw[I.yZ hy hq];exact hx),q,λb g=>(hf b g).1))
 done:=by
  intro X Q hw V hc i gV s σ H E I hf st hg;subst Q hw V;let(xs,hq,hx):=hg;let(its,rv,p,hz):=I.list hq;let(f0,f1,f2,f3,f4,f5):=hf it (by simp)
  let hl:=rv.length;exact wpAny_pyNext_list_end (I.ok.hd hc) st p.isList (by simp;lia) λh' eb=>(U,I.turned (λb o g e=>eb b o g e) f0 f1 f3 f4 f5)
 self:=λ_ _ _ _ _ st h=>wpAny_pyIter_listiter st h
theorem z6{K:BT}(a it:J):Turn P w K tg (Itt K a) [it] it (λi h=>h.IsTupleIter it a i) where
 mem:=by simp
 obj:=λi h st b g=>by
  let e:=by simpa using g
  subst e;let(o,e,c,d):=st;exact(o,e,λv z=>by rw[d]at z;cases z)
 keep:=λi h h' st k=>st.at λo e=>k it (by simp) o e
 item:=by
  intro X Q hw V hc i gV s σ H E I hf st hg;subst Q hw V;let(xs,x,hq,hx):=hg;let(its,rv,p,hz):=I.tuple hq;let(u,hu,ru):=rv.get hx;let(f0,f1,f2,f3,f4,f5):=hf it (by simp)
  refine wpAny_pyNext_tuple_item st (p) (by simpa using hu) λh' q sb=>?_
  let I1:=I.turned (t':=s.toks) (λb o g e=>(sb.2 b g).trans e) f0 f1 f3 f4 f5
  let(o,e,c,d):=id q;exact(u,U,Im e c d (by decide) (x,H,I1,ru,(U,λys hy=>by rw[I.uw hy hq];exact hx),q,λb g=>(hf b g).1))
 done:=by
  intro X Q hw V hc i gV s σ H E I hf st hg;subst Q hw V;let(xs,hq,hx):=hg;let(its,rv,p,hz):=I.tuple hq;let(f0,f1,f2,f3,f4,f5):=hf it (by simp)
  let hl:=rv.length;exact wpAny_pyNext_tuple_end (I.ok.hd hc) st (p) (by simp;omega) λh' eb=>(U,I.turned (λb o g e=>eb b o g e) f0 f1 f3 f4 f5)
 self:=λ_ _ _ _ _ st h=>wpAny_pyIter_tupleiter st h
theorem z7{K:BT}(it:J)(lo:Int)(n:Nat):Turn P w K tg (Itr lo n) [it] it (λi h=>IsRangeIter h it (lo+(i:Nat)*1) ((n:Int) - (i:Nat)) 1) where
 mem:=by simp
 obj:=λi h st b g=>by
  let e:=by simpa using g
  subst e;exact(_,st,λv z=>by
   let z':=z;cases z')
 keep:=λi h h' st k=>k it (by simp) _ st
 item:=by
  intro X hP hw hK Q i gV s σ H E I hf st hg;subst hP hw hK;let(f0,f1,f2,f3,f4,V):=hf it (by simp)
  let W:=Walks.range (prog:=X.prog) (w:=X.w) (I.ok.hd Q) it lo 1 n;refine W.item i s _ _ hg st λv h' tk hv q kk=>?_
  let(t,U):=hv;let I1:Inv X gV σ H {s with heap:=h',toks:=tk}:=I.turned (λb o g e=>kk b o (by simpa using g) e) f0 f1 f3 f4 V
  refine(_,U,Im q U U (by decide) (.int (lo+i),H,I1,(t,?_),(U,U),q,λb g=>(hf b g).1))
  rw[Int.mul_one]
 done:=by
  intro X hP hw hK Q i gV s σ H E I hf st hg;let(f0,f1,f2,f3,f4,V):=hf it (by simp)
  exact wpAny_pyNext_range_end (I.ok.hd Q) st (by have:n<=i:=hg;lia) λh' eb=>(U,I.turned (λb o g e=>eb b o g e) f0 f1 f3 f4 V)
 self:=λ_ _ _ _ _ st h=>wpAny_pyIter_rangeiter st h
variable{lo:Int}{fp:List J}{iter:Ev}
section
variable{tg:Ev}
def uV(K:BT)(tl:TE):TI:=λσ H R=>tl σ H λx H1=>∃a,x=.ref a/\(∃xs,SqL K H1 a xs)/\R (Itl K a) H1
def H0(K:BT)(tl:TE):TI:=λσ H R=>tl σ H λx H1=>∃a,x=.ref a/\(∃xs,SqT K H1 a xs)/\R (Itt K a) H1
def pN(hl:PE X l tl):PI X tg l (uV X.K tl):=by
 intro gV s σ H R I h;refine thn (hl gV s σ H _ I h) λv s1 z=>?_
 let(x,H1,g,P,q1):=z;let(a,e,(xs,hq),q):=q1;subst e;cases P;let(its,rv,p,V):=g.list hq;refine wpAny_pyIter_list p.isList ?_;refine(s1.heap.objs.size,[s1.heap.objs.size],_,_,H1,U,g.kept λb o e=>ja _ e,DB a _,(_,pB _ U,U,U),λb Q=>?_,q)
 let e:=by simpa using Q
 subst e;exact g.Ir (mW _) (g.hok.fresh (mW _))
def Pe(hl:PE X l tl):PI X tg l (H0 X.K tl):=by
 intro gV s σ H R I h;refine thn (hl gV s σ H _ I h) λv s1 z=>?_
 let(x,H1,g,P,q1):=z;let(a,e,(xs,hq),q):=q1;subst e;cases P;let(its,rv,p,V):=g.tuple hq;refine wpAny_pyIter_tuple (p) ?_;refine(s1.heap.objs.size,[s1.heap.objs.size],_,_,H1,U,g.kept λb o e=>ja _ e,z6 a _,(_,pB _ U,U,U),λb Q=>?_,q)
 let e:=by simpa using Q
 subst e;exact g.Ir (mW _) (g.hok.fresh (mW _))
def Ge{σ:St}{s:ϋ}{R:It->Hp->Prop}{hi:Int}{t u v:Tok}{tk:Nat}(I:Inv X gV σ H s)(h1:-(2 ^ 62)<=lo)(h2:lo<2 ^ 62)(h3:-(2 ^ 62)<=hi)(h4:hi<2 ^ 62)
  (q:R (Itr lo (hi - lo).toNat) H):wpAny (model X.prog X.w) X.A (pyIter (.ref s.heap.objs.size)) (PIE X gV σ tg R) E {s with heap:=s.heap.push {cls:=.type "range",data:=.fields #[.int lo t,.int hi u,.int 1 v]},toks:=tk}:=by
 refine wpAny_pyIter_range (IsRange.new ..) (small_one h1 h2 h3 h4) ?_;let g:Inv X gV σ H {s with heap:=s.heap.push {cls:=.type "range",data:=.fields #[.int lo t,.int hi u,.int 1 v]},toks:=tk}:=I.kept λb o e=>ja _ e
 refine((s.heap.push {cls:=.type "range",data:=.fields #[.int lo t,.int hi u,.int 1 v]}).objs.size,[(s.heap.push {cls:=.type "range",data:=.fields #[.int lo t,.int hi u,.int 1 v]}).objs.size],_,_,H,U,
  g.kept λb o e=>ja _ e,z7 _ lo (hi - lo).toNat,?_,λb z=>?_,q)
 ·let P:lo+((0:Nat))*1=lo:=by simp
  let K:(((hi - lo).toNat)) - ((0:Nat))=Builtin.Range.rangeSize lo hi 1:=by rw[rangeSize_one];split <;> lia
  rw[P,K];exact pB _ U
 ·let e:b=(s.heap.push {cls:=.type "range",data:=.fields #[.int lo t,.int hi u,.int 1 v]}).objs.size:=by simpa using z
  subst e;exact g.Ir (mW _) (g.hok.fresh (mW _))
def Ia(ta:TA):TI:=λσ H R=>ta σ H λvs H1=>∃j:Int,vs=[.int j] /\ -(2 ^ 62)<=j/\j<2 ^ 62/\R (Itr 0 j.toNat) H1
abbrev AD(X:Cx)(e:Ev):Prop:=kz [e] X.env=[(false,eval e X.env)]
def uO{a:Ev}(hg:Gl X "range")(hm:X.mg "range"=Y)(ha:PA X [a] ta)(hs:AD X a:=by rfl):PI X tg (.Call (.Name "range" p) [a] [] pos) (Ia ta):=by
 intro gV s σ H R I h;refine Call_ (dM I hg hm boot_range (PyProof.Rows.callWith_type1 (thn (ha pos gV s σ H _ I h) λus s1 (vs,H1,P,z,q1)=>?_) hs U))
 let(j,e,q1,K,q):=q1;subst e;cases z with
 |cons r g =>
  cases g;let(t,U):=r;exact call_range_1 (Ge P (by lia) (by lia) q1 K (by simpa using q))
def Rq(wi:TI)(g:TG)(tb:TS):TS:=λD σ H=>wi σ H λYc H1=>∃W:Nat->Nat->St->Hp->Prop,(∃m,W 0 m σ H1)/\∀i m σ H,W i m σ H ->
 (Yc.stop i H/\D.nx σ H)\/(Yc.go i H/\∃N:St->Hp->Prop,(∀q H',N q H'->∃m',m'<m/\W (i+1) m' q H')/\∀x H',Yc.yld i H x H'->g x σ H' λz H2=>tb {D with nx:=N,ct:=N,bk:=D.nx} z H2)
def rg(fp:List J)(h:Do):List (J×Obj):=fp.filterMap λb=>(h.get? b).map λo=>(b,o)
def gi{b:J}{o:Obj}(g:b∈fp)(e:h.get? b=Z o):(b,o)∈rg fp h:=Wr.mpr (b,g,by rw[e];rfl)
def Eh(hp:p∈rg fp h):p.1∈fp/\h.get? p.1=Z p.2:=by
 let(b,g,e):=Wr.mp hp;cases q:h.get? b with
 |none=>rw[q]at e;cases e
 |some o =>
  rw[q]at e;let e':=Option.some.inj e;subst e';exact(g,q)
def Inv.pinned{σ:St}(I:Inv X gV σ H s)(hf:∀b∈fp,sS X gV H b)(ho:∀b∈fp,∃o,s.heap.get? b=Z o/\∀v,o.data ≠ .cell v):Inv X (gV++rg fp s.heap) σ H s :=
 I.l9 λp hp=>(p7.mp hp).elim (λz=>I.pin p (p6 _ z)) λz=>by
  let(g,e):=Eh z;let(f0,f1,f2,_):=hf p.1 g;let(o,e',d):=ho p.1 g;rw[e]at e';cases e';exact(e,f0,f1,f2,d)
def Inv.lJ{σ:St}(I:Inv X (gV++pl) σ H s):Inv X gV σ H s:=I.l9 λp hp=>I.pin p (p6 _ (qr _ hp))
def GR(hp:Xr (model X.prog X.w) X.A X.env X.xe)(hc:X.calm=O)(hi:PI X tg iter wi)(hg:PG X tg g)(P:PSs X body tb)
  (hs:∀x,foldedSetIterable iter X.env x=pure x:=by intro _;rfl):PS X (.For tg iter body [] pos) (Rq wi g tb):=by
 intro gV s σ H D I h;refine wpAny_For (thn (hi gV s σ H _ I h) λv s1 h1=>thn h1 λaS s2 h2=>?_) hs
 let(it,fp,tn,Yc,H2,e,I2,T,aI,f2,W,(m0,w0),turn):=h2;subst e;let Ol:∀{H':Hp},(∀b∈fp,H' b=Y)->∀b∈fp,sS X gV H' b:=λhn b P=>(hn b P,(f2 b P).2)
 refine codeAny_forLoop_any (λn s'=>∃i K H',Inv X gV K H' s'/\tn i s'.heap/\(∀b∈fp,H' b=Y)/\W i n K H') ?_ m0 (0,σ,H2,I2,aI,λb P=>(f2 b P).1,w0)
 rintro n s3 ⟨i,z,H3,I3,aD,aE,w3⟩
 obtain⟨stop,qn⟩|⟨go,N,hN,step⟩:=turn i n z H3 w3
 ·refine wpAny_passesOwn hp (thn (T.done X U U U hc i gV s3 z H3 X.xe I3 (Ol aE) aD stop) λr s4 Q=>?_)
  let(hr,I4):=Q;subst hr;exact wpAny_execs_nil (z,H3,I4,qn)
 ·refine wpAny_passesOwn hp (thn (T.item X U U U hc i gV s3 z H3 X.xe I3 (Ol aE) aD go) λr s4 Q=>?_)
  let(u,hr,h4):=Q;subst hr;refine wpAny_passesOwn hp (thn h4 λ_ s5 Q=>?_)
  let(x,H5,I5,r5,y5,av,aM):=Q;let aQ:=I5.pinned (Ol aM) (T.obj _ _ av);refine wpAny_passesOwn hp (thn (hg _ s5 z H5 x u _ aQ r5 (step x H5 y5)) λ_ s6 (aH,H6,I6,q6)=>(wpAny_passesOwn hp (thn (P _ s6 aH H6 _ I6 q6) λf s7 q7=>?_)))
  let again:∀{q:St}{H7:Hp},Inv X (gV++rg fp s5.heap) q H7 s7->N q H7->∃m,m<n/\∃i K H',Inv X gV K H' s7/\tn i s7.heap/\(∀b∈fp,H' b=Y)/\W i m K H':=λ{q H7} V n7=>by
   let(m',hm,w7):=hN q H7 n7;refine(m',hm,i+1,q,H7,V.lJ,T.keep _ _ _ av λb P o e=>(V.pin (b,o) (p6 _ (p6 _ (gi P e)))).1,λb P=>?_,w7)
   let(o,e,d):=T.obj _ _ av b P;exact(V.pin (b,o) (p6 _ (p6 _ (gi P e)))).2.1
  cases f with
  |next=>let(q,H7,V,n7):=q7;exact again V n7
  |cont=>let(q,H7,V,n7):=q7;exact again V n7
  |brk=>let(q,H7,V,q7):=q7;exact(q,H7,V.lJ,q7)
  |ret v=>let(x7,q,H7,V,r7,q7):=q7;exact(x7,q,H7,V.lJ,r7,q7)
end
variable{D:Ends}
theorem Iu{K:BT}{xs:List V}{g:TG}{tb:TS}{σ:St}(Pv:Nat->St->Hp->Prop)(h0:Pv 0 σ H)(hl:∀i σ H,i<=xs.length->Pv i σ H->SqL K H a xs)
  (hs:∀i x σ H,xs[i]?=Z x->Pv i σ H->g x σ H λz H2=>tb {D with nx:=Pv (i+1),ct:=Pv (i+1),bk:=D.nx} z H2) (hd:∀σ H,Pv xs.length σ H->D.nx σ H):
  ∃W:Nat->Nat->St->Hp->Prop,(∃m,W 0 m σ H)/\∀i m σ H,W i m σ H ->
   ((Itl K a).stop i H/\D.nx σ H)\/((Itl K a).go i H/\∃N:St->Hp->Prop,(∀P H',N P H'->∃m',m'<m/\W (i+1) m' P H')/\∀x H',(Itl K a).yld i H x H'->g x σ H' λz H2=>tb {D with nx:=N,ct:=N,bk:=D.nx} z H2):=by
 refine(λi m σ H=>m=xs.length - i/\i<=xs.length/\Pv i σ H,(xs.length,by simp,Jf _,h0),?_)
 rintro i m σ H ⟨rfl,hi,p⟩
 let q:=hl i σ H hi p;by_cases Q:i<xs.length
 ·refine .inr ((xs,xs[i],q,by simp[Q]),Pv (i+1),λP H' p'=>(xs.length - (i+1),by omega,U,Q,p'),λx H' y=>?_)
  let(e,y):=y;subst e;exact hs i x σ _ (y xs q) p
 ·let e:i=xs.length:=by lia
  subst e;exact .inl ((xs,q,mW _),hd σ H p)
abbrev R2:=V->V->Hp->VK->Prop
def OpR(X:Cx)(f:B->B->Sem B)(r:R2):Prop :=
 ∀(gV:List (J×Obj))(s:ϋ)(σ:St)(H:Hp)(x y:V)(v u:B)(Q:VK),Inv X gV σ H s->RelV x v->RelV y u->r x y H Q ->
  wpAny (model X.prog X.w) X.A (f v u) (EP X gV σ Q) X.xe s
def UnR(X:Cx)(f:B->Sem B)(r:V->Hp->VK->Prop):Prop :=
 ∀(gV:List (J×Obj))(s:ϋ)(σ:St)(H:Hp)(x:V)(v:B)(Q:VK),Inv X gV σ H s->RelV x v->r x H Q ->
  wpAny (model X.prog X.w) X.A (f v) (EP X gV σ Q) X.xe s
def cF(X:Cx)(f:B)(r:List V->Hp->VK->Prop):Prop :=
 ∀(gV:List (J×Obj))(s:ϋ)(σ:St)(H:Hp)(xs:List V)(us:List B)(Q:VK),Inv X gV σ H s->Vals xs us->r xs H Q ->
  wpAny (model X.prog X.w) X.A (call f us) (EP X gV σ Q) X.xe s
def Vq(X:Cx)(r:V->Hp->(Bool->Hp->Prop)->Prop):Prop :=
 ∀(gV:List (J×Obj))(s:ϋ)(σ:St)(H:Hp)(x:V)(v:B)(Q:Bool->Hp->Prop),Inv X gV σ H s->RelV x v->r x H Q ->
  wpAny (model X.prog X.w) X.A (truthy v) (TP X gV σ Q) X.xe s
def tOp(r:R2)(ta tb:TE):TE:=λσ H Q=>ta σ H λx H1=>tb σ H1 λy H2=>r x y H2 Q
def tUn(r:V->Hp->VK->Prop)(ta:TE):TE:=λσ H Q=>ta σ H λx H1=>r x H1 Q
inductive rI(C:Int->Int->Prop)(g:Int->Int->V)(x:V)(y:V)(H:Hp)(Q:VK):Prop
 |mk(i j)(h1:x=.int i)(h2:y=.int j)(h3:C i j)(h4:Q (g i j) H)
inductive rI0(g:Int->Int->V)(x:V)(y:V)(H:Hp)(Q:VK):Prop
 |mk(i j)(h1:x=.int i)(h2:y=.int j)(h3:Q (g i j) H)
inductive rU(g:Int->V)(x:V)(H:Hp)(Q:VK):Prop
 |mk(i)(h1:x=.int i)(h2:Q (g i) H)
section
variable{a:Ev}{ta tb:TE}{pos:Pos}
def Qn(ha:PE X a ta)(P:PE X b tb){σ:St}{R:V->V->Hp->Prop}(I:Inv X gV σ H s)
  (h:ta σ H λx H1=>tb σ H1 λy H2=>R x y H2) {f:B->B->Sem B}
  (hf:∀v u s2 x y H2,Inv X gV σ H2 s2->RelV x v->RelV y u->R x y H2->wpAny (model X.prog X.w) X.A (f v u) Q X.xe s2):
  wpAny (model X.prog X.w) X.A (eval a X.env) (λv g=>wpAny (model X.prog X.w) X.A (eval b X.env) (λu s₂=>wpAny (model X.prog X.w) X.A (f v u) Q X.xe s₂) X.xe g) X.xe s:=by
 exact thn (ha gV s σ H _ I h) λv s1 (x,H1,I1,z,q1)=>(thn (P gV s1 σ H1 _ I1 q1) λu s2 (y,H2,I2,q,K)=>(hf v u s2 x y H2 I2 z q K))
def cJ{op:Operator}(ho:OpR X (binaryOp op) r)(ha:PE X a ta)(K:PE X b tb):PE X (.BinOp a op b pos) (tOp r ta tb):=by
 intro gV s σ H Q I h;exact wpAny_BinOp (Qn ha K I h λv u s2 x y H2 P z g q=>ho gV s2 σ H2 x y v u Q P z g q)
def G8{op:UnaryOp}(ho:UnR X (unaryOp op) r)(ha:PE X a ta):PE X (.UnaryOp op a pos) (tUn r ta):=by
 intro gV s σ H Q I h;exact UnaryOp_ (thn (ha gV s σ H _ I h) λv s1 (x,H1,q,g,q1)=>ho gV s1 σ H1 x v Q q g q1)
def opI{C:Int->Int->Prop}{g:Int->Int->Int}
  (rule:∀(i j:Int)(t u:Tok)(s:ϋ)(Q:B->ϋ->Prop)(E:B->ϋ->Prop),C i j->Q (.int (g i j) s.toks) {s with toks:=s.toks+1}->wpAny (model X.prog X.w) X.A (f (.int i t) (.int j u)) Q E s):
  OpR X f (rI C λi j=>.int (g i j)):=by
 intro gV s σ H x y v u Q I K z h;let(i,j,U,U,P,q):=h;let(t,U):=K;let(t',U):=z;exact rule i j t t' s _ _ P (.int (g i j),H,I.tok _,(_,U),q)
def SA{g:Int->Int->Int}
  (rule:∀(i j:Int)(t u:Tok)(s:ϋ)(Q:B->ϋ->Prop)(E:B->ϋ->Prop),Q (.int (g i j) s.toks) {s with toks:=s.toks+1}->wpAny (model X.prog X.w) X.A (f (.int i t) (.int j u)) Q E s):
  OpR X f (rI0 λi j=>.int (g i j)):=by
 intro gV s σ H x y v u Q I K z h;let(i,j,U,U,q):=h;let(t,U):=K;let(t',U):=z;exact rule i j t t' s _ _ (.int (g i j),H,I.tok _,(_,U),q)
def LZ{g:Int->Int->Bool}
  (rule:∀(i j:Int)(t u:Tok)(s:ϋ)(Q:B->ϋ->Prop)(E:B->ϋ->Prop),Q (.bool (g i j)) s->wpAny (model X.prog X.w) X.A (f (.int i t) (.int j u)) Q E s):
  OpR X f (rI0 λi j=>.bl (g i j)):=by
 intro gV s σ H x y v u Q I K z h;let(i,j,U,U,q):=h;let(t,U):=K;let(t',U):=z;exact rule i j t t' s _ _ (.bl (g i j),H,I,U,q)
def Q5(i j:Int):Prop:=0<=j/\j<=1000000/\i.natAbs<2 ^ 64
def Ju(i j:Int):Prop:=(-(2 ^ 64)<i/\i<2 ^ 64)\/(-(2 ^ 64)<j/\j<2 ^ 64)
def Ju.ok{i j:Int}(h:Ju i j):IntMulOk i j:=by
 obtain⟨h1,h2⟩|⟨h1,h2⟩:=h
 ·exact .of_left (intBits_le_64 h1 h2)
 ·exact .of_right (intBits_le_64 h1 h2)
def nI:OpR X (binaryOp .Add) (rI0 λi j=>.int (i+j)):=SA λ_ _ _ _ _ _ _ q=>add_int q
def AW:OpR X (binaryOp .Sub) (rI0 λi j=>.int (i - j)):=SA λ_ _ _ _ _ _ _ q=>sub_int q
def kZ:OpR X (binaryOp .Mult) (rI Ju λi j=>.int (i*j)):=opI λ_ _ _ _ _ _ _ g q=>mul_int q g.ok
def iP:OpR X (binaryOp .Mod) (rI (λ_ j=>0<j) λi j=>.int (i % j)):=opI λi j _ _ _ _ _ g q=>by
 exact mod_int' (by lia) (by rw[Int.fmod_eq_emod_of_nonneg i (by lia)];exact q)
def Ho:OpR X (binaryOp .Pow) (rI Q5 λi j=>.int (i ^ j.toNat)):=opI λ_ _ _ _ _ _ _ g q=>pow_int_small g.1 g.2.1 g.2.2 q
def unI{g:Int->Int}
  (rule:∀(i:Int)(t:Tok)(s:ϋ)(Q:B->ϋ->Prop)(E:B->ϋ->Prop),Q (.int (g i) s.toks) {s with toks:=s.toks+1}->wpAny (model X.prog X.w) X.A (f (.int i t)) Q E s):
  UnR X f (rU λi=>.int (g i)):=by
 intro gV s σ H x v Q I z h;let(i,U,q):=h;let(t,U):=z;exact rule i t s _ _ (.int (g i),H,I.tok _,(_,U),q)
def zZ:UnR X (unaryOp .USub) (rU λi=>.int (-i)):=unI λ_ _ _ _ _ q=>neg_int q
end
def Kc:V->V->Bool
 |.non,.non=>O|.non,.int _=>O|.int _,.non=>O|.non,.bl _=>O|.bl _,.non=>O|.non,.str _=>O|.str _,.non=>O
 |.int _,.int _=>O|.bl _,.bl _=>O|.str _,.str _=>O|.byt _,.byt _=>O
 |.int _,.str _=>O|.str _,.int _=>O|.bl _,.str _=>O|.str _,.bl _=>O
 |_,_=>ϊ
def rEq:R2:=λx y H Q=>Kc x y=O/\Q (.bl (decide (x=y))) H
def rNe:R2:=λx y H Q=>Kc x y=O/\Q (.bl (!decide (x=y))) H
def CP{i j:Int}:decide (V.int i=V.int j)=(i==j):=by
 rw[WN];simp
def ID{i j:Bool}:decide (V.bl i=V.bl j)=(i==j):=by
 rw[WN];simp
def CO{i j:Str}:decide (V.str i=V.str j)=(i==j):=by
 rw[WN];simp
def CQ{i j:Array UInt8}:decide (V.byt i=V.byt j)=(i.toList==j.toList):=by
 rw[WN];cases i;cases j;simp
variable{its:List B}{y:V}
section
variable{a c:Ev}{ta tb:TE}{pos:Pos}
def br{σ:St}{s:ϋ}{Q:VK}{k k':Bool}(I:Inv X gV σ H s)(q:Q (.bl k) H)(e:k=k'):EP X gV σ Q (.bool k') s:=by
 subst e;exact(.bl k,H,I,U,q)
theorem NL:OpR X (compareOp .Eq) rEq:=by
 intro gV s σ H x y v u Q I z g h;let(hs,q):=h;cases x with
 |non =>
  cases z;cases y with
  |non=>cases g;exact PySem.EqNone.eq_none_none (br I q (by simp))
  |bl j=>cases g;exact PySem.EqNone.eq_none_bool (br I q (by simp))
  |int j=>let(t',U):=g;exact PySem.EqNone.eq_none_int (br I q (by simp))
  |str j=>let(t',U):=g;exact PySem.EqNone.eq_none_str (br I q (by simp))
  |_=>exact absurd (show ϊ=O from hs) qf
 |bl i =>
  cases z;cases y with
  |non=>cases g;exact PySem.EqNone.eq_bool_none (br I q (by simp))
  |bl j=>cases g;exact eq_bool (br I q ID)
  |str j=>let(t',U):=g;exact PySem.EqMixed.eq_bool_str (br I q (by simp))
  |_=>exact absurd (show ϊ=O from hs) qf
 |int i =>
  let(t,U):=z;cases y with
  |non=>cases g;exact PySem.EqNone.eq_int_none (br I q (by simp))
  |int j=>let(t',U):=g;exact eq_int (br I q CP)
  |str j=>let(t',U):=g;exact PySem.EqMixed.eq_int_str (br I q (by simp))
  |_=>exact absurd (show ϊ=O from hs) qf
 |str i =>
  let(t,U):=z;cases y with
  |non=>cases g;exact PySem.EqNone.eq_str_none (br I q (by simp))
  |bl j=>cases g;exact PySem.EqMixed.eq_str_bool (br I q (by simp))
  |int j=>let(t',U):=g;exact PySem.EqMixed.eq_str_int (br I q (by simp))
  |str j=>let(t',U):=g;exact eq_str (br I q CO)
  |_=>exact absurd (show ϊ=O from hs) qf
 |byt i =>
  let(t,U):=z;cases y with
  |byt j=>let(t',U):=g;exact W.eq_bytes (br I q CQ)
  |_=>exact absurd (show ϊ=O from hs) qf
 |_=>cases y <;> exact absurd (show ϊ=O from hs) qf
theorem NK:OpR X (compareOp .NotEq) rNe:=by
 intro gV s σ H x y v u Q I z g h;let(hs,q):=h;cases x with
 |non =>
  cases z;cases y with
  |non=>cases g;exact PySem.EqNone.ne_none_none (br I q (by simp))
  |bl j=>cases g;exact PySem.EqNone.ne_none_bool (br I q (by simp))
  |int j=>let(t',U):=g;exact PySem.EqNone.ne_none_int (br I q (by simp))
  |str j=>let(t',U):=g;exact PySem.EqNone.ne_none_str (br I q (by simp))
  |_=>exact absurd (show ϊ=O from hs) qf
 |bl i =>
  cases z;cases y with
  |non=>cases g;exact PySem.EqNone.ne_bool_none (br I q (by simp))
  |bl j=>cases g;exact ne_bool (br I q (congrArg not ID))
  |str j=>let(t',U):=g;exact PySem.EqMixed.ne_bool_str (br I q (by simp))
  |_=>exact absurd (show ϊ=O from hs) qf
 |int i =>
  let(t,U):=z;cases y with
  |non=>cases g;exact PySem.EqNone.ne_int_none (br I q (by simp))
  |int j=>let(t',U):=g;exact ne_int (br I q (congrArg not CP))
  |str j=>let(t',U):=g;exact PySem.EqMixed.ne_int_str (br I q (by simp))
  |_=>exact absurd (show ϊ=O from hs) qf
 |str i =>
  let(t,U):=z;cases y with
  |non=>cases g;exact PySem.EqNone.ne_str_none (br I q (by simp))
  |bl j=>cases g;exact PySem.EqMixed.ne_str_bool (br I q (by simp))
  |int j=>let(t',U):=g;exact PySem.EqMixed.ne_str_int (br I q (by simp))
  |str j=>let(t',U):=g;exact ne_str (br I q (congrArg not CO))
  |_=>exact absurd (show ϊ=O from hs) qf
 |byt i =>
  let(t,U):=z;cases y with
  |byt j=>let(t',U):=g;exact W.ne_bytes (br I q (congrArg not CQ))
  |_=>exact absurd (show ϊ=O from hs) qf
 |_=>cases y <;> exact absurd (show ϊ=O from hs) qf
def Sx:OpR X (compareOp .Lt) (rI0 λi j=>.bl (decide (i<j))):=LZ λ_ _ _ _ _ _ _ q=>lt_int q
def Sy:OpR X (compareOp .LtE) (rI0 λi j=>.bl (decide (i<=j))):=LZ λ_ _ _ _ _ _ _ q=>le_int q
def Cp:OpR X (compareOp .Gt) (rI0 λi j=>.bl (decide (j<i))):=LZ λ_ _ _ _ _ _ _ q=>gt_int q
def Sz:OpR X (compareOp .GtE) (rI0 λi j=>.bl (decide (j<=i))):=LZ λ_ _ _ _ _ _ _ q=>ge_int q
def Ec:OpR X (compareOp .In) (λx y H Q=>∃i j,x=.str i/\y=.str j/\Q (.bl (!(Builtin.Str.occurrences j i 0 j.length 1).isEmpty)) H):=by
 intro gV s σ H x y v u Q I z g h;let(i,j,U,U,q):=h;let(t,U):=z;let(t',U):=g;exact in_str (br I q U)
def nH:OpR X (compareOp .Is) (λx y H Q=>y=.non/\Q (.bl (decide (x=.non))) H):=by
 intro gV s σ H x y v u Q I z g h;let(U,q):=h;cases g;refine is_none_gen (br I q ?_);cases x <;>(let(t,U):=z;rfl)
def pO:OpR X (compareOp .IsNot) (λx y H Q=>y=.non/\Q (.bl (!decide (x=.non))) H):=by
 intro gV s σ H x y v u Q I z g h;let(U,q):=h;cases g;refine isnot_none_gen (br I q ?_);cases x <;>(let(t,U):=z;rfl)
def wz:OpR X (compareOp .NotIn) (λx y H Q=>∃i j,x=.str i/\y=.str j/\Q (.bl (!(!(Builtin.Str.occurrences j i 0 j.length 1).isEmpty))) H):=by
 intro gV s σ H x y v u Q I z g h;let(i,j,U,U,q):=h;let(t,U):=z;let(t',U):=g;exact notIn_str (br I q U)
def OpR.or{r K:R2}(h:OpR X f r)(h':OpR X f K):OpR X f (λx y H Q=>r x y H Q\/K x y H Q):=by
 intro gV s σ H x y v u Q I z g q;obtain q|q:=q
 ·exact h gV s σ H x y v u Q I z g q
 ·exact h' gV s σ H x y v u Q I z g q
def bH(b:Ev)(h:op ≠ .In:=by decide)(h2:op ≠ .NotIn:=by decide):behindInMarks op b=false:=HC b h h2
def Ly(ho:OpR X (compareOp op) r)(ha:PE X a ta)(K:PE X b tb)(hm:behindInMarks op b=ϊ):PE X (.Compare a [op] [b] pos) (tOp r ta tb):=by
 intro gV s σ H Q I h;exact wpAny_Compare1 (Qn ha K I h λv u s2 x y H2 P z g q=>ho gV s2 σ H2 x y v u Q P z g q) hm
def BM(t:TE):TT:=λσ H Q=>t σ H λx H'=>∃k,x=.bl k/\Q k H'
def l5(ho:OpR X (compareOp op) r)(ha:PE X a ta)(hb:PE X b tb)(hm:behindInMarks op b=ϊ):PT X (.Compare a [op] [b] pos) (BM (tOp r ta tb)):=by
 intro gV s σ H Q I h;refine wpAny_isTrue_Compare1 (thn (ha gV s σ H _ I h) λv s1 (x,H1,I1,K,q1)=>thn (hb gV s1 σ H1 _ I1 q1) λu s2 (y,H2,I2,q,V) =>
  thn (ho gV s2 σ H2 x y v u _ I2 K q V) λc s3 (z,H3,I3,g,k,e,P)=>?_) hm
 subst e;cases g;exact wpAny_truthy_bool (H3,I3,P)
def Nb(K:BT)(x:V)(H:Hp)(k:Bool):Prop :=
 match x with
 |.non=>k=ϊ
 |.bl b=>k=b
 |.int i=>k=(i != 0)
 |.str y=>y.length<=mV/\k=((y.length:Int) != 0)
 |.byt y=>y.size<=mV/\k=((y.size:Int) != 0)
 |.ref p=>(∃xs,SqL K H p xs/\k = !xs.isEmpty)\/(∃xs,SqT K H p xs/\k = !xs.isEmpty)\/∃kvs,H p=Z (.dK kvs)/\k = !kvs.isEmpty
 |_=>False
def Be{kvs:List (κ×V)}{vs:List (κ×B)}(r:KV kvs vs):(!vs.isEmpty) = !kvs.isEmpty:=by
 cases r <;> rfl
def rT(r:Vals xs its):(!its.toArray.isEmpty) = !xs.isEmpty:=by
 cases r <;> simp
def iS:(mV:Nat)<2 ^ 63:=by decide
theorem Od:Vq X (λx H Q=>∃k,Nb X.K x H k/\Q k H):=by
 intro gV s σ H x v Q I g h;let(k,e,q):=h;let hl:=iS;let hs:mV=16777216:=WL;cases x with
 |non =>
  cases g;let e':k=false:=e;subst e';exact truthy_none (H,I,q)
 |bl b =>
  cases g;let e':k=b:=e;subst e';exact wpAny_truthy_bool (H,I,q)
 |int i =>
  let(t,U):=g;let e':k=(i != 0):=e;subst e';exact PySem.P.truthy_int (H,I,q)
 |str y =>
  let(t,U):=g;let(V,e'):=e;subst e';exact PySem.P.truthy_str (by omega) (H,I.tok _,q)
 |byt y =>
  let(t,U):=g;let(V,e'):=e;subst e';exact W.truthy_bytes (by omega) (H,I.tok _,q)
 |ref p =>
  cases g;let e':=e;obtain⟨xs,hx,e'⟩|⟨xs,hx,e'⟩|⟨kvs,hx,e'⟩:=e'
  ·subst e';let(its,r,pl,z):=I.list hx;let hlen:=r.length;exact wpAny_truthy_list pl.isList (by simp only[p5];omega) (H,I.tok _,by rw[rT r];exact q)
  ·subst e';let(its,r,pl,z):=I.tuple hx;let hlen:=r.length;exact truthy_tuple pl (by simp only[p5];omega) (H,I.tok _,by rw[rT r];exact q)
  ·subst e';let(z,hS,vs,r,m):=I.hok p _ hx;let hlen:kvs.length=vs.length:=Paired.length r;exact wpAny_truthy_dict hS m (by omega) (H,I.tok _,by rw[Be r];exact q)
 |_=>exact(show False from e).elim
def GQ(ha:PE X a ta)(he:∀whole,isTrue a X.env whole=(do let v <- whole;standAt a.pos;holding [v] (truthy v))):
  PT X a (λσ H Q=>ta σ H λx H'=>∃k,Nb X.K x H' k/\Q k H'):=by
 intro gV s σ H Q I h;exact isTrue_plain (thn (ha gV s σ H _ I h) λv s1 (x,H1,q,g,q1)=>Od gV s1 σ H1 x v Q q g q1) (he _)
def AY:OpR X (binaryOp .Add) (λx y H Q=>∃i j,x=.str i/\y=.str j/\i.length+j.length<=mV/\Q (.str (i++j)) H):=by
 intro gV s σ H x y v u Q I z g h;let(i,j,U,U,K,q):=h;let(t,U):=z;let(t',U):=g;exact add_str (λt' tk=>(.str (i++j),H,I.tok _,(_,U),q)) K
def vals1{x:V}(r:Vals [x] us):∃u,us=[u]/\RelV x u:=by
 cases r with
 |cons q g=>cases g;exact(_,U,q)
def vals2{x:V}(r:Vals [x,y] us):∃u g,us=[u,g]/\RelV x u/\RelV y g:=by
 cases r with
 |cons P K =>
  cases K with
  |cons z q=>cases q;exact(_,_,U,P,z)
def fX(z:X.calm=O):cF X (.builtin "max") (λxs H Q=>∃i j,xs=[.int i,.int j]/\Q (.int (if j > i then j else i)) H):=by
 intro gV s σ H xs us Q I r h;let(i,j,U,q):=h;let(u,K,U,(t,U),(t',U)):=vals2 r;refine max_two_ints (I.ok.hd z) λh' tk k=>(_,H,I.kept k,?_,q)
 by_cases g:j > i
 ·rw[if_pos g,if_pos g];exact(_,U)
 ·rw[if_neg g,if_neg g];exact(_,U)
def EM(z:X.calm=O):cF X (.builtin "min") (λxs H Q=>∃i j,xs=[.int i,.int j]/\Q (.int (if j<i then j else i)) H):=by
 intro gV s σ H xs us Q I r h;let(i,j,U,q):=h;let(u,K,U,(t,U),(t',U)):=vals2 r;refine min_two_ints (I.ok.hd z) λh' tk k=>(_,H,I.kept k,?_,q)
 by_cases g:j<i
 ·rw[if_pos g,if_pos g];exact(_,U)
 ·rw[if_neg g,if_neg g];exact(_,U)
def nW:cF X (.type "int") (λxs H Q=>(∃i,xs=[.int i]/\Q (.int i) H)\/∃k,xs=[.bl k]/\Q (.int (if k then 1 else 0)) H):=by
 intro gV s σ H xs us Q I r h;obtain⟨i,rfl,q⟩|⟨k,rfl,q⟩:=h
 ·let(u,U,t,U):=vals1 r;exact call_int_int (.int i,H,I,(_,U),q)
 ·let(u,U,g):=vals1 r;cases g;exact call_int_bool (.int (if k then 1 else 0),H,I.tok _,(_,U),q)
end
structure Bx(h:Do)(x dx C:J)(mA:Str->Option B):Prop where
 obj:h.get? x=Z (W.instObj C dx)
 ns:h.Ns1 dx mA
 ne:dx≠x
variable{dx:J}{mA:Str->Option B}
theorem Er{h:Do}(n:h.Ns1 dx mA):∃od,h.get? dx=Z od/\∀name,W.lookIn name od=Z (mA name):=by
 let(o,es,V,ho,hd,K,_,hm):=n;refine(o,ho,λname=>?_)
 let e:=hm name;unfold nsFind findBy at e;rw[<- Array.find?_toList]at e;unfold W.lookIn;rw[hd];dsimp only
 split
 ·rename_i y q;rw[q]at e;exact congrArg Z e
 ·rename_i q;rw[q]at e;let a:es.toList.any (·.refKey)=false:=by
   rw[W4];intro y g;let(z,t,Q):=K y (Array.mem_toList_iff.mp g);simp[DictEntry.refKey,Q]
  let P:¬ es.toList.any (·.refKey)=true:=by rw[a];exact qf
  rw[if_neg P];exact congrArg Z e
variable{C:J}
theorem Bx.look{x:J}(I:Bx h x dx C mA):∃od,W.InstAt h x (W.instObj C dx) C (Z od)/\∀name,W.lookIn name od=Z (mA name) :=
 let(od,ho,hl):=Er I.ns
 (od,(I.obj,U,U,ho),hl)
variable{R:Result->ϋ->Prop}{kw:List (Str×B)}
section
variable{prog:Da}{w:Cl}{s:ϋ}{K:BT}{x f:J}{name:Str}{v:B}
theorem get_map(X:K.In s.heap)(I:Bx s.heap x dx C mA)(hg:W.plainGet K C name=O)(q:W.hasDictIn K C=O)
  (ha:W.findIn K (.ref C) name=Z Y) (hv:mA name=Z v) (g:W.handedIn v=O) (h:Q v {s with toks:=s.toks+1}):
  wpAny (model prog w) A (getAttr (.ref x) name expr) Q E s:=by
 let(od,Yc,hl):=I.look;exact W.get_value X Yc (W.plainGet_of hg).1 (W.findObj_own q ha U (by rw[hl,hv])) g h
theorem Io{Q:B×List B->ϋ->Prop}(X:K.In s.heap)(I:Bx s.heap x dx C mA)(hg:W.plainGet K C name=O)
  (hf:W.findIn K (.ref C) name=Z (Z (.ref f))) (g:W.isFn K (.ref f)=O) (hv:mA name=Y) (h:Q (.ref f,[.ref x]) s):
  wpAny (model prog w) A (getMethod (.ref x) name pl) Q E s:=by
 let(od,Yc,hl):=I.look;exact W.method_fn X Yc (W.plainGet_of hg).1 (W.plainGet_of hg).2 hf (beq_iff_eq.mp g) (by show(W.lookIn name od).map (·.isSome)=Z ϊ;rw[hl,hv];rfl) h
theorem Kb{Q:Unit->ϋ->Prop}(X:K.In s.heap)(I:Bx s.heap x dx C mA)
  (hs:W.findIn K (.ref C) "__setattr__"=Z (Z (.builtin "object.__setattr__"))) (hp:W.plainOver K C=O) (ht:W.takerIn K C name=Z Y) (hh:W.hasDictIn K C=O)
  (hw:PySem.Within mA ns) (hsz:ns.length<=mV)
  (h:∀h',Bx h' x dx C (λy=>if y=name then Z v else mA y)->Wf dx s.heap h'->Q () {s with heap:=h',toks:=s.toks+2}):
  wpAny (model prog w) A (setAttr (.ref x) name v) Q E s:=by
 let(od,Yc,hl):=I.look;refine W.set_plain X Yc hs (W.osa_open X Yc hp ht λb=>?_)
 let(cd,hc,V):=W.any_some hh;let hx:=I.obj;refine cO (k4 (cO (cO (wpAny_loadPart hx (cO (W.Looks.here (W.looks_clsIn X hc) ?_))))));rw[V];refine k4 (cO (k4 (cO ?_)));refine wpAny_nsSet1 I.ns λh' q g=>?_
 let(oD,aD,aE,z,P,av):=q.count (PySem.Within.cons name v hw);exact cO (wpAny_lookBehind z (by rw[P];exact pastItsLine_dict (u4 av (by rw[rl];omega))) (k4 (h _ ((g.2 _ (Ne.symm I.ne)).trans I.obj,q,I.ne) g)))
theorem HI(X:K.In s.heap)(hm:W.makesIn K C=O)
  (hi:W.findIn K (.ref C) "__init__"=Z (Z (.ref f))) (hf:W.typeIn K (.ref f)=Z (.type "function"))
  (h:codeAny (model prog w) (A.under (.builtin "type.__call__" (.ref C::vs,kw))) (.call (.ref f) (.ref (s.heap.objs.size+1)::vs,kw)) (W.InitBack (s.heap.objs.size+1) R)
   {s with heap:=(s.heap.push W.emptyDict).push (W.instObj C s.heap.objs.size)}):
  codeAny (model prog w) A (.call (.ref C) (vs,kw)) R s:=by
 exact W.make_core (W.makes_of X hm) (W.looks_findIn X hi) (λself=>W.bind_fn X self hf) (.inl U) h
end
def eT(f:Str)(v:V):List (Str×V)->List (Str×V)
 |[]=>[(f,v)]
 | (g,x)::r=>if g=f then(g,v)::r else(g,x)::eT f v r
theorem ou(f g:Str)(v:V):∀fs:List (Str×V),(eT f v fs).lookup g=if g=f then Z v else fs.lookup g
 |[]=>by
  show V0 g [(f,v)]=_;by_cases h:g=f
  ·let q:=beq_iff_eq.mpr h;simp only[V0,q,if_pos h]
  ·let q:=beq_eq_false_iff_ne.mpr h;simp only[V0,q,if_neg h]
 | (k,x)::r=>by
  let K:=ou f g v r;rw[show eT f v ((k,x)::r)=(if k=f then(k,v)::r else(k,x)::eT f v r)from rfl]
  by_cases z:k=f
  ·rw[if_pos z];by_cases h:g=k
   ·let q:=beq_iff_eq.mpr h;simp only[V0,q,if_pos (h.trans z)]
   ·let q:=beq_eq_false_iff_ne.mpr h;simp only[V0,q,if_neg (λe:g=f=>h (e.trans z.symm))]
  ·rw[if_neg z];by_cases h:g=k
   ·let q:=beq_iff_eq.mpr h;simp only[V0,q,if_neg (λe=>z (h.symm.trans e))]
   ·let q:=beq_eq_false_iff_ne.mpr h;simp only[V0,q];exact K
theorem nO(f:Str)(v:V):∀fs:List (Str×V),f∈(eT f v fs).map (·.1)/\∀g,g∈fs.map (·.1)->g∈(eT f v fs).map (·.1)
 |[]=>(by simp[eT],λg h=>by simp at h)
 | (k,x)::r=>by
  let(i1,i2):=nO f v r;rw[show eT f v ((k,x)::r)=(if k=f then(k,v)::r else(k,x)::eT f v r)from rfl]
  by_cases q:k=f
  ·rw[if_pos q];subst q;exact(by simp,λg h=>by simpa using h)
  ·rw[if_neg q];refine(?_,λg h=>?_)
   ·exact j0 _ i1
   ·obtain e|e:=kf.mp h
    ·exact kf.mpr (.inl e)
    ·exact j0 _ (i2 g e)
theorem ox(f:Str)(v:V):∀fs:List (Str×V),(eT f v fs).length<=fs.length+1
 |[]=>by simp[eT]
 | (k,x)::r=>by
  let q:=ox f v r;rw[show eT f v ((k,x)::r)=(if k=f then(k,v)::r else(k,x)::eT f v r)from rfl]
  by_cases g:k=f
  ·rw[if_pos g,rl,rl];lia
  ·rw[if_neg g,rl,rl];lia
def iz.some_of{o:Option B}(r:iz (Z v) o):∃u,o=Z u/\RelV v u:=by
 cases o with
 |none=>exact(r).elim
 |some u=>exact(u,U,r)
def iz.none_of{o:Option B}(r:iz Y o):o=none:=by
 cases o with
 |none=>rfl
 |some u=>exact(r).elim
theorem EC(r:RelV v u):W.handedIn u=true:=by
 cases v with
 |non=>cases(r);rfl
 |bl b=>cases(r);rfl
 |int i=>let(t,e):=(r);cases e;rfl
 |str x=>let(t,e):=(r);cases e;rfl
 |byt b=>let(t,e):=(r);cases e;rfl
 |flt b=>let(t,e):=(r);cases e;rfl
 |ref a=>cases(r);rfl
 |ty n=>cases(r);rfl
section
variable{w:Cl}{h:Do}{fs:List (Str×V)}
def pQ(hok:HOk P w H h)(e:H a=Z (.ins C dx fs)):∃mA,Bx h a dx C mA/\(∀f,iz (fs.lookup f) (mA f))/\PySem.Within mA (fs.map (·.1))/\fs.length<=1000/\H dx=Z (.own a):=by
 let(d,z,ne,ob,mA,n,r,q):=(hok a _ e);exact(mA,(ob,n,ne),r,q,z,d)
end
structure Cls(K:BT)(C:J):Prop where
 pg:W.plainGet K C Str.empty=O
 hd:W.hasDictIn K C=O
 po:W.plainOver K C=O
 sa:W.findIn K (.ref C) "__setattr__"=Z (Z (.builtin "object.__setattr__"))
theorem Cls.get{K:BT}(c:Cls K C)(f:Str):W.plainGet K C f=true:=c.pg
def bg(K:BT)(C:J)(f:Str):Prop:=W.findIn K (.ref C) f=Z Y
theorem bg.Rl{K:BT}(n:bg K C f):W.takerIn K C f=Z none:=by
 unfold W.takerIn;rw[n];rfl
structure Meth(K:BT)(C:J)(m:Str)(f:J):Prop where
 at_:W.findIn K (.ref C) m=Z (Z (.ref f))
 fn:W.isFn K (.ref f)=O
 kp:W.keepIn K (.ref f)=O
variable{prog:Da}
section
variable{σ:St}{s:ϋ}{fs:List (Str×V)}{f:Str}{v:V}
def k8{b:Bool}(I:Inv X gV σ H s)(e:H a=Z (.ins C dx fs))(c:Cls X.K C)(n:bg X.K C f)(l:fs.lookup f=Z v)
  (h:∀u s',Inv X gV σ H s'->RelV v u->Q u s'):wpAny (model X.prog X.w) A (getAttr (.ref a) f b) Q E s:=by
 let(mA,X9,r,_,_,_):=pQ I.hok e;let(u,g,ru):=iz.some_of (by rw[<- l];exact r f)
 exact get_map I.kIn X9 (c.get f) c.hd n g (EC ru) (h u _ (I.tok _) ru)
def sd{pl:Sem Bool}{Q:B×List B->ϋ->Prop}(I:Inv X gV σ H s)(e:H a=Z (.ins C dx fs))(c:Cls X.K C)(k:Meth X.K C m g)(l:fs.lookup m=Y)
  (h:Q (.ref g,[.ref a]) s):wpAny (model X.prog X.w) A (getMethod (.ref a) m pl) Q E s:=by
 let(mA,X9,r,_,_,_):=pQ I.hok e;let hn:=iz.none_of (by rw[<- l];exact r m)
 exact Io I.kIn X9 (c.get m) k.at_ k.fn hn h
def qI{Q:Unit->ϋ->Prop}(I:Inv X gV σ H s)(e:H a=Z (.ins C dx fs))(c:Cls X.K C)(n:bg X.K C f)(hl:fs.length<1000)(V:RelV y u)
  (h:∀s',Inv X gV σ (upd H a (.ins C dx (eT f y fs))) s'->Q () s'):wpAny (model X.prog X.w) A (setAttr (.ref a) f u) Q E s:=by
 let(mA,X9,r,wi,_,ho):=pQ I.hok e;let hz:(fs.map (·.1)).length<=mV:=by rw[dz,WL];lia
 refine Kb I.kIn X9 c.sa c.po n.Rl c.hd wi hz λh' P sb=>h _ ?_
 let hd:∃o,h'.get? dx=Z o:=let(o,_,_,e',_):=P.ns;(o,e')
 refine I.write (x:=a) (e:=dx) (by rw[e];exact True.intro) (.inr ho) (λb q hb z=>(sb.2 b hb).trans z) hd (by rw[ak X9.ne];exact ho,?_,X9.ne,P.obj,_,P.ns,λg=>?_,λg hg=>?_)
 ·have:=ox f y fs;lia
 ·rw[ou];by_cases q:g=f
  ·rw[if_pos q,if_pos q];exact V
  ·rw[if_neg q,if_neg q];exact r g
 ·by_cases q:g=f
  ·rw[q];exact(nO f y fs).1
  ·refine(nO f y fs).2 g (wi g λz=>hg ?_)
   show(if g=f then Z u else mA g)=Y
   rw[if_neg q];exact z
theorem Inv.made(I:Inv X gV σ H s):Inv X gV σ (upd (upd H s.heap.objs.size (.own (s.heap.objs.size+1))) (s.heap.objs.size+1) (.ins C s.heap.objs.size []))
  {s with heap:=(s.heap.push W.emptyDict).push (W.instObj C s.heap.objs.size)}:=by
 let g:(s.heap.push W.emptyDict).get? s.heap.objs.size=Z W.emptyDict:=pB s.heap U;let P:=by
  have:=pB (s.heap.push W.emptyDict) (o:=W.instObj C s.heap.objs.size) U
  rwa [zM]at this
 let K:(s.heap.push W.emptyDict).Ns s.heap.objs.size (λ_=>Y):=(W.emptyDict,#[],_,g,U,(λe he=>absurd he (by simp)),λ_=>rfl)
 let Q:=I.laid (o:=.own (s.heap.objs.size+1)) (t':=s.toks) (λb u q=>ja _ q) (mW _) (_,g)
 refine Q.laid (λb u q=>ja _ q) (Nat.le_of_eq (zM _ _)) ?_
 let ne:s.heap.objs.size≠s.heap.objs.size+1:=sR (VA _);refine(by rw[ak ne,ax],Jf _,ne,P,λ_=>Y,(Heap.Ns1.of_empty K).at λo q=>ja _ q,λ_=>True.intro,λy z=>absurd U z)
def C8(q:attributeBase e f env (eval e env)=eval e env)
  (h:wpAny (model prog w) A (eval e env) (λo g=>wpAny (model prog w) A (getAttr o f O) Q E g) E s):wpAny (model prog w) A (eval (.Attribute e f pos) env) Q E s :=
 Attribute_any_ h (by rw[arm_eval_Attribute,q])
end
def Oi(K:BT)(ta:TE)(f:Str):TE:=λσ H Q=>ta σ H λx H1=>∃a C dx fs v,x=.ref a/\H1 a=Z (.ins C dx fs)/\Cls K C/\bg K C f/\fs.lookup f=Z v/\Q v H1
def Rw(K:BT)(ta tv:TE)(f:Str):TS:=λD σ H=>tv σ H λy H1=>ta σ H1 λx H2=>∃a C dx fs,x=.ref a/\H2 a=Z (.ins C dx fs)/\Cls K C/\bg K C f/\fs.length<1000 /\
 D.nx σ (upd H2 a (.ins C dx (eT f y fs)))
def QP(X:Cx)(op:Operator)(rd:V->V->Hp->VK->Prop):Prop :=
 ∀(gV:List (J×Obj))(s:ϋ)(σ:St)(H:Hp)(x y:V)(u v:B)(Q:VK),Inv X gV σ H s->RelV x u->RelV y v->rd x y H Q->wpAny (model X.prog X.w) X.A (inplaceOp op u v) (EP X gV σ Q) X.xe s
def B3(K:BT)(ta tv:TE)(rd:V->V->Hp->VK->Prop)(f:Str):TS:=λD σ H=>ta σ H λx H1=>∃a C dx fs v,x=.ref a/\H1 a=Z (.ins C dx fs)/\Cls K C/\bg K C f/\fs.lookup f=Z v /\
 tv σ H1 λy H2=>rd v y H2 λz P=>∃q g,P a=Z (.ins C q g)/\g.length<1000/\D.nx σ (upd P a (.ins C q (eT f z g)))
section
variable{value:Ev}{f:Str}{pos Fg:Pos}{ta tv:TE}
def He(he:PE X e ta)(P:attributeBase e f X.env (eval e X.env)=eval e X.env):PE X (.Attribute e f pos) (Oi X.K ta f):=by
 intro gV s σ H Q I h;refine C8 P (thn (he gV s σ H _ I h) λu s1 g=>?_)
 let(x,H1,I1,z,a,C,dx,fs,v,ex,V,c,n,l,q):=g;subst ex;obtain rfl:=z;exact k8 I1 V c n l λu' s2 I2 ru=>(v,H1,I2,ru,q)
def v7(ha:PE X o ta)(hv:PE X value tv)(hs:swapsWith value (Z (.Attribute o f pos')) pos.line X.env=pure ϊ):PS X (.Assign [.Attribute o f pos'] value pos) (Rw X.K ta tv f):=by
 intro gV s σ H D I h;refine plainObj_wpAny_Assign_Attribute (thn (hv gV s σ H _ I h) λu s1 (y,H1,I1,z,q)=>thn (ha gV s1 σ H1 _ I1 q) λov s2 g=>?_) hs
 let(x,H2,I2,P,a,C,dx,fs,ex,V,c,n,l,Q):=g;subst ex;obtain rfl:=P;exact qI I2 V c n l z λs3 I3=>(σ,_,I3,Q)
def D4{op:Operator}(ha:PE X o ta)(hv:PE X value tv)(g:QP X op rd):PS X (.AugAssign (.Attribute o f Fg) op value pos) (B3 X.K ta tv rd f):=by
 intro gV s σ H D I h;refine wpAny_AugAssign_AttributeAny (thn (ha gV s σ H _ I h) λov s1 P=>?_)
 let(x,H1,I1,rx,a,C,dx,fs,v,ex,ea,c,n,l,q):=P;subst ex;obtain rfl:=rx;exact k8 I1 ea c n l λu s2 I2 ru=>thn (hv gV s2 σ H1 _ I2 q) λw3 s3 (y,H2,I3,ry,q3)=>thn (g gV s3 σ H2 v y u w3 _ I3 ru ry q3) λw4 s4 (z,H3,I4,rz,aD,av,Q,l',q4)=>(qI I4 Q c n l' rz λs5 I5=>(σ,_,I5,q4))
inductive OD(x:V)(y:V)(H:Hp)(Q:VK):Prop
 |mk(i j)(h1:x=.int i)(h2:y=.int j)(h3:Q (.int (i+j)) H)
def Bf:QP X .Add OD:=by
 rintro gV s σ H x y u v Q I z g ⟨i,j,rfl,rfl,q⟩
 let(t,U):=(z);let(t',U):=(g);exact PyProof.Rows.iadd_int (.int (i+j),H,I.tok _,(_,U),q)
end
section
variable{σ:St}{s:ϋ}{c:B}{b:Bool}
inductive kA(K:BT)(H:Hp):V->B->Prop where
 |non:kA K H .non (.type "NoneType")
 |bl(x:Bool):kA K H (.bl x) (.type "bool")
 |int(i:Int):kA K H (.int i) (.type "int")
 |str(x:Str):kA K H (.str x) (.type "str")
 |flt(x:UInt64):kA K H (.flt x) (.type "float")
 |lst{a:J}{xs:List V}(e:H a=Z (.lst xs)):kA K H (.ref a) (.type "list")
 |frz{a:J}{o:Obj}{xs:List V}(e:H a=Z (.frz o (.lst xs))):kA K H (.ref a) (.type "list")
 |tup{a:J}{xs:List V}(e:H a=Z (.tup xs)):kA K H (.ref a) (.type "tuple")
 |dK{a:J}{kvs:List (Key×V)}(e:H a=Z (.dK kvs)):kA K H (.ref a) (.type "dict")
 |dT{a:J}{kvs:List (List Key×V)}(e:H a=Z (.dT kvs)):kA K H (.ref a) (.type "dict")
 |ins{a C dx:J}{fs:List (Str×V)}(e:H a=Z (.ins C dx fs))(cl:Cls K C)(ha:W.findIn K (.ref C) "__class__"=Z (Z (.builtin "object.__class__")))
   (hn:W.specialIn K (.builtin "object.__class__") "__get__"=Z (Z (.builtin "getset_descriptor.__get__"))) (htk:W.takesIn K (.builtin "object.__class__")=Z O)
   (hm:W.mroIn K C (.type "object")=Z O):kA K H (.ref a) (.ref C)
theorem Ez{x:V}{t:B}(I:Inv X gV σ H s)(g:RelV x u)(ty:kA X.K H x t)(e:W.kitOne X.K t c=Z b)(h:∀tk,Q (.bool b) {s with toks:=tk}):
  wpAny (model X.prog X.w) A (call (.builtin "isinstance") [u,c]) Q E s:=by
 cases ty with
 |non=>cases(g);exact W.kia_one W.kitx_none I.kIn True.intro e (λz=>nomatch z) h
 |bl y=>cases(g);exact W.kia_one W.kitx_bool I.kIn True.intro e (λz=>nomatch z) h
 |int i=>let(t,q):=(g);cases q;exact W.kia_one W.kitx_int I.kIn True.intro e (λz=>nomatch z) h
 |str y=>let(t,q):=(g);cases q;exact W.kia_one W.kitx_str I.kIn True.intro e (λz=>nomatch z) h
 |flt y=>let(t,q):=(g);cases q;exact W.kia_one W.kitx_float I.kIn True.intro e (λz=>nomatch z) h
 |@lst a xs P =>
  cases(g)
  let(_,_,n,_,h1):=(I.hok a _ P);exact W.kia_one W.kitx_list I.kIn (_,h1,U) e (λz=>nomatch z) h
 |@frz a ob xs P =>
  cases(g)
  let(_,_,_,n,_,h1):=(I.hok a _ P);exact W.kia_one W.kitx_list I.kIn (_,h1,U) e (λz=>nomatch z) h
 |@tup a xs P =>
  cases(g)
  let(_,_,_,p):=(I.hok a _ P);let(o,h1,h2,_):=p.1;exact W.kia_one W.kitx_tuple I.kIn (o,h1,h2) e (λz=>nomatch z) h
 |@dK a kvs P =>
  cases(g)
  let(_,_,vs,_,p):=(I.hok a _ P);let(o,es,ep,h1,h2,_):=p;exact W.kia_one W.kitx_dict I.kIn (o,h1,h2.1) e (λz=>nomatch z) h
 |@dT a kvs P =>
  cases(g)
  let(_,_,xs,_,o,es,ep,h1,h2,_):=(I.hok a _ P);exact W.kia_one W.kitx_dict I.kIn (o,h1,h2.1) e (λz=>nomatch z) h
 |@ins a C dx fs P cl ha hn htk hm =>
  cases(g)
  let(mA,X9,_):=pQ I.hok P;let(od,Yc,_):=X9.look;exact W.kia_one (W.kitx_own (cl.get _) cl.hd ha hn htk hm) I.kIn Yc e (λz=>nomatch z) h
end
structure cy(k:Nat)(A:Db):Prop where
 hd:A.handled=Y
 dp:A.depth+3*k+5<recursionLimit
 un:A.units+16*k+200<cLine
def cy.mono(r:cy k A)(h:j<=k):cy j A:=(r.hd,by have:=r.dp;lia,by have:=r.un;lia)
def cy.bz(r:cy k A)(h:j<=k:=by first|decide|lia):cy j A:=r.mono h
theorem cy.deeper(r:cy (k+1) A)(env:Env):cy k (A.deeper env) :=
 (r.hd,by have:=r.dp;show A.depth+1+3*k+5<_;lia,by have:=r.un;show A.units+3+16*k+200<_;lia)
def A9:(A.under (.builtin "type.__call__" (.ref C::us,kw))).depth=A.depth+1:=by
 rfl
def A8:(A.under (.builtin "type.__call__" (.ref C::us,kw))).units=A.units+1:=by
 rfl
def cy.make(r:cy (k+1) A)(C:J)(us:List B)(kw:List (Str×B)):cy k (A.under (.builtin "type.__call__" (.ref C::us,kw))) :=
 (r.hd,by have:=r.dp;rw[A9];lia,by have:=r.un;rw[A8];lia)
theorem cy.depth(r:cy k A):A.depth<recursionLimit:=by have:=r.dp;lia
theorem cy.units(r:cy k A):A.units+64<cLine:=by have:=r.un;lia
def fY:TA:=λ_ H Q=>Q [] H
def di(ta:TE)(g:TA):TA:=λσ H Q=>ta σ H λx H1=>g σ H1 λxs H2=>Q (x::xs) H2
section
variable{t:TA}{pos:Pos}
def eu:PA X [] fY:=λ_ _ _ _ H Q I h=>Calls.spliced_nil ([],H,I,.nil,h)
abbrev AC(X:Cx)(e:Ev)(f:List Ev):Prop:=kz (e::f) X.env=(false,eval e X.env)::kz f X.env
def bL(ha:PE X e te)(hr:PA X es t)(hs:AC X e es:=by rfl):PA X (e::es) (di te t):=by
 intro pos gV s σ H Q I h;rw[hs];show wpAny _ _ (spliced ((ϊ,eval e X.env)::backTo pos (kz es X.env))) _ _ s;exact Calls.spliced_cons (thn (ha gV s σ H _ I h) λu s1 (x,H1,P,q,q1)=>(thn (hr pos gV s1 σ H1 _ P q1) λus s2 (xs,H2,K,g,z)=>(x::xs,H2,K,.cons q g,z)))
def Oe(t:TA):TE:=λσ H Q=>t σ H λxs H1=>xs.length<=mV/\∀p,H1 p=Y->Q (.ref p) (upd H1 p (.tup xs))
def Rn(t:TA):TE:=λσ H Q=>t σ H λxs H1=>xs.length<=mV/\∀p,H1 p=Y->Q (.ref p) (upd H1 p (.lst xs))
def G9{K}(h:PA X es t):PE X (.Tuple es K pos) (Oe t):=by
 intro gV s σ H Q I hq;refine wpAny_Tuple_spliced (thn (h pos gV s σ H _ I hq) λus s1 (xs,H1,g,r,z,q)=>(by rw[<- r.length];exact z,?_))
 let hf:=g.hok.fresh (mW _);refine(.ref s1.heap.objs.size,upd H1 s1.heap.objs.size (.tup xs),g.laid (λb u e=>ja _ e) (mW _) ?_,U,q _ hf)
 exact(z,us,r,((_,pB _ U,U,_,U),_,pB _ U,U))
def Ph(h:PA X es t):PE X (.List es pos) (Rn t):=by
 intro gV s σ H Q I hq;refine wpAny_List_spliced (thn (h pos gV s σ H _ I hq) λus s1 (xs,H1,g,r,z,q)=>(by rw[<- r.length];exact z,?_))
 let hf:=g.hok.fresh (mW _);refine(.ref s1.heap.objs.size,upd H1 s1.heap.objs.size (.lst xs),g.laid (λb u e=>ja _ e) (mW _) ?_,U,q _ hf)
 exact(z,us,0,r,pB _ U)
end
abbrev Sp:=List V->Hp->VK->XK->Prop
abbrev CXT:=List Env->Hp->ϋ->XK->B->ϋ->Prop
structure BE(P:Da)(w:Cl)(K:BT)(mg:Str->Option B)(base:Do)(A:Db)(outer:List Env)(s:ϋ)(H:Hp):Prop where
 frames:A.frames=Z outer
 mod:Mod K mg base
 bs:∀b o,base.get? b=Z o->s.heap.get? b=Z o/\H b=Y
 bsz:base.objs.size<=s.heap.objs.size
 pe:s.heap.FunFrames base outer
 frf:∀b∈frs outer,H b=Y
 hok:HOk P w H s.heap
 bare:AllBare s.gens
def CE(outer:List Env)(P:Da)(w:Cl)(H:Hp)(s:ϋ)(Q:VK)(u:B)(s':ϋ):Prop :=
 ∃v H',s'.os=s.os/\AllBare s'.gens/\Un (frs outer) [] H H' s.heap s'.heap/\HOk P w H' s'.heap/\RelV v u/\Q v H'
def CR(CX:CXT)(outer:List Env)(P:Da)(w:Cl)(H:Hp)(s:ϋ)(Q:VK)(E:XK)(r:Result)(s':ϋ):Prop :=
 match r with
 |.ok (.ret u)=>CE outer P w H s Q u s'
 |.ok _=>False
 |.error e=>CX outer H s E e s'
structure a8(P:Da)(w:Cl)(K:BT)(mg:Str->Option B)(base:Do)(CX:CXT)(k:Nat)(f:J)(fd:Ch)(ps:List Str)(sp:Sp):Prop where
 len:∀vs H Q E,sp vs H Q E->vs.length=ps.length
 run:∀(A:Db)(outer:List Env)(s:ϋ)(H:Hp)(args:Args)(us:List B)(vs:List V)(Q:VK)(E:XK),cy k A->BE P w K mg base A outer s H->BindsTo s fd args (ps.zip us)->Vals vs us->sp vs H Q E ->
  codeAny (model P w) A (.call (.ref f) args) (CR CX outer P w H s Q E) s
variable{mg:Str->Option B}{base:Do}{CX:CXT}{fd:Ch}{sp:Sp}
theorem a8.imp{K:BT}(F:a8 P w K mg base CX k f fd ps sp)
  (h:∀vs H Q E,g vs H Q E->sp vs H Q E):a8 P w K mg base CX k f fd ps g :=
 (λvs H Q E q=>F.len vs H Q E (h _ _ _ _ q),λA outer s H args us vs Q E hr he z hv hs=>F.run A outer s H args us vs Q E hr he z hv (h _ _ _ _ hs))
theorem BE.make{K:BT}(e:BE P w K mg base A outer s H)(C:J)(us:List B)(kw:List (Str×B)):
  BE P w K mg base (A.under (.builtin "type.__call__" (.ref C::us,kw))) outer s H:=(by exact e.frames,e.mod,e.bs,e.bsz,e.pe,e.frf,e.hok,e.bare)
section
variable{σ:St}{s:ϋ}
def Inv.Tp(I:Inv X gV σ H s):BE X.prog X.w X.K X.mg X.base X.A X.stack s H :=
 (I.ok.frames,I.ok.mod,I.bs,u4 I.ok.bsz I.sz,I.stack,I.BV,I.hok,I.bare)
def Inv.after{Q:VK}(I:Inv X gV σ H s)(h:CE X.stack X.prog X.w H s Q u s'):EP X gV σ Q u s':=by
 let(v,H',os,bare,un,hok,r,q):=h;let(P,g,d,t,K):=s';obtain rfl:=os;exact(v,H',I.call un hok bare (λb z=>absurd z (by simp)),r,q)
end
def qz(sp:Sp)(dvs:List V)(E:XK)(t:TA):TE:=λσ H Q=>t σ H λvs H1=>sp (vs++dvs) H1 Q E
def lK(C:J)(m:Str)(sp:Sp)(dvs:List V)(E:XK)(ta:TE)(t:TA):TE:=λσ H Q=>ta σ H λx H1=>∃a dx fs,x=.ref a/\H1 a=Z (.ins C dx fs)/\fs.lookup m=Y /\
 t σ H1 λvs H2=>sp (x ::(vs++dvs)) H2 Q E
def Fm(C:J)(sp:Sp)(dvs:List V)(E:XK)(t:TA):TE:=λσ H Q=>t σ H λvs H1=>∀x dx,H1 x=Y->H1 dx=Y->dx≠x ->
 sp (.ref x ::(vs++dvs)) (upd (upd H1 dx (.own x)) x (.ins C dx [])) (λv H2=>v=.non/\Q (.ref x) H2) E
def Binds(K:BT)(fd:Ch)(ps:List Str)(ds:List B):Prop :=
 ∀(s:ϋ)(us:List B),K.In s.heap->(us++ds).length=ps.length->BindsTo s fd (us,[]) (ps.zip (us++ds))
theorem Binds.all{K:BT}(h:∀us:List B,us.length=ps.length->bindArgs fd (us,[])=pure (ps.zip us)):Binds K fd ps []:=λs us _ hl=>by
 rw[sQ]at hl ⊢;exact .of_eq (h us hl)
def Passes(CX:CXT)(X:Cx)(E:XK):Prop:=∀(gV:List (J×Obj))(σ:St)(H:Hp)(s:ϋ)(e:B)(s':ϋ),Inv X gV σ H s->CX X.stack H s E e s'->X.xe e s'
section
variable{k:Nat}{f:J}{ps:List Str}{dvs:List V}{ds:List B}{E:XK}{m:Str}{p pos apos:Pos}{ta:TE}{t:TA}
theorem Au{σ:St}{Q:VK}(F:a8 X.prog X.w X.K X.mg X.base CX k f fd ps sp)(hr:cy k X.A)(q:Binds X.K fd ps ds)(hd:Vals dvs ds)(hx:Passes CX X E)
  (I:Inv X gV σ H s) (r:Vals vs us) (h:sp (vs++dvs) H Q E):wpAny (model X.prog X.w) X.A (call (.ref f) us) (EP X gV σ Q) X.xe s:=by
 let g:=r.append hd;let hl:(us++ds).length=ps.length:=by rw[<- g.length];exact F.len _ _ _ _ h
 refine wpAny_call (codeAny_mono (F.run X.A X.stack s H (us,[]) (us++ds) (vs++dvs) Q E hr I.Tp (q s us I.kIn hl) g h) λr s' hq=>?_)
 cases r with
 |error e=>exact hx gV σ H s e s' I hq
 |ok fl =>
  cases fl with
  |ret u=>exact I.after hq
  |next=>exact False.elim hq
  |brk=>exact False.elim hq
  |cont=>exact False.elim hq
abbrev AM(X:Cx)(p:Pos)(e:List Ev):Prop:=(backTo p (kz e X.env)).any (·.1)=false
theorem wx(F:a8 X.prog X.w X.K X.mg X.base CX k f fd ps sp)(hr:cy k X.A)(hg:Gl X x)(hm:X.mg x=Z (.ref f))(V:W.keepIn X.K (.ref f)=O)(hb:Binds X.K fd ps ds)(hd:Vals dvs ds)(hx:Passes CX X E)
  (ha:PA X (e::es) t) (z:AS x:=by decide) (he:AC X e es:=by rfl) (g:AM X pos es:=by rfl):
  PE X (.Call (.Name x p) (e::es) [] pos) (qz sp dvs E t):=by
 intro gV s σ H Q I h;exact QR (pP I hg hm (W.callWith_K (h₀:=X.base) I.ok.mod.kin V (thn (ha pos gV s σ H _ I h) λus s1 (vs,H1,P,r,q)=>(P.kIn,(Au F hr hb hd hx P r q))) he g) z)
theorem Cm{pl:Sem Bool}(he:PE X o ta)(c:Cls X.K C)(hm:Meth X.K C m f)(F:a8 X.prog X.w X.K X.mg X.base CX k f fd ps sp)(hr:cy k X.A)(hb:Binds X.K fd ps ds)(hd:Vals dvs ds)(hx:Passes CX X E)(ha:PA X (e::es) t)
  (g:AC X e es:=by rfl) (z:AM X pos es:=by rfl)
  (ht:eval (.Call (.Attribute o m apos) (e::es) [] pos) X.env=(do
   let V <- eval o X.env
   standAt apos.atName
   let(f,first) <- holding [V] (getMethod V m pl)
   callWith pos f first (backTo pos (kz (e::es) X.env)) (backToKw pos (keywordEach [] X.env))):=by rfl):
  PE X (.Call (.Attribute o m apos) (e::es) [] pos) (lK C m sp dvs E ta t):=by
 intro gV s σ H Q I h;refine W.methodCall_KW (thn (he gV s σ H _ I h) λu s1 P=>?_) ht
 let(x,H1,I1,rx,a,dx,fs,ex,ea,l,q):=P;subst ex;obtain rfl:=rx;refine sd I1 ea c hm l ?_;refine W.callWith_K I.ok.mod.kin hm.kp (thn (ha pos gV s1 σ H1 _ I1 q) λus s2 (vs,H2,I2,r,q2)=>(I2.kIn,?_)) g z
 exact Au (vs:=.ref a::vs) F hr hb hd hx I2 (.cons U r) q2
theorem rB(he:PE X o ta)(c:Cls X.K C)(hm:Meth X.K C m f)(F:a8 X.prog X.w X.K X.mg X.base CX k f fd ps sp)(hr:cy k X.A)(hb:Binds X.K fd ps ds)(hd:Vals dvs ds)(hx:Passes CX X E)
  (ht:eval (.Call (.Attribute o m apos) [] [] pos) X.env=(do
   let P <- eval o X.env
   standAt apos.atName
   let(f,first) <- holding [P] (getMethod P m pl)
   callWith pos f first (backTo pos (kz [] X.env)) (backToKw pos (keywordEach [] X.env))):=by rfl):
  PE X (.Call (.Attribute o m apos) [] [] pos) (lK C m sp dvs E ta fY):=by
 intro gV s σ H Q I h;refine W.methodCall_KW (thn (he gV s σ H _ I h) λu s1 g=>?_) ht
 let(x,H1,z,V,a,dx,fs,ex,ea,l,q):=g;subst ex;obtain rfl:=V;refine sd z ea c hm l ?_;exact W.callWith_K0 z.kIn hm.kp (Au (vs:=[.ref a]) F hr hb hd hx z (.cons U .nil) q)
structure Mk(K:BT)(C f:J):Prop where
 makes:W.makesIn K C=O
 init:W.findIn K (.ref C) "__init__"=Z (Z (.ref f))
 fn:W.isFn K (.ref f)=O
 kp:W.keepIn K (.ref C)=O
theorem yc{σ:St}{s:ϋ}{Q:VK}{vs:List V}(M:Mk X.K C f)(F:a8 X.prog X.w X.K X.mg X.base CX k f fd ps sp)(hr:cy (k+1) X.A)(hb:Binds X.K fd ps ds)(hd:Vals dvs ds)
  (hx:Passes CX X E) (I:Inv X gV σ H s) (r:Vals vs us)
  (h:∀x dx,H x=Y->H dx=Y->dx≠x->sp (.ref x ::(vs++dvs)) (upd (upd H dx (.own x)) x (.ins C dx [])) (λv H2=>v=.non/\Q (.ref x) H2) E):
  wpAny (model X.prog X.w) X.A (call (.ref C) us) (EP X gV σ Q) X.xe s:=by
 let hq:=h (s.heap.objs.size+1) s.heap.objs.size (I.hok.fresh (Nat.le_succ _)) (I.hok.fresh (mW _)) (sR (VA _));let q:=Inv.made (C:=C) I;let z:Vals (V.ref (s.heap.objs.size+1) ::(vs++dvs)) (B.ref (s.heap.objs.size+1) ::(us++ds)):=.cons U (r.append hd);let hl:=by
  let e:=z.length;rw[F.len _ _ _ _ hq]at e;exact e.symm
 refine wpAny_call (HI I.kIn M.makes M.init (beq_iff_eq.mp M.fn) (codeAny_mono (F.run _ X.stack _ _ (B.ref (s.heap.objs.size+1)::us,[]) (B.ref (s.heap.objs.size+1) ::(us++ds)) _ _ E (hr.make C us [])
  (q.Tp.make C us []) (hb _ (B.ref (s.heap.objs.size+1)::us) q.kIn hl) z hq) λr s' g=>?_))
 cases r with
 |error e=>exact hx gV σ _ _ e s' q g
 |ok fl =>
  cases fl with
  |ret u =>
   let(v,H',I3,rv,ev,P):=q.after g;subst ev;exact(rv,(V.ref (s.heap.objs.size+1),H',I3,U,P))
  |next=>exact False.elim g
  |brk=>exact False.elim g
  |cont=>exact False.elim g
theorem Lu(M:Mk X.K C f)(F:a8 X.prog X.w X.K X.mg X.base CX k f fd ps sp)(hr:cy (k+1) X.A)(hg:Gl X x)(hm:X.mg x=Z (.ref C))(V:Binds X.K fd ps ds)(hd:Vals dvs ds)(hx:Passes CX X E)
  (ha:PA X (e::es) t) (z:AS x:=by decide) (he:AC X e es:=by rfl) (g:AM X pos es:=by rfl):
  PE X (.Call (.Name x p) (e::es) [] pos) (Fm C sp dvs E t):=by
 intro gV s σ H Q I h;exact QR (pP I hg hm (W.callWith_K (h₀:=X.base) I.ok.mod.kin M.kp (thn (ha pos gV s σ H _ I h) λus s1 (vs,H1,P,r,q)=>(P.kIn,(yc M F hr V hd hx P r q))) he g) z)
end
def PK(X:Cx)(kws:List Keyword)(t:TA):Prop :=
 ∀(pos:Pos)(gV:List (J×Obj))(s:ϋ)(σ:St)(H:Hp)(Q:List V->Hp->Prop),Inv X gV σ H s->t σ H Q->wpAny (model X.prog X.w) X.A (evalAll ((backToKw pos (keywordEach kws X.env)).map (·.2))) (AP X gV σ Q) X.xe s
section
variable{pos My:Pos}{kws:List Keyword}{t:TA}{nm:Option Str}
def Pc:PK X [] fY:=λ_ _ _ _ H Q I h=>wpAny_evalAll_nil ([],H,I,.nil,h)
def Lm(ha:PE X e te)(hr:PK X kws t):PK X ((nm,e,My)::kws) (di te t):=by
 intro pos gV s σ H Q I h;show wpAny _ _ (evalAll ((do let v <- eval e X.env;standAt pos;pure v) ::(backToKw pos (keywordEach kws X.env)).map (·.2))) _ _ s
 exact wpAny_evalAll_cons (cO (thn (ha gV s σ H _ I h) λu s1 (x,H1,P,q,q1)=>cO (wpAny_standAt (k4 (thn (hr pos gV s1 σ H1 _ P q1) λus s2 (xs,H2,K,g,z)=>(x::xs,H2,K,.cons q g,z))))))
end
structure aA(N P:List Str)(sc:Scope):Prop where
 kind:sc.kind=.function
 co:sc.isCoroutine=ϊ
 gen:sc.isGenerator=ϊ
 nd:N.Nodup
 pre:N.take P.length=P
 par:∀x∈P,sc.names.lookup x=Z .local\/sc.names.lookup x=Z .cell
 Pq:∀y∈sc.names,y.2 ≠ .free
theorem u7{kindOf:Str->Option NameKind}:∀{binds:List (Str×B)}{m:Str->Option B},(∀v,(x,v) ∉ binds)->bindL kindOf binds m x=m x
 |[],_,_=>rfl
 | (n,v)::r,m,h=>by
  unfold bindL;rw[u7 λw hw=>h w (j0 _ hw)]
  split
  ·have:x≠n:=by rintro rfl;exact h v g5
   simp[this]
  ·rfl
theorem va{kindOf:Str->Option NameKind}:∀{binds:List (Str×B)}{m:Str->Option B},(∀v,(x,v) ∉ binds)->bindC kindOf binds m x=m x
 |[],_,_=>rfl
 | (n,v)::r,m,h=>by
  unfold bindC;rw[va λw hw=>h w (j0 _ hw)]
  split
  ·rfl
  ·have:x≠n:=by rintro rfl;exact h v g5
   simp[this]
theorem u9{kindOf:Str->Option NameKind}{x:Str}{v:B}:∀{P:List Str}{vs:List B}{i:Nat}{m:Str->Option B},P.Nodup->P[i]?=Z x->vs[i]?=Z v->kindOf x=Z .local ->
  bindL kindOf (P.zip vs) m x=Z v
 |[],_,_,_,_,h,_,_=>by simp at h
 |_::_,[],_,_,_,_,h,_=>by simp at h
 |p::P,w::vs,0,m,nd,h1,h2,g=>by
  simp at h1 h2;subst h1;subst h2;show bindL kindOf ((p,w)::P.zip vs) m p=_;unfold bindL;rw[u7 λv hv=>(sP.mp nd).1 (QV hv).1,if_pos g]
  simp
 |p::P,w::vs,i+1,m,nd,h1,h2,g=>by
  unfold bindL;exact u9 (sP.mp nd).2 (by simpa using h1) (by simpa using h2) g
theorem vd{kindOf:Str->Option NameKind}{x:Str}{v:B}:∀{P:List Str}{vs:List B}{i:Nat}{m:Str->Option B},P.Nodup->P[i]?=Z x->vs[i]?=Z v->kindOf x≠Z .local ->
  bindC kindOf (P.zip vs) m x=Z v
 |[],_,_,_,_,h,_,_=>by simp at h
 |_::_,[],_,_,_,_,h,_=>by simp at h
 |p::P,w::vs,0,m,nd,h1,h2,g=>by
  simp at h1 h2;subst h1;subst h2;show bindC kindOf ((p,w)::P.zip vs) m p=_;unfold bindC;rw[va λv hv=>(sP.mp nd).1 (QV hv).1,if_neg g]
  simp
 |p::P,w::vs,i+1,m,nd,h1,h2,g=>by
  unfold bindC;exact vd (sP.mp nd).2 (by simpa using h1) (by simpa using h2) g
def start(N:List Str)(vs:List V):St:=vs.map Z++BA (N.length - vs.length) Y
def so(CX:CXT)(P:Da)(w:Cl)(K:BT)(mg:Str->Option B)(base:Do)(N:List Str)(qual:Str)(scope:Scope)(f:J)(cd:B)(A:Db)(outer:List Env)(s:ϋ)(H:Hp)(E:XK):Cx where
 prog:=P
 w:=w
 K:=K
 mg:=mg
 base:=base
 A:=A.deeper (envOfC qual scope s.heap.objs.size f cd)
 N:=N
 s₀:=s
 H₀:=H
 env:=envOfC qual scope s.heap.objs.size f cd
 outer:=outer
 stack:=envOfC qual scope s.heap.objs.size f cd::outer
 ex:=[]
 calm:=O
 fn:=λ_=>O
 pn:=[]
 xe:=λe s'=>wpAny (model P w) (A.deeper (envOfC qual scope s.heap.objs.size f cd)) (leaving (envOfC qual scope s.heap.objs.size f cd) e) (λ_ g=>CX outer H s E e g) (λe' g=>CX outer H s E e' g) s'
variable{sc:Scope}
theorem zw(h:sc.names.lookup x=Z .cell):∃c,(cellsFrom n sc.names []).lookup x=Z c:=by
 let q:=W.cellsFrom_some sc.names n [] (.inl h);exact Vw.mp q
variable{qual:Str}{scope:Scope}
theorem EA{K:BT}{E:XK}
  (S:aA N ps scope) (hd:A.handled=Y) (g:BE P w K mg base A outer s H) (hl:vs.length=ps.length) (r:Vals vs us)
  (x:InCallC s s.heap.objs.size (bindL (envOfC qual scope s.heap.objs.size f cd).kindOf (ps.zip us) λ_=>Y) (cellsFrom (s.heap.objs.size+1) scope.names []) (bindC (envOfC qual scope s.heap.objs.size f cd).kindOf (ps.zip us) λ_=>Y) s1):
  Inv (so CX P w K mg base N qual scope f cd A outer s H E) [] (start N vs) H s1:=by
 let aD:ps.length<=N.length:=by have:=congrArg VH S.pre;rw[zL]at this;lia
 let(h1,tk,U,hk):=x.done;let Q:∀b,b ∉ (so CX P w K mg base N qual scope f cd A outer s H E).ex:=λb z=>absurd (show b∈([])from z) (by simp)
 refine((g.mod,S.kind,U,U,mW _,λy z c h1 h2=>?_,λy hy=>?_,λy c _ h=>?_,λ_=>hd,Around.frames_deeper g.frames,.inr (U,U),λb z=>absurd z (Q b),g.bs,g.bsz,λb _ _=>Q b,λb z=>absurd z (Q b),g.pe,g.frf),
  rfl,g.bare,Un.kept hk,(_,x.toInCall.ns,λi y v h1 h2 h3=>?_),λy c h=>(_,x.cell y c h),g.hok.fresh (mW _),λy c h=>?_,λp hp=>absurd (show p∈([])from hp) (by simp),g.hok.kept hk,?_)
 ·exact name_of_addr x.apart (PySem.mem_of_lookup h1) (PySem.mem_of_lookup h2)
 ·obtain hy|hy:=hy
  ·exact zw hy
  ·exact absurd U (S.Pq _ (PySem.mem_of_lookup hy))
 ·exact P1 (x.above y c (PySem.mem_of_lookup h))
 ·let hi:i<vs.length:=by
   unfold start at h2;by_cases hi:i<vs.length
   ·exact hi
   ·rw[xD (by simpa using hi)]at h2
    rw[V8]at h2
    split at h2 <;> cases h2
  let ha:vs[i]?=Z v:=by
   unfold start at h2;rw[wh (by simpa using hi),j5]at h2
   cases e:vs[i]? with
   |none=>rw[e]at h2;cases h2
   |some a=>rw[e]at h2;cases h2;rfl
  let(u,hu,rv):=r.get ha;let hp:ps[i]?=Z y:=by
   rw[<- S.pre,List.getElem?_take_of_lt (by lia)];exact h1
  let av:ps.Nodup:=by rw[<- S.pre];exact S.nd.sublist (V1 _ _)
  refine(u,rv,?_);obtain k|k:=S.par y (pA hp)
  ·exact .inl (k,u9 av hp hu k)
  ·let(c,e):=zw k;refine .inr (.inl k,c,e,?_);let q:=x.cell y c e;rw[vd av hp hu (by show scope.names.lookup y≠_;rw[k];decide)]at q
   exact q
 ·exact g.hok.fresh (P1 (x.above y c (PySem.mem_of_lookup h)))
 ·unfold start;show _=N.length;rw[px,dz,List.length_replicate]
  lia
variable{name:Str}{pm:B}{ct:B}{oc:B}{an:Option J}{od:Option J}
theorem To{K:BT}{dV kV doc cdv:B}
  (lk:K.lookup f=Z (oc,od,.func (W.fnOf name qual params body scope dV kV doc pm an cdv ct),osl)) (av:W.codeIn K cdv qual=O) (S:aA N ps scope)
  (len:∀vs H Q E,sp vs H Q E->vs.length=ps.length)
  (jM:∀(A:Db)(outer:List Env)(s:ϋ)(H:Hp)(vs:List V)(Q:VK)(E:XK),cy k (A.deeper (envOfC qual scope s.heap.objs.size f cdv))->sp vs H Q E ->
   ∃t,PSs (so CX P w K mg base N qual scope f cdv A outer s H E) body t/\t {nx:=λ_ H'=>Q .non H',rt:=Q} (start N vs) H):
  a8 P w K mg base CX (k+1) f (W.fnOf name qual params body scope dV kV doc pm an cdv ct) ps sp:=by
 refine(len,λA outer s H args us vs Q E hr e0 hb r z=>?_)
 let hl:=len _ _ _ _ z;let KX:=e0.mod.kin.keeps λb o e=>(e0.bs b o e).1
 let lim:=e0.mod.nolimit.keeps λb o e=>(e0.bs b o e).1
 let iw:∀y∈ps.zip us,scope.names.lookup y.1=Z .local\/(scope.names.lookup y.1=Z .cell/\((cellsFrom (s.heap.objs.size+1) scope.names []).lookup y.1).isSome=O):=λ(n,v) hy=>by
  obtain q|q:=S.par n (QV hy).1
  ·exact .inl q
  ·exact .inr (q,W.cellsFrom_some _ _ _ (.inl q))
 refine codeAny_call_function hr.depth (KX _ _ lk) U S.co S.gen U (W.codeRec_of KX av) (hb _ _ _ _ (wpAny_newFunctionEnv_cells S.kind iw λenv he s1 x=>?_))
 subst he;refine(lim.keeps x.toInCall.keep,codeAny_func ?_);let(t,ht,hq):=jM A outer s H vs Q E (hr.deeper _) z;let I:Inv (so CX P w K mg base N qual scope f cdv A outer s H E) [] (start N vs) H s1:=EA S hr.hd e0 hl r x;refine VG (ht [] s1 (start N vs) H _ I hq) (λfl s' hs=>?_) λe s' hs=>hs
 let fin:∀{g:St}{H':Hp}{v:V}{u:B},Inv (so CX P w K mg base N qual scope f cdv A outer s H E) [] g H' s'->RelV v u->Q v H'->CE outer P w H s Q u s' :=
  λ{g H' v u} Yc rv q=>(v,H',Yc.os,Yc.bare,Yc.base,Yc.hok,rv,q)
 cases fl with
 |ret u =>
  let(v,g,H',Yc,rv,q):=hs;exact fin Yc rv q
 |next =>
  let(g,H',Yc,q):=hs;exact fin (v:=V.non) Yc U q
 |brk =>
  let(_,_,_,q):=hs;exact False.elim q
 |cont =>
  let(_,_,_,q):=hs;exact False.elim q
section
variable{p pos:Pos}{t:TA}{id T:String}{r:List V->Hp->VK->Prop}
def tCB(r:List V->Hp->VK->Prop)(t:TA):TE:=λσ H Q=>t σ H λvs H1=>r vs H1 Q
def rE(K:cF X (.builtin id) r)(hg:Gl X x)(hm:X.mg x=Y)(hv:bootBuiltins x=Z (.builtin id))(ha:PA X (e::es) t)(hn:x ≠ "__name__":=by decide)(q:AS x:=by decide)
  (he:AC X e es:=by rfl) (g:AM X pos es:=by rfl):PE X (.Call (.Name x p) (e::es) [] pos) (tCB r t):=by
 intro gV s σ H Q I h;exact QR (dM I hg hm hv (PyProof.Rows.callWith_builtin1 (thn (ha pos gV s σ H _ I h) λus s1 (vs,H1,P,z,q1)=>K gV s1 σ H1 vs us Q P z q1) he g) hn q)
def Ea(K:cF X (.type T) r)(hg:Gl X x)(hm:X.mg x=Y)(hv:bootBuiltins x=Z (.type T))(ha:PA X (e::es) t)(hn:x ≠ "__name__":=by decide)(q:AS x:=by decide)
  (he:AC X e es:=by rfl) (g:AM X pos es:=by rfl):PE X (.Call (.Name x p) (e::es) [] pos) (tCB r t):=by
 intro gV s σ H Q I h;exact QR (dM I hg hm hv (PyProof.Rows.callWith_type1 (thn (ha pos gV s σ H _ I h) λus s1 (vs,H1,P,z,q1)=>K gV s1 σ H1 vs us Q P z q1) he g) hn q)
end
end L2
namespace HT
open PySem PyProof.Rows
section
variable{prog:Da}{w:Cl}{A:Db}{E:B->ϋ->Prop}{s:ϋ}
def MY{vs ws:List B}{Q:B->ϋ->Prop}(ht:IsTup s.heap t vs.toArray)(hb:IsTup s.heap b ws.toArray)(hv:vs ≠ [])
  (h1:ws=[]->Q (.ref t) s) (h2:ws ≠ []->Q (.ref s.heap.objs.size) {s with heap:=s.heap.push {cls:=.type "tuple",data:=.seq (vs++ws).toArray}})
  (hsz:vs.length+ws.length<=mV):wpAny (model prog w) A (binaryOp .Add (.ref t) (.ref b)) Q E s:=by
 let((cls,dd,data,sl),ho,V,n,hd):=id ht;let((Vg,K,data2,q),g,z,P,hd2):=id hb;simp only at V hd z hd2;subst V hd z hd2;let e:vs.toArray++ws.toArray=(vs++ws).toArray:=by simp
 by_cases hw:ws=[]
 ·exact concat_meets (_,ho,U) (_,g,U) noFill_tuple_add seq_tuple_add PySem.F.slot_tuple_add PySem.F.entry_tuple_add (PySem.F.args_tuple_add_2 _ _)
   (tuple_addW1 t b vs.toArray ws.toArray n P dd K sl q (by simpa using hv) (by simp[hw])) (ho,g,h1 hw)
 ·refine concat_meets (_,ho,U) (_,g,U) noFill_tuple_add seq_tuple_add PySem.F.slot_tuple_add PySem.F.entry_tuple_add (PySem.F.args_tuple_add_2 _ _)
   (tuple_addW2 t b vs.toArray ws.toArray n P dd K sl q (by simpa using hv) (by simpa using hw) (by exact hsz)) (ho,g,?_)
  rw[e];exact h2 hw
def sIx(n d:Nat):Option Int->Nat
 |none=>d
 |some v=>if v<0 then(v+(n:Int)).toNat else min v.toNat n
def F5(n d:Nat):sIx n d Y=d:=rfl
def Kf(n d k:Nat):sIx n d (Z (k:Int))=min k n:=by
 show(if(k)<0 then((k)+(n:Int)).toNat else min (k:Int).toNat n)=min k n
 rw[if_neg (by lia),W5]
def Tx(a:Int)(n:Nat)(h0:0<=a):min a (n:Int)=((min a.toNat n:Nat):Int):=by
 by_cases h:a<=n
 ·rw[Int.min_eq_left h,Xg (XN.mpr h),QU h0]
 ·let h':=Int.le_of_lt (Int.not_le.mp h);rw[Int.min_eq_right h',Nat.min_eq_right ((Int.le_toNat h0).mpr h')]
def FF(n:Nat)(i:Int)(h:i<0):max 0 (min (i+(n:Int)) n)=((i+n).toNat:Int):=by
 rw[Int.min_eq_left (Int.add_le_of_le_sub_right (by rw[Int.sub_self];exact Int.le_of_lt h)),Int.max_comm,Int.ofNat_toNat]
def FE(n:Nat)(i:Int)(h:¬ i<0):max 0 (min i (n:Int))=((min i.toNat n:Nat):Int):=by
 rw[Tx i n (Int.not_lt.mp h),Int.max_eq_right (Xy _)]
def C3(v:Int)(n d:Nat):(if v<0 then max (v+(n:Int)) 0 else min v (n:Int))=((sIx n d (Z v):Nat):Int):=by
 show(if v<0 then max (v+(n)) 0 else min v (n))=(((if v<0 then(v+(n)).toNat else min v.toNat n)))
 by_cases hv:v<0
 ·rw[if_pos hv,if_pos hv];exact(Int.ofNat_toNat _).symm
 ·rw[if_neg hv,if_neg hv];exact Tx v n (Int.not_lt.mp hv)
def Bv(lo hi:Option Int)(n:Nat):Builtin.Slice.sliceAdjust lo hi 1 (n:Int)=(((sIx n 0 lo:Nat):Int),((sIx n n hi:Nat):Int)):=by
 let h1:=by omega
 unfold Builtin.Slice.sliceAdjust;refine Prod.ext ?_ ?_
 ·cases lo with
  |none=>rfl
  |some v=>exact C3 v n 0
 ·cases hi with
  |none=>rfl
  |some v=>exact C3 v n n
def AN(i j:Nat):Builtin.Slice.slicePlaces (i:Int) (j:Int) 1=j - i:=by
 unfold Builtin.Slice.slicePlaces;let h1:(1:Int) > 0:=by lia
 simp only[h1,if_true,Int.ediv_one]
 split <;> lia
def qE{o:Option Int}{Q:Option Int->ϋ->Prop}(p:IsPart v o)(h:Q o s):wpAny (model prog w) A (Builtin.Slice.slicePartIndex v) Q E s:=by
 cases p with
 |none=>exact slicePart_none h
 |int i t=>exact slicePart_int h
def ia{K z:B}{lo hi:Option Int}{n:Nat}{Q:Int×Int×Nat->ϋ->Prop}(hs:s.heap.IsSliceOf sl K z .none)(pl:IsPart K lo)(pu:IsPart z hi)
  (h:Q (((sIx n 0 lo:Nat):Int),1,sIx n n hi - sIx n 0 lo) s):wpAny (model prog w) A (Builtin.Slice.sliceApplied (.ref sl) (pure (n:Int))) Q E s:=by
 let(os,g,P,q):=id hs;refine cO (cO (wpAny_field g q (x:=K) U (cO (wpAny_field g q (x:=z) U (cO (wpAny_field g q U (k4 ?_)))))));refine cO (slicePart_none ?_);refine cO (qE pl (cO (qE pu (cO (k4 ?_)))));show wpAny _ _ (match Builtin.Slice.sliceAdjust lo hi 1 (n)with|(lo,hi)=>pure (Prod.mk lo (Prod.mk (1:Int) (Builtin.Slice.slicePlaces lo hi 1)))) _ _ s
 rw[Bv lo hi n];show wpAny _ _ (pure (Prod.mk ((sIx n 0 lo):Int) (Prod.mk (1) (Builtin.Slice.slicePlaces ((sIx n 0 lo)) ((sIx n n hi)) 1)))) _ _ s;rw[AN];exact k4 h
def G6(xs:Array B)(i k:Nat):((E3 k).filterMap λ(m:Nat)=>xs[((i:Int)+(m:Int)*1).toNat]?).toArray=((xs.toList.drop i).take k).toArray:=by
 let e:(λ(m:Nat)=>xs[((i)+(m:Int)*1).toNat]?)=λm=>xs[i+m]?:=by
  funext m
  have:((i)+(m:Int)*1).toNat=i+m:=by lia
  rw[this]
 rw[e]
 have:=pick_run xs i k
 rw[List.filterMap_map]at this;let g:((λx=>xs[x]?) ∘ λx=>i+x)=λm=>xs[i+m]?:=rfl
 rw[g]at this;rw[this]
def mB{items:Array B}{vl vu:B}{lo hi:Option Int}{Q:B->ϋ->Prop}(g:IsTup s.heap t items)(hs:s.heap.IsSliceOf sl vl vu .none)(pl:IsPart vl lo)(pu:IsPart vu hi)
  (hw:¬(sIx items.size 0 lo=0/\sIx items.size items.size hi=items.size))
  (h:Q (.ref s.heap.objs.size) {s with heap:=s.heap.push {cls:=.type "tuple",data:=.seq ((items.toList.drop (sIx items.size 0 lo)).take (sIx items.size items.size hi - sIx items.size 0 lo)).toArray}})
  (hsz:items.size<=mV):wpAny (model prog w) A (getItem (.ref t) (.ref sl)) Q E s:=by
 let S2:sizeOk (.seq ((items.toList.drop (sIx items.size 0 lo)).take (sIx items.size items.size hi - sIx items.size 0 lo)).toArray):=by
  show((items.toList.drop (sIx items.size 0 lo)).take (sIx items.size items.size hi - sIx items.size 0 lo)).toArray.size<=mV;rw[p5,zL,VX,V5];exact u4 (u4 (Xa _ _) (Xz _ _)) hsz
 let(os,z,P,av):=id hs;let V:s.TypeIs (.ref sl) "slice":=(os,z,P);unfold getItem
 try with_reducible refine E7 ?_
 refine cO (wpAny_sequenceKey g.typeIs (by decide) ?_)
 refine cO (wpAny_callSpecial?_slot g.typeIs PyProof.Rows.slot_tuple_getitem
  (Es PyProof.Rows.slot_tuple_getitem g.typeIs entry_tuple_getitem ?_ (args_tuple_getitem _ _)))
 show wpAny _ _ (Builtin.Tuple.tupleItemsOf (.ref t) >>= _) _ _ s;refine cO (tupleItemsOf_ g (cO (Vx V ?_)));refine cO (ia hs pl pu ?_);let K:¬((((sIx items.size 0 lo):Int)==0&&(1:Int)==1&&(sIx items.size items.size hi - sIx items.size 0 lo)==items.size)=O):=by
  intro q;rw[sO,sO]at q;let q1:=eq_of_beq q.1.1;let q2:=eq_of_beq q.2;exact hw (by lia,by lia)
 show wpAny _ _ (if(((sIx items.size 0 lo):Int)==0&&(1)==1&&(sIx items.size items.size hi - sIx items.size 0 lo)==items.size)=O then _ else _) _ _ s
 rw[if_neg K,G6];exact cO (m:=Builtin.Tuple.tupleExact _) (VQ (k4 (_,U,k4 h)) S2)
end
end HT
namespace L2
open PySem PySem.Spec PyProof.Rows
abbrev TO:=St->Hp->(Option Int->Hp->Prop)->Prop
def PO(X:Cx)(e:Option Ev)(t:TO):Prop :=
 ∀(gV:List (J×Obj))(s:ϋ)(σ:St)(H:Hp)(Q:Option Int->Hp->Prop),Inv X gV σ H s->t σ H Q ->
  wpAny (model X.prog X.w) X.A (evalPart e X.env) (λu s'=>∃o H',Inv X gV σ H' s'/\IsPart u o/\Q o H') X.xe s
def BN:TO:=λ_ H Q=>Q Y H
def Nn(t:TE):TO:=λσ H Q=>t σ H λx H1=>∃i,x=.int i/\Q (Z i) H1
variable{us:List B}
section
variable{X:Cx}{e:Ev}{te:TE}{lo hi:Option Ev}{tl th:TO}{pos p2:Pos}
def Ll:PO X Y BN:=by
 intro gV s σ H Q I h;exact k4 (Y,H,I,.none,h)
def wc(h:PE X e te):PO X (Z e) (Nn te):=by
 intro gV s σ H Q I hw;refine thn (h gV s σ H _ I hw) λu s1 g=>?_
 let(x,H1,K,z,q1):=g;let(i,U,q):=q1;let(t,U):=z;exact(Z i,H1,K,.int i t,q)
def SlR(X:Cx)(r:V->Option Int->Option Int->Hp->VK->Prop):Prop :=
 ∀(gV:List (J×Obj))(s:ϋ)(σ:St)(H:Hp)(x:V)(v q g:B)(lo hi:Option Int)(sl:J)(Q:VK),Inv X gV σ H s->RelV x v->s.heap.IsSliceOf sl q g .none->IsPart q lo->IsPart g hi->r x lo hi H Q ->
  ∃T id,typeLookup (.type T) "__getitem__"=pure (Z (.builtin id))/\s.TypeIs v T/\wpAny (model X.prog X.w) X.A (getItem v (.ref sl)) (EP X gV σ Q) X.xe s
def SlR.or(h:SlR X r)(h':SlR X P):SlR X (λx lo hi H Q=>r x lo hi H Q\/P x lo hi H Q):=by
 intro gV s σ H x v z g lo hi sl Q I K hs pl pu q;obtain q|q:=q
 ·exact h gV s σ H x v z g lo hi sl Q I K hs pl pu q
 ·exact h' gV s σ H x v z g lo hi sl Q I K hs pl pu q
def tSl(r:V->Option Int->Option Int->Hp->VK->Prop)(te:TE)(tl th:TO):TE:=λσ H Q=>te σ H λx H1=>tl σ H1 λl H2=>th σ H2 λu g=>r x l u g Q
def yB(hr:SlR X r)(he:PE X e te)(hl:PO X lo tl)(hu:PO X hi th):PE X (.Subscript e (.Slice lo hi Y p2) pos) (tSl r te tl th):=by
 intro gV s σ H Q I h;refine Subscript_ (thn (he gV s σ H _ I h) λv s1 (x,H1,I1,r1,q1)=>(wpAny_Slice (thn (hl gV s1 σ H1 _ I1 q1) λz s2 (l,H2,I2,pl,q2)=>thn (hu gV s2 σ H2 _ I2 q2) λg s3 K=>?_)))
 let(u,P,I3,pu,q3):=K;refine k4 ?_;let I4:Inv X gV σ P {s3 with heap:=s3.heap.push {cls:=.type "slice",data:=.fields #[z,g,.none]}}:=I3.kept λb ob q=>ja _ q
 let(T,id,hT,ht,hg):=hr gV {s3 with heap:=s3.heap.push {cls:=.type "slice",data:=.fields #[z,g,.none]}} σ P x v z g l u s3.heap.objs.size Q I4 r1 (Heap.IsSliceOf.new ..) pl pu q3
 exact tail_any ht hT hg (by with_unfolding_all rfl)
def mJ(xs:List V)(lo hi:Option Int):List V:=(xs.drop (HT.sIx xs.length 0 lo)).take (HT.sIx xs.length xs.length hi - HT.sIx xs.length 0 lo)
def oE(xs:List V)(lo hi:Option Int):(mJ xs lo hi).length<=xs.length:=by
 unfold mJ;rw[zL,VX];exact u4 (Xa _ _) (Xz _ _)
inductive Uc(K:BT)(x:V)(lo:Option Int)(hi:Option Int)(H:Hp)(Q:VK):Prop
 |mk(a xs)(h1:x=.ref a)(h2:SqT K H a xs)(h3:¬(HT.sIx xs.length 0 lo=0/\HT.sIx xs.length xs.length hi=xs.length))(h4:∀p,H p=Y->Q (.ref p) (upd H p (.tup (mJ xs lo hi))))
def Oo:SlR X (Uc X.K):=by
 intro gV s σ H x v vl V lo hi sl Q I P hs pl pu h;let(a,xs,U,hx,hw,q):=h;cases P;let(its,r,z,g):=I.tuple hx;let hlen:its.toArray.size=xs.length:=by exact r.length.symm
 refine("tuple",_,PyProof.Rows.slot_tuple_getitem.lookup,z.typeIs,(HT.mB z hs pl pu (by rw[hlen];exact hw) ?_ (by rw[hlen];exact g)))
 rw[hlen];refine(.ref s.heap.objs.size,_,I.laid (λb ob q=>ja _ q) (mW _) ?_,U,q _ (I.hok.fresh (mW _)))
 exact(u4 (oE xs lo hi) g,_,(r.drop (HT.sIx xs.length 0 lo)).take (HT.sIx xs.length xs.length hi - HT.sIx xs.length 0 lo),lC.new _ _)
inductive RM(K:BT)(x:V)(y:V)(H:Hp)(Q:VK):Prop
 |mk(a b xs ys)(h1:x=.ref a)(h2:y=.ref b)(h3:SqT K H a xs)(h4:SqT K H b ys)(h5:xs ≠ [])(h6:xs.length+ys.length<=mV)(h7:(ys=[]->Q (.ref a) H))(h8:(ys ≠ []->∀p,H p=Y->Q (.ref p) (upd H p (.tup (xs++ys)))))
def Vals.iQ(r:Vals xs us):us=[] ↔ xs=[]:=by
 cases r with
 |nil=>simp
 |cons _ _=>simp
def LV:OpR X (binaryOp .Add) (RM X.K):=by
 intro gV s σ H x y v u Q I rx ry h;let(a,b,xs,ys,U,U,ha,hb,hx,V,q1,q2):=h;cases rx;cases ry;let(its,P,p1,_):=I.tuple ha;let(bD,g,p2,_):=I.tuple hb;exact HT.MY p1 p2 (λz=>hx (P.iQ.mp z)) (λz=>(.ref a,H,I,U,q1 (g.iQ.mp z))) (λz=>(.ref s.heap.objs.size,_,I.laid (t':=s.toks) (o:=.tup (xs++ys)) (λb ob q=>ja _ q) (mW _) (by rw[px];exact V,_,P.append g,lC.new _ _),U,q2 (λw=>z (g.iQ.mpr w)) _ (I.hok.fresh (mW _)))) (by rw[<- P.length,<- g.length];exact V)
end
def ixN(n:Nat)(i:Int):Option Nat:=if 0<=i then(if i<n then Z i.toNat else Y)else if -(n:Int)<=i then Z (i+n).toNat else Y
def atI{α:Type}(xs:List α)(i:Int):Option α:=(ixN xs.length i).bind λj=>xs[j]?
variable{n:Nat}{j:Nat}
def Cy(h:ixN n i=Z j):seqIndex? i n=Z j/\j<n /\ -(n:Int)<=i/\i<n:=by
 unfold ixN at h;by_cases h0:0<=i
 ·rw[if_pos h0]at h;by_cases h1:i<n
  ·rw[if_pos h1]at h;let e:=Option.some.inj h;exact(by rw[seqIndex_of h0 h1,e],by lia,by lia,h1)
  ·rw[if_neg h1]at h;cases h
 ·rw[if_neg h0]at h;by_cases h1:-(n)<=i
  ·rw[if_pos h1]at h;let e:=Option.some.inj h;exact(by rw[seqIndex_neg (by lia) h1,e],by lia,h1,by lia)
  ·rw[if_neg h1]at h;cases h
def xv{xs:List α}(h:atI xs i=Z v):∃j,seqIndex? i xs.length=Z j/\xs[j]?=Z v/\j<xs.length /\ -(xs.length:Int)<=i/\i<xs.length:=by
 unfold atI at h;cases e:ixN xs.length i with
 |none=>rw[e]at h;cases h
 |some j =>
  rw[e]at h;let(h1,h2,h3,h4):=Cy e;exact(j,h1,h,h2,h3,h4)
def cH{xs:List α}(h:xs[j]?=Z v):atI xs (j:Int)=Z v:=by
 let g:=(j3.mp h).1;let e:ixN xs.length (j)=Z j:=by
  unfold ixN;rw[if_pos (by lia),if_pos (by lia)];simp
 unfold atI;rw[e];exact h
def mR(xs:List α)(v:α):atI (xs ++ [v]) (-1)=Z v:=by
 let hl:(xs ++ [v]).length=xs.length+1:=by simp
 let e:ixN (xs ++ [v]).length (-1)=Z xs.length:=by
  unfold ixN;rw[hl,if_neg (by decide),if_pos (by lia)]
  congr 1
  lia
 unfold atI;rw[e];simp
def i7(b:Ev):Prop:=∀o i,subscripted b ϊ o i=operate [o,i] (getItem o i)
def IxR(X:Cx)(r:R2):Prop :=
 ∀(value slice:Ev)(gV:List (J×Obj))(s:ϋ)(σ:St)(H:Hp)(x y:V)(v u:B)(Q:VK),Inv X gV σ H s->RelV x v->RelV y u->r x y H Q ->
  subscripted slice ϊ v u=operate [v,u] (getItem v u)->wpAny (model X.prog X.w) X.A (subscriptTail value slice v u) (EP X gV σ Q) X.xe s
def MtR(X:Cx)(id:String)(r:V->List V->Hp->VK->Prop):Prop :=
 ∀(gV:List (J×Obj))(s:ϋ)(σ:St)(H:Hp)(x:V)(xs:List V)(v:B)(us:List B)(Q:VK),Inv X gV σ H s->RelV x v->Vals xs us->r x xs H Q ->
  wpAny (model X.prog X.w) X.A (call (.builtin id) (v::us)) (EP X gV σ Q) X.xe s
variable{gV:List (J×Obj)}{H:Hp}{its:List B}{A:Db}{y:V}{u:B}{r:List V->Hp->VK->Prop}
section
variable{X:Cx}{a b:Ev}{ta tb:TE}{pos:Pos}
def IxR.or{r K:R2}(h:IxR X r)(h':IxR X K):IxR X (λx y H Q=>r x y H Q\/K x y H Q):=by
 intro value slice gV s σ H x y v u Q I z g q hs;obtain q|q:=q
 ·exact h value slice gV s σ H x y v u Q I z g q hs
 ·exact h' value slice gV s σ H x y v u Q I z g q hs
def rD{r:R2}(hr:IxR X r)(ha:PE X a ta)(K:PE X b tb)(hs:i7 b):PE X (.Subscript a b pos) (tOp r ta tb):=by
 intro gV s σ H Q I h;exact Subscript_ (Qn ha K I h λv u s2 x y H2 P z g q=>hr a b gV s2 σ H2 x y v u Q P z g q (hs _ _))
inductive RH(K:BT)(x:V)(y:V)(H:Hp)(Q:VK):Prop
 |mk(p xs i v)(h1:x=.ref p)(h2:y=.int i)(h3:SqL K H p xs)(h4:atI xs i=Z v)(h5:Q v H)
inductive RF(K:BT)(x:V)(y:V)(H:Hp)(Q:VK):Prop
 |mk(p xs i v)(h1:x=.ref p)(h2:y=.int i)(h3:SqT K H p xs)(h4:atI xs i=Z v)(h5:Q v H)
inductive RG(x:V)(y:V)(H:Hp)(Q:VK):Prop
 |mk(z i c)(h1:x=.str z)(h2:y=.int i)(h3:z.length<=mV)(h4:atI z.cps.toList i=Z c)(h5:Q (.str ⟨#[c]⟩) H)
def MB:IxR X (RH X.K):=by
 intro value slice gV s σ H x y v u Q I rx ry h hs;let(p,xs,i,z,U,U,hq,he,q):=h;cases rx;let(t,U):=ry;let(its,r,pl,hz):=I.list hq;let(j,h1,h2,h3,h4,h5):=xv he;let(w,V,g):=r.get h2;let hl:=r.length;let hn:=iS;let fin:EP X gV σ Q w s:=(z,H,I,g,q);by_cases h0:0<=i
 ·let P:=by
   rw[seqIndex_of h0 h5]at h1;exact Option.some.inj h1
  exact item_listR pl.isList h0 (by lia) (by rw[P];simpa using V) fin hs
 ·let P:(i+(its.toArray.size)).toNat=j:=by
   rw[seqIndex_neg (by omega) h4]at h1
   rw[p5,<- hl];exact Option.some.inj h1
  exact subscriptTail_builtinR pl.isList.typeIs slot_list_getitem.lookup
   (wpAny_getItem_list_neg pl.isList (by omega) (by rw[p5] <;> lia) (by lia) (by rw[P];simpa using V) (U,fin)) hs
def PU:IxR X (RF X.K):=by
 intro value slice gV s σ H x y v u Q I V P h hs;let(p,xs,i,z,U,U,hq,he,q):=h;cases V;let(t,U):=P;let(its,r,pl,hz):=I.tuple hq;let(j,h1,h2,h3,h4,h5):=xv he;let(w,ew,g):=r.get h2;let hl:=r.length;let hn:=iS;let fin:EP X gV σ Q w s:=(z,H,I,g,q);exact subscriptTail_builtinR pl.typeIs slot_tuple_getitem.lookup
  (getItem_tuple pl (by lia) (by lia) (by rw[p5,<- hl];exact h1) (by simpa using ew) (U,fin)) hs
def PV:IxR X RG:=by
 intro value slice gV s σ H x y v u Q I K g h hs;let(z,i,c,U,U,hz,he,q):=h;let(t,U):=K;let(t',U):=g;let(j,h1,h2,h3,h4,h5):=xv he;let hl:z.cps.toList.length=z.length:=by simp[Str.length]
 rw[hl]at h1 h4 h5;let hn:=iS;exact tail_any (typeIs_str s z t) slot_str_getitem.lookup (getItem_str (by
  let V:decide (i < -(2 ^ 63))=false:=decide_eq_false (by lia)
  let P:decide (i ≥ 2 ^ 63)=false:=decide_eq_false (by lia)
  rw[V,P,Bool.or_false]) (by rw[h1];simpa using h2) (.str ⟨#[c]⟩,H,I.tok _,(_,U),q)) hs
def rIx(K:BT):R2:=λx y H Q=>RH K x y H Q\/RF K x y H Q\/RG x y H Q
def wQ:IxR X (rIx X.K):=MB.or (PU.or PV)
def A7(its:List B)(n j:Nat)(u:B):QH (·.setIfInBounds j u) {cls:=.type "list",data:=.seq its.toArray n}={cls:=.type "list",data:=.seq (its.set j u).toArray n}:=by
 simp[QH]
theorem Inv.lst{σ:St}(I:Inv X gV σ H s)(h:H p=Z (.lst xs)):
  ∃(its:List B)(n:Nat),Vals xs its/\s.heap.get? p=Z {cls:=.type "list",data:=.seq its.toArray n}/\xs.length<=mV:=by
 let(z,its,n,r,e):=I.hok p _ h;exact(its,n,r,e,z)
def Inv.Pt{σ:St}{s:ϋ}{p:J}{xs ys:List V}{its':List B}{n':Nat}{f:Obj->Obj}(I:Inv X gV σ H s)(h:H p=Z (.lst xs))
  (ho:s.heap.get? p=Z {cls:=.type "list",data:=.seq its.toArray n}) (hf:f {cls:=.type "list",data:=.seq its.toArray n}={cls:=.type "list",data:=.seq its'.toArray n'}) (r:Vals ys its') (g:ys.length<=mV) (t:Nat):
  Inv X gV σ (upd H p (.lst ys)) {s with heap:=s.heap.update p f,toks:=t}:=by
 let e:(s.heap.update p f).get? p=Z {cls:=.type "list",data:=.seq its'.toArray n'}:=by
  rw[BW f ho (by rw[hf] <;> rfl),hf]
 exact I.write (x:=p) (e:=p) (by rw[h];trivial) (.inl U) (λb u z q=>(zK _ _ (Ne.symm z)).trans q) (_,e) (g,its',n',r,e)
inductive Gg(o:V)(i:V)(v:V)(H:Hp)(Q:(Hp->Prop)):Prop
 |mk(p xs k j)(h1:o=.ref p)(h2:i=.int k)(h3:H p=Z (.lst xs))(h4:ixN xs.length k=Z j)(h5:Q (upd H p (.lst (xs.set j v))))
theorem set_list:QN X Gg:=by
 intro gV s σ H o i v ov iv u Q I K P rv h;let(p,xs,k,j,U,U,hp,hj,q):=h;cases K;let(t,U):=P;let(its,n,r,ho,V):=I.lst hp;let(h1,h2,h3,h4):=Cy hj;let hl:=r.length;let hn:=iS;let z :=
  I.Pt hp ho (A7 its n j u) (r.set rv j) (by rw[QX];exact V) s.toks
 by_cases h0:0<=k
 ·let g:=by
   rw[seqIndex_of h0 h4]at h1;exact Option.some.inj h1
  exact W.ki_setAt ho h0 (by lia) (by rw[p5,<- hl];exact h4) (by rw[g];exact(_,z,q))
 ·let g:(k+(its.toArray.size)).toNat=j:=by
   rw[seqIndex_neg (by omega) h3]at h1
   rw[p5,<- hl];exact Option.some.inj h1
  exact W.ki_setBack ho (by omega) (by rw[p5,<- hl];exact h3) (by lia) (by rw[g];exact(_,z,q))
def vx(lo hi:Option Int)(n:Nat):(sliceBounds lo hi Y n).1=((HT.sIx n 0 lo:Nat):Int)/\(sliceBounds lo hi Y n).2.1=((HT.sIx n n hi:Nat):Int)/\(sliceBounds lo hi Y n).2.2=1:=by
 refine(?_,?_,U)
 ·cases lo with
  |none=>simp[sliceBounds,HT.sIx]
  |some i =>
   simp only[sliceBounds,HT.sIx,XY,show(1:Int) > 0 by decide,if_true]
   by_cases h:i<0
   ·simp only[h,if_true] <;> first|exact HT.FF _ _ h|omega
   ·simp only[h,if_false] <;> first|exact HT.FE _ _ h|omega
 ·cases hi with
  |none=>simp[sliceBounds,HT.sIx]
  |some i =>
   simp only[sliceBounds,HT.sIx,XY,show(1:Int) > 0 by decide,if_true]
   by_cases h:i<0
   ·simp only[h,if_true] <;> first|exact HT.FF _ _ h|omega
   ·simp only[h,if_false] <;> first|exact HT.FE _ _ h|omega
def tw(its:List B)(lo hi:Option Int):slicePick its.toArray lo hi Y=((its.drop (HT.sIx its.length 0 lo)).take (HT.sIx its.length its.length hi - HT.sIx its.length 0 lo)).toArray:=by
 let(h1,h2,h3):=vx lo hi its.toArray.size;unfold slicePick;rw[h1,h2,h3];simp only[sliceRange_one,pick_run] <;> rfl
inductive RC(K:BT)(x:V)(lo:Option Int)(hi:Option Int)(H:Hp)(Q:VK):Prop
 |mk(a xs)(h1:x=.ref a)(h2:SqL K H a xs)(h3:∀p,H p=Y->Q (.ref p) (upd H p (.lst (mJ xs lo hi))))
def BX:SlR X (RC X.K):=by
 intro gV s σ H x v vl V lo hi sl Q I z hs pl pu h;let(a,xs,U,hx,q):=h;cases z;let(its,r,g,P):=I.list hx;let hlen:=r.length;refine("list",_,slot_list_getitem.lookup,g.isList.typeIs,(wpAny_getItem_list_slice g.isList hs pl pu .none (by simp) ?_ (by rw[p5] <;> omega)))
 rw[tw,<- hlen];refine(.ref s.heap.objs.size,_,I.laid (λb ob q=>ja _ q) (mW _) ?_,U,q _ (I.hok.fresh (mW _)))
 exact(u4 (oE xs lo hi) P,_,0,(r.drop (HT.sIx xs.length 0 lo)).take (HT.sIx xs.length xs.length hi - HT.sIx xs.length 0 lo),pB _ U)
def eB:V->Bool
 |.non=>O
 |.bl _=>O
 |.int _=>O
 |.str _=>O
 |_=>ϊ
def eqV:V->V->Bool
 |.non,.non=>O
 |.bl a,.bl b=>a==b
 |.bl a,.int b=>(if a then 1 else 0)==b
 |.int a,.bl b=>a ==(if b then 1 else 0)
 |.int a,.int b=>a==b
 |.str a,.str b=>a==b
 |_,_=>ϊ
def nT(q:RelV y u)(g:RelV x v)(z:eB y=O)(fx:eB x=O):SeqAt.EqAt A s u v (eqV y x):=by
 cases y with
 |non =>
  cases q;cases x with
  |non=>cases g;exact SeqAt.EqAt.same _
  |bl b=>cases g;exact SeqAt.EqAt.none_bool b
  |int b=>let(t,U):=g;exact SeqAt.EqAt.none_int b t
  |str b=>let(t,U):=g;exact SeqAt.EqAt.none_str b t
  |_=>exact absurd (fx) qf
 |bl a =>
  cases q;cases x with
  |non=>cases g;exact SeqAt.EqAt.bool_none a
  |bl b=>cases g;exact SeqAt.EqAt.bool_bool a b
  |int b=>let(t,U):=g;exact SeqAt.EqAt.bool_int a b t
  |str b=>let(t,U):=g;exact SeqAt.EqAt.bool_str a b t
  |_=>exact absurd (fx) qf
 |int a =>
  let(t',U):=q;cases x with
  |non=>cases g;exact SeqAt.EqAt.int_none a t'
  |bl b=>cases g;exact SeqAt.EqAt.int_bool a t' b
  |int b=>let(t,U):=g;exact SeqAt.EqAt.int_int a t' b t
  |str b=>let(t,U):=g;exact SeqAt.EqAt.int_str a t' b t
  |_=>exact absurd (fx) qf
 |str a =>
  let(t',U):=q;cases x with
  |non=>cases g;exact SeqAt.EqAt.str_none a t'
  |bl b=>cases g;exact SeqAt.EqAt.str_bool a t' b
  |int b=>let(t,U):=g;exact SeqAt.EqAt.str_int a t' b t
  |str b=>let(t,U):=g;exact SeqAt.EqAt.str_str a t' b t
  |_=>exact absurd (fx) qf
 |_=>exact absurd (z) qf
def eqU(x:V)(u:B):Bool:=match u with
 |.none=>eqV .non x
 |.bool b=>eqV (.bl b) x
 |.int i _=>eqV (.int i) x
 |.str z _=>eqV (.str z) x
 |_=>ϊ
def Iy(r:RelV y u)(f:eB y=O):eqU x u=eqV y x:=by
 cases y with
 |non=>cases r;rfl
 |bl b=>cases r;rfl
 |int i=>let(t,U):=r;rfl
 |str z=>let(t,U):=r;rfl
 |_=>exact absurd (f) qf
theorem mS:∀{xs:List V}{us:List B},Vals xs us->xs.all eB=O->us.any (eqU x)=xs.any λy=>eqV y x
 |_,_,.nil,_=>rfl
 |y::xs,u::us,.cons r t,f=>by
  rw[W7,sO]at f;rw[VW,VW,Iy r f.1,mS t f.2]
theorem jE(q:RelV x v)(fx:eB x=O):∀{xs:List V}{us:List B},Vals xs us->xs.all eB=O->∀u∈us,SeqAt.EqAt A s u v (eqU x u)
 |_,_,.nil,_=>λu g=>by cases g
 |y::xs,u::us,.cons r t,f=>λu' g=>by
  rw[W7,sO]at f;obtain rfl|g:=kf.mp g
  ·rw[Iy r f.1];exact nT r q f.1 fx
  ·exact jE q fx t f.2 u' g
def inV(x:V)(xs:List V):Bool:=xs.any λy=>eqV y x
inductive rIn(K:BT)(neg:Bool)(x:V)(y:V)(H:Hp)(Q:VK):Prop
 |mk(p xs)(h1:y=.ref p)(h2:(SqL K H p xs\/SqT K H p xs))(h3:eB x=O)(h4:xs.all eB=O)(h5:Q (.bl (if neg then !inV x xs else inV x xs)) H)
def Ed:OpR X (compareOp .In) (rIn X.K ϊ):=by
 intro gV s σ H x y v u Q I g z h;let(p,xs,U,hq,fx,fs,q):=h;cases z;obtain hq|hq:=hq
 ·let(its,r,pl,P):=I.list hq;refine SeqAt.in_listAt (eqU x) pl.isList (λw hw=>jE g fx r fs w (by simpa using hw)) (.bl _,H,I,U,?_)
  rw[show its.toArray.any (eqU x)=its.any (eqU x)by simp,mS r fs]
  exact q
 ·let(its,r,pl,P):=I.tuple hq;refine SeqAt.in_tupleAt (eqU x) pl (λw hw=>jE g fx r fs w (by simpa using hw)) (.bl _,H,I,U,?_)
  rw[show its.toArray.any (eqU x)=its.any (eqU x)by simp,mS r fs]
  exact q
def wA:OpR X (compareOp .NotIn) (rIn X.K O):=by
 intro gV s σ H x y v u Q I g z h;let(p,xs,U,hq,fx,fs,q):=h;cases z;obtain hq|hq:=hq
 ·let(its,r,pl,P):=I.list hq;refine SeqAt.notIn_listAt (eqU x) pl.isList (λw hw=>jE g fx r fs w (by simpa using hw)) (.bl _,H,I,U,?_)
  rw[show its.toArray.any (eqU x)=its.any (eqU x)by simp,mS r fs]
  exact q
 ·let(its,r,pl,P):=I.tuple hq;refine SeqAt.notIn_tupleAt (eqU x) pl (λw hw=>jE g fx r fs w (by simpa using hw)) (.bl _,H,I,U,?_)
  rw[show its.toArray.any (eqU x)=its.any (eqU x)by simp,mS r fs]
  exact q
def mM:cF X (.builtin "len") (λxs H Q=>∃p ys,xs=[.ref p]/\(SqL X.K H p ys\/SqT X.K H p ys)/\Q (.int ys.length) H):=by
 intro gV s σ H xs us Q I r h;let(p,ys,U,hq,q):=h;let(u,U,z):=vals1 r;cases z;let hn:=iS;obtain hq|hq:=hq
 ·let(its,g,pl,P):=I.list hq;let hlen:=g.length;exact Calls.call_len_list pl.isList (by simp only[p5] <;> omega) (.int ys.length,H,I.tok _,(s.toks+1,by rw[p5,hlen]),q)
 ·let(its,g,pl,P):=I.tuple hq;let hlen:=g.length;exact len_tuple pl (by simp only[p5] <;> omega) (.int ys.length,H,I.tok _,(s.toks+1,by rw[p5,hlen]),q)
def xn:cF X (.builtin "len") (λxs H Q=>∃z,xs=[.str z]/\z.length<=mV/\Q (.int z.length) H):=by
 intro gV s σ H xs us Q I r h;let(z,U,g,q):=h;let(u,U,t,U):=vals1 r;let hn:=iS;exact len_str (by lia) (.int z.length,H,I.tok _,(_,U),q)
def cF.or(h:cF X f r)(h':cF X f g):cF X f (λxs H Q=>r xs H Q\/g xs H Q):=by
 intro gV s σ H xs us Q I rs q;obtain q|q:=q
 ·exact h gV s σ H xs us Q I rs q
 ·exact h' gV s σ H xs us Q I rs q
def xm:cF X (.type "list") (λxs H Q=>∃p ys,xs=[.ref p]/\(SqL X.K H p ys\/SqT X.K H p ys)/\∀l,H l=Y->Q (.ref l) (upd H l (.lst ys))):=by
 intro gV s σ H xs us Q I r h;let(p,ys,U,hq,q):=h;let(u,U,rx):=vals1 r;cases rx;let fin:∀its,Vals ys its->ys.length<=mV->∀h' z,(∀b o',s.heap.get? b=Z o'->h'.get? b=Z o') ->
   h'.get? s.heap.objs.size=Z {cls:=.type "list",dict:=Y,data:=.seq its.toArray z,slots:=#[]}->EP X gV σ Q (.ref s.heap.objs.size) {s with heap:=h'}:=λits g P h' z kp e =>
  (.ref s.heap.objs.size,_,I.laid kp (mW _) (show da X.prog X.w _ h' _ (.lst ys)from(P,its,z,g,e)),U,q _ (I.hok.fresh (mW _)))
 obtain hq|hq:=hq
 ·let(its,g,pl,P):=I.list hq;let hlen:=g.length;let(o,ho,V,n,hd):=pl.isList;exact call_list_seq p (.inl U) ho V hd (λh' z kp e=>fin its g P h' z kp e) (by simp only[p5] <;> omega)
 ·let(its,g,pl,P):=I.tuple hq;let hlen:=g.length;let(o,ho,V,n,hd):=pl;exact call_list_seq p (.inr U) ho V hd (λh' z kp e=>fin its g P h' z kp e) (by simp only[p5] <;> omega)
def uf:cF X (.type "tuple") (λxs H Q=>∃p ys,xs=[.ref p]/\((SqL X.K H p ys/\∀l,H l=Y->Q (.ref l) (upd H l (.tup ys)))\/(SqT X.K H p ys/\Q (.ref p) H))):=by
 intro gV s σ H xs us Q I r h;let(p,ys,U,h):=h;let(u,U,V):=vals1 r;cases V;obtain⟨hq,q⟩|⟨hq,q⟩:=h
 ·let(its,g,pl,z):=I.list hq;let hlen:=g.length;refine call_tuple_list pl.isList (λh' kp=>?_) (by simp only[p5] <;> omega)
  let P:=I.kept (t':=s.toks) kp;let I2 :=
   P.laid (t':=s.toks) (λb o e=>ja _ e) (mW _) (show da X.prog X.w _ _ _ (.tup ys)from(z,its,g,lC.new _ _))
  exact(.ref h'.objs.size,_,I2,U,q _ (P.hok.fresh (mW _)))
 ·let(its,g,pl,z):=I.tuple hq;exact call_tuple_same pl (.ref p,H,I,U,q)
def tyV(K:BT)(T:String)(x:V)(H:Hp):Prop:=match x with
 |.str _=>T="str"
 |.int _=>T="int"
 |.ref p=>(T="list" /\ ∃xs,SqL K H p xs)\/(T="tuple" /\ ∃o,K.lookup p=Z o/\o.cls=.type "tuple" /\ o.dict=Y) \/
   (T="dict" /\ ((∃kvs,H p=Z (.dK kvs))\/∃kvs,H p=Z (.dT kvs)))\/(T="set" /\ ∃S n,H p=Z (.set S n))
 |_=>False
def Fe{σ:St}(I:Inv X gV σ H s)(r:RelV x v)(ty:tyV X.K T x H):
  s.TypeIs v T/\∀a,v=.ref a->∃ob,s.heap.get? a=Z ob/\ob.dict=none:=by
 cases x with
 |str z =>
  let(t,U):=r
  cases(ty)
  exact(typeIs_str s z t,λ_ e=>nomatch e)
 |int i =>
  let(t,U):=r
  cases(ty)
  exact(typeIs_int s i t,λ_ e=>nomatch e)
 |ref p =>
  cases r;obtain⟨rfl,xs,hq⟩|⟨rfl,o,g,P,hd⟩|⟨rfl,g⟩|⟨rfl,S,n,g⟩:=ty
  ·let(its,_,pl,_):=I.list hq;refine(pl.isList.typeIs,λa e=>?_)
   cases e;let(o,n,e,c,hd,_):=pl;exact(o,e,hd)
  ·refine((o,I.kIn p o g,P),λa e=>?_)
   cases e;exact(o,I.kIn _ o g,hd)
  ·let z:∃o,s.heap.get? p=Z o/\o.ExactDict:=by
    obtain⟨kvs,g⟩|⟨kvs,g⟩:=g
    ·let(_,_,_,_,o,_,_,e,ex,_):=I.hok p _ g;exact(o,e,ex)
    ·let(_,_,_,_,o,_,_,e,ex,_):=I.hok p _ g;exact(o,e,ex)
   let(o,e,ex):=z;refine((o,e,ex.1),λa q=>?_)
   cases q;exact(o,e,ex.2.1)
  ·let(o,_,_,_,e,ex,_):=I.hok p _ g;refine((o,e,ex.1),λa q=>?_)
   cases q;exact(o,e,ex.2.1)
 |_=>exact False.elim ty
def JM(K:BT)(T:String)(r:V->List V->Hp->VK->Prop)(to:TE):TE:=λσ H Q=>to σ H λx H1=>tyV K T x H1/\r x [] H1 Q
def tBM(K:BT)(T:String)(r:V->List V->Hp->VK->Prop)(to:TE)(t:TA):TE:=λσ H Q=>to σ H λx H1=>tyV K T x H1/\t σ H1 λxs H2=>r x xs H2 Q
variable{o e:Ev}{es:List Ev}{to:TE}{t:TA}{name:Str}{apos aS:Pos}{T id:String}{r:V->List V->Hp->VK->Prop}
def AV(V:PlainAttrs T)(slot:Slot T name id)(g:typeOf (.builtin id)=pure (.type "method_descriptor"))(hm:MtR X id r)(ho:PE X o to)
  (cL:attributeBase o name X.env (eval o X.env)=eval o X.env:=by rfl) (cK:(apos.endLine==aS.line)=true:=by rfl):PE X (.Call (.Attribute o name apos) [] [] aS) (JM X.K T r to):=by
 intro gV s σ H Q I h;refine wpAny_Call_method0_late cL cK (thn (ho gV s σ H _ I h) λv s1 q=>?_)
 let(x,H1,P,z,ty,q1):=q;let(h1,h2):=Fe P z ty;exact(T,id,V,slot,g,h1,h2,Calls.callWith_builtin U (PySem.evalArgs_none (hm gV s1 σ H1 x [] v [] Q P z .nil q1)))
def rF(pa:PlainAttrs T)(slot:Slot T name id)(g:typeOf (.builtin id)=pure (.type "method_descriptor"))(hm:MtR X id r)(ho:PE X o to)(ha:PA X (e::es) t)
  (cL:attributeBase o name X.env (eval o X.env)=eval o X.env:=by rfl)
  (iU:((backTo aS (kz (e::es) X.env)).all (λx=>!x.1)&&(backToKw aS (keywordEach [] X.env)).all (λx=>x.1.isSome)
   && decide ((e::es).length+([]:List Keyword).length+(if([]:List Keyword).isEmpty then 0 else 1)<30))=true:=by rfl)
  (cK:(apos.endLine==aS.line)=true:=by rfl) (hs:AC X e es:=by rfl) (cG:AM X aS es:=by rfl):
  PE X (.Call (.Attribute o name apos) (e::es) [] aS) (tBM X.K T r to t):=by
 intro gV s σ H Q I h;refine wpAny_Call_method_late cL iU cK U (thn (ho gV s σ H _ I h) λv s1 q=>?_)
 let(x,H1,V,z,ty,q1):=q;let(h1,h2):=Fe V z ty;refine(T,id,pa,slot,g,h1,h2,?_);let P:=ha aS gV s1 σ H1 _ V q1;rw[hs]at P ⊢;exact Calls.callWith_builtin (by show(ϊ ||(backTo aS (kz es X.env)).any (·.1))=ϊ;rw[cG] <;> rfl) (Calls.evalArgs_plain (thn P λus s2 (vs,H2,I2,r2,q2)=>hm gV s2 σ H2 x vs v us Q I2 z r2 q2))
end
def MtM(X:Cx)(id:String)(r:V->List V->Hp->VK->Prop):Prop :=
 ∀(gV:List (J×Obj))(s:ϋ)(σ:St)(H:Hp)(x:V)(xs:List V)(v:B)(us:List B)(Q:VK),Inv X gV σ H s->RelV x v->Vals xs us->r x xs H Q ->
  wpAny (model X.prog X.w) X.A (call (.builtin id) (v::us)) (EP X gV σ Q) X.xe s
def Vals.one:∀{x:V}{us:List B},Vals [x] us->∃u,us=[u]/\RelV x u:=by
 intro x us h;cases h with
 |cons r t=>cases t;exact(_,U,r)
theorem Vals.zero:∀{us:List B},Vals [] us->us=[]
 |_,.nil=>rfl
theorem Vals.dropLast(h:Vals xs us):Vals xs.dropLast us.dropLast:=by
 induction h with
 |nil=>exact .nil
 |cons r t g =>
  cases t with
  |nil=>exact .nil
  |cons q t'=>exact .cons r g
theorem Vals.reverse(h:Vals xs us):Vals xs.reverse us.reverse:=by
 induction h with
 |nil=>exact .nil
 |cons r t g=>rw[VE,VE];exact Vals.append g (.cons r .nil)
def Bl(l:List α):l.eraseIdx (l.length - 1)=l.dropLast:=by
 induction l with
 |nil=>rfl
 |cons a r g =>
  cases r with
  |nil=>rfl
  |cons b r =>
   let e:(a::b::r).length - 1=((b::r).length - 1)+1:=by
    rfl
   rw[e,List.eraseIdx_cons_succ,g]
   all_goals rfl
variable{t':Nat}
section
variable{X:Cx}{σ:St}{s:ϋ}{l:J}{xs ys:List V}
def Inv.Ml{f:Array B->Array B}{t':Nat}(I:Inv X gV σ H s)(P:H l=Z (.lst xs))
  (e:s.heap.get? l=Z {cls:=.type "list",data:=.seq its.toArray n}) (hf:f its.toArray=its'.toArray) (hv:Vals ys its') (g:ys.length<=mV):
  Inv X gV σ (upd H l (.lst ys)) {s with heap:=s.heap.update l (QH f),toks:=t'}:=by
 let q:=PySem.IsL.update e f;rw[hf]at q;exact I.write (x:=l) (e:=l) (by rw[P];exact trivial) (.inl U) (λQ u K z=>(zK s.heap (QH f) (Ne.symm K)).trans z) (_,q) (g,its',_,hv,q)
def Inv.SK(I:Inv X gV σ H s)(hv:Vals ys its)(g:ys.length<=mV):
  Inv X gV σ (upd H s.heap.objs.size (.lst ys)) {s with heap:=s.heap.push {cls:=.type "list",data:=.seq its.toArray},toks:=t'} :=
 I.laid (λ_ _ q=>ja _ q) (mW _) (g,its,0,hv,pB _ U)
theorem Inv.fresh(I:Inv X gV σ H s):H s.heap.objs.size=none:=I.hok.fresh (mW _)
def Inv.Ba(I:Inv X gV σ H s)(g:H l=Z (.lst xs)):xs.length<=mV/\∃(its:List B)(n:Nat),Vals xs its/\xs.length=its.length/\s.heap.get? l=Z {cls:=.type "list",data:=.seq its.toArray n}:=by
 let(z,its,n,r,e):=I.hok l _ g;exact(z,its,n,r,r.length,e)
def yO(h:n<=mV):Builtin.List.listTooLong n=false:=by
 exact decide_eq_false (by lia)
end
section
variable{X:Cx}
inductive lX(x:V)(vs:List V)(H:Hp)(Q:VK):Prop
 |mk(l xs y)(h1:x=.ref l)(h2:vs=[y])(h3:H l=Z (.lst xs))(h4:xs.length<mV)(h5:Q .non (upd H l (.lst (xs ++ [y]))))
theorem uR:MtM X "list.append" lX:=by
 intro gV s σ H x vs v us Q I K rv h;let(l,xs,y,U,U,g,P,q):=h;cases K;let(u,U,ru):=rv.one;let(z,its,n,r,hl,e):=I.Ba g;refine call_meets F.slot_list_append (_,e,U) F.entry_list_append (F.args_list_append_2 _ _) (PySem.list_append l its.toArray n u (by rw[p5];lia)) (e,?_)
 refine(.non,_,I.Ml g e (by simp) (r.append (.cons ru .nil)) ?_,U,q)
 rw[px,Xi]
 lia
inductive pK(x:V)(vs:List V)(H:Hp)(Q:VK):Prop
 |mk(l b xs zs)(h1:x=.ref l)(h2:vs=[.ref b])(h3:H l=Z (.lst xs))(h4:H b=Z (.lst zs))(h5:xs.length+zs.length<=mV)(h6:Q .non (upd H l (.lst (xs++zs))))
theorem En:MtM X "list.extend" pK:=by
 intro gV s σ H x vs v us Q I P rv h;let(l,b,xs,zs,U,U,K,hB,hz,q):=h;cases P;let(u,U,ru):=rv.one;cases ru;let(z,its,n,r,hl,e):=I.Ba K;let(z2,g,n2,V,av,e2):=I.Ba hB;let hsz:its.toArray.size+g.toArray.size<=mV:=by rw[p5,p5];lia
 let Ic:¬(!its.toArray.isEmpty&&Builtin.List.listTooLong (its.toArray.size+g.toArray.size))=true:=by
  rw[yO hsz,Wx];exact qf
 refine call_meets F.slot_list_extend (_,e,U) F.entry_list_extend (F.args_list_extend_2 _ _)
  (AutoSeq1.list_extend_list_list_0 l its.toArray n b g.toArray n2 Ic (by rw[p5];lia) (by lia)) (e,e2,?_)
 refine(.non,_,I.Ml K e (by simp) (r.append V) ?_,U,q)
 rw[px];omega
inductive Ko(x:V)(vs:List V)(H:Hp)(Q:VK):Prop
 |mk(l xs y)(h1:x=.ref l)(h2:vs=[])(h3:H l=Z (.lst xs))(h4:xs[xs.length - 1]?=Z y)(h5:Q y (upd H l (.lst xs.dropLast)))
theorem A2:MtM X "list.pop" Ko:=by
 intro gV s σ H x vs v us Q I V rv h;let(l,xs,y,U,U,P,hy,q):=h;cases V;let K:=rv.zero;subst K;let(z,its,n,r,hl,e):=I.Ba P;let(u,hu,ru):=r.get hy;let g:=by
  show its.toArray[its.length - 1]?=Z u;rw[<- Xj,<- hl];exact hu
 refine call_meets F.slot_list_pop (_,e,U) F.entry_list_pop (F.args_list_pop_1 _) (MeetsSeq.list_pop_last l its.toArray n u g (by rw[p5];lia)) (e,?_)
 refine(y,_,I.Ml P e ?_ r.dropLast ?_,ru,q)
 ·rw[p5,List.eraseIdxIfInBounds_toArray,Bl]
 ·rw[List.length_dropLast]
  lia
inductive RN(x:V)(y:V)(H:Hp)(Q:VK):Prop
 |mk(l b xs zs)(h1:x=.ref l)(h2:y=.ref b)(h3:H l=Z (.lst xs))(h4:H b=Z (.lst zs))(h5:xs.length+zs.length<=mV)(h6:∀p,H p=Y->Q (.ref p) (upd H p (.lst (xs++zs))))
def Pm:OpR X (binaryOp .Add) RN:=by
 intro gV s σ H x y v u Q I V K h;let(l,b,xs,zs,U,U,hH,hB,hz,q):=h;cases V;cases K;let(z,its,n,r,hl,e):=I.Ba hH;let(z2,g,n2,r2,av,e2):=I.Ba hB;refine PySem.P.add_list e e2 ?_ (by rw[p5,p5];omega)
 let ea:its.toArray++g.toArray=(its++g).toArray:=by simp
 rw[ea];exact(.ref _,_,I.SK (r.append r2) (by rw[px];omega),U,q _ I.fresh)
end
end L2
namespace Att
open PySem PySem.W PySem.Calls PyProof.Rows
def pb:∀(ns:List Int)(vs:List B),WellAll P h vs (ns.map WData.int)->IntsAre vs ns:=by
 intro ns
 induction ns with
 |nil =>
  intro vs w;cases w;exact .nil
 |cons n ns g =>
  intro vs w;cases w with
  |cons a b =>
   cases a;exact .cons _ _ (g _ b)
def DL{l:OpenLaw}(hn:l.most=Z n)
  (hpre:l.row.toRowW.claim.pre args=O) (g:WellAll P h vals args):
  ∃a vs ns,vals=[B.ref a]/\args=[WData.list (ns.map WData.int)]/\h.get? a=Z {cls:=.type "list",data:=.seq vs.toArray}/\IntsAre vs ns/\ns.length<=n:=by
 let q:WShape.hasAll [] args [.list .int]=true:=(pre_splitW hpre).1;let z:l.pre.holds [] {args:=args}=true:=(pre_splitW hpre).2;let(d,r,U,h1,h2):=hasAllW_cons q;obtain rfl:=hasAllW_nil h2;let(xs,U,h3):=hasW_list h1;let(ns,U):=items_int h3;let hlen:=by
  let h4:=by
   let h4:=(holds_andW z).1;rw[hn]at h4;exact h4
  let h5:=condW_of h4 (w_not (w_lt w_lit (w_len_list (w_arg U))))
  first
   | (exact absurd h5 (by decide))
   | (simp at h5;omega)
 cases g with
 |cons w1 w2 =>
  cases w2;cases w1 with
  |list ho K=>exact(_,_,ns,U,U,ho,pb ns _ K,hlen)
def D9(l:OpenLaw)(args:List WData):l.row.toRowW.claim.post args (.bool O) args=true :=
 postW_of
  (by rfl)
  (w_eq_bool (w_res U) w_lit) U
def zz{l:OpenLaw}{n:Nat}{q:Da}{loose:List Str}{XP:(Str->Option B)->Do->Prop}{YP:Cl->Do->Prop}{d:DefRec}
  (hn:l.most=Z n) (P:d.params.defaults=[])
  (call:∀(w:Cl)(s₀ g:ϋ)(mg mb:Str->Option B)(z:J)(o:Obj)(pm cd doc:B)(a:J)(vs:List B)(ns:List Int),
   Ground q loose [] XP w s₀ mg mb g.heap->YP w g.heap ->
   g.heap.get? z=Z o->o.data=.func (docDef d.name d.params d.body d.scope pm cd doc)->g.heap.CodeRec cd d.name->mg d.name=Z (.ref z) ->
   g.heap.get? a=Z {cls:=.type "list",data:=.seq vs.toArray}->IntsAre vs ns->ns.length<=n->g.gens=#[] ->
   codeAny (model l.prog w) callerA (.call (.ref z) ([.ref a],[])) (λr s'=>r=.ok (.ret (.bool O))/\OldK g.heap s'.heap/\s'.os=g.os/\AllBare s'.gens) g):
  WalkO q loose XP YP l.row.toRowW d [] (λf vs=>PySem.call f vs):=by
 intro w s₀ g mg mb G Ya z o pm cd doc dV kV ho hd Q V hmg hg args vals as hpre VD av K aD;obtain rfl:=Dflts.none V P;obtain rfl:=Dflts.noKw V;let(a,vs,ns,U,U,P9,hints,hlen):=DL hn hpre K;refine enter_call (codeAny_mono (call w s₀ g mg mb z o pm cd doc a vs ns G Ya ho (fd_plain hd) Q hmg P9 hints hlen hg) λr s' hq=>?_)
 let(U,h2,h3,h4):=hq;exact(.inl (.bool O,.bool O,[],U,λ_=>rfl,.bool O,D9 l _,λ_=>(List.Pairwise.nil,λ_ hm=>(nomatch hm))),h2,h3,h4)
section
def ledger(h:Do)(L d:J):List (J×Obj):=(E3 h.objs.size).filterMap λa=>if a=L\/a=d then Y else(h.get? a).map λo=>(a,o)
end
end Att
namespace L2
open PySem PySem.Spec PyProof.Rows
variable{ns:List Int}
def DA(h:IntsAre vs ns):Vals (ns.map V.int) vs:=by
 induction h with
 |nil=>exact .nil
 |cons n t _ g=>exact .cons (t,U) g
def Nf(H:Hp):Prop:=∀b,H b=Y\/∃o xs,H b=Z (.frz o (.lst xs))
variable{mg:Str->Option B}{a:J}{x:Str}
theorem HM{K:BT}
  (KX:K.In g.heap) (aD:g.heap.Ns mainGlobals mg) (Q:g.heap.Ns builtinsNs mb) (aM:∀x:Str,x ≠ "__name__"->mb x=bootBuiltins x) (UX:g.heap.NoLimit) (hg:g.gens=#[])
  (ha:g.heap.get? a=Z {cls:=.type "list",data:=.seq vs.toArray}) (hi:IntsAre vs ns) (hl:ns.length<=mV) (hr:cy k callerA)
  (F:∀base:Do,K.In base->base.Ns mainGlobals mg->a8 P w K mg base CX k fa fd [x] sp) (Tb:∀(s:ϋ)(u:B),BindsTo s fd ([u],[]) [(x,u)])
  (aI:∀H:Hp,Nf H->SqL K H a (ns.map V.int)->sp [.ref a] H (λv _=>v=.bl O) λ_ _ _=>False)
  (aQ:∀H e s',CX [] H g (λ_ _ _=>False) e s'->False):
  codeAny (model P w) callerA (.call (.ref fa) ([.ref a],[])) (λr s'=>r=.ok (.ret (.bool O))/\OldK g.heap s'.heap/\s'.os=g.os/\AllBare s'.gens) g:=by
 let rv:=DA hi;let UE:=hi.length;let core:∀H,Nf H->SqL K H a (ns.map V.int)->HOk P w H g.heap->(∀b,H b≠Y->b=a)->(H a≠Y->K.lookup a=Y) ->
   codeAny (model P w) callerA (.call (.ref fa) ([.ref a],[])) (λr s'=>r=.ok (.ret (.bool O))/\OldK g.heap s'.heap/\s'.os=g.os/\AllBare s'.gens) g:=by
  intro H hO hS hok hA hK;let C5:∀{b:J}{o:Obj},g.heap.get? b=Z o->H b=Y->(zc g.heap H).get? b=Z o:=λe n=>Ih e n
  let aH:∀{b:J}{o:Obj}{es:Array DictEntry}{ep:Nat},g.heap.get? b=Z o->o.data=.dict es ep->H b=none:=λ{b o es ep} e d=>by
   cases q:H b with
   |none=>rfl
   |some u =>
    let e':=hA b (by rw[q];simp)
    subst e';rw[ha]at e;cases e;let d':=d;cases d'
  let av:∀{b:J}{m:Str->Option B},g.heap.Ns b m->(zc g.heap H).Ns b m:=λ{b m} (o,es,ep,e,d,r)=>(o,es,ep,C5 e (aH e d),d,r)
  let aE:=λb o e=>C5 (KX b o e) (by
   cases q:H b with
   |none=>rfl
   |some u =>
    let e':=hA b (by rw[q];simp)
    subst e';rw[hK (by rw[q];simp)]at e;cases e)
  let hM:Mod K mg (zc g.heap H):=(aE,av aD,(mb,av Q,aM),let(mc,h1,h2):=UX;(mc,av h1,h2))
  let e0:BE P w K mg (zc g.heap H) callerA [] g H:=(U,hM,λb o e=>Ma e,Nat.le_of_eq (EB _ _),trivial,λb Q=>absurd (show b∈([])from Q) (by simp),hok,.of_eq hg)
  refine codeAny_mono ((F _ aE (av aD)).run callerA [] g H ([.ref a],[]) [.ref a] [.ref a] _ _ hr e0 (Tb g (.ref a)) (.cons U .nil) (aI H hO hS)) λr s' h=>?_
  cases r with
  |error e=>exact(aQ H e s' h).elim
  |ok fl =>
   cases fl with
   |next=>exact False.elim h
   |brk=>exact False.elim h
   |cont=>exact False.elim h
   |ret u =>
    let(v,H',os,bare,un,UT,r',q):=h;let q':=q;subst q';obtain rfl:=r';refine(U,OldK.of_keep λb o e=>?_,os,bare)
    cases q:H b with
    |none=>exact un.keep b o e q (by intro z;exact absurd (show b∈([])from z) (by simp)) (by simp)
    |some u =>
     obtain z |⟨ob,xs,z⟩:=hO b
     ·rw[q]at z;cases z
     ·let z2:=un.k9 b ob _ z;let(e1,_):=hok b _ z;let(e2,_):=UT b _ z2;rw[e]at e1;cases e1;exact e2
 cases hk:K.lookup a with
 |some o =>
  let e:=KX a o hk;rw[ha]at e;cases e;refine core (λ_=>Y) (λ_=>.inl U) (.inr (_,vs.toArray,_,hk,U,U,U,by rw[p5,UE];exact hl,by simpa using rv)) (λb u z=>by let z':=z;cases z') (λb z=>absurd U z) λz=>absurd U z
 |none =>
  refine core (λb=>if b=a then Z (.frz {cls:=.type "list",data:=.seq vs.toArray} (.lst (ns.map V.int)))else Y) (λb=>?_) (.inl (.inr ({cls:=.type "list",data:=.seq vs.toArray},if_pos U))) (λb u z=>?_) (λb z=>?_) λ_=>hk
  ·by_cases Q:b=a
   ·exact .inr (_,_,if_pos Q)
   ·exact .inl (if_neg Q)
  ·by_cases Q:b=a
   ·let z':=(if_pos Q).symm.trans z;cases z';subst Q;exact(ha,by rw[dz];exact hl,vs,_,rv,ha)
   ·let z':=(if_neg Q).symm.trans z;cases z'
  ·by_cases Q:b=a
   ·exact Q
   ·exact absurd (if_neg Q) z
variable{n:Nat}
theorem JH{l:W.OpenLaw}{k:Nat}{q:Da}{loose:List Str}{XP:(Str->Option B)->Do->Prop}{YP:Cl->Do->Prop}{d:DefRec}{K:Params->BT}{CX:Cl->CXT}{sp:Cl->Sp}
  (hn:l.most=Z n) (av:n<=mV) (aD:d.params.defaults=[]) (hr:cy k callerA)
  (hY:∀(w:Cl)(h:Do),YP w h->(K w.params).In h)
  (F:∀(w:Cl)(mg:Str->Option B)(P:J)(h:Do),(K w.params).In h->h.Ns mainGlobals mg->mg d.name=Z (.ref P) ->
   ∃fd:Ch,(∀(s:ϋ)(u:B),BindsTo s fd ([u],[]) [(x,u)]) /\
    ∀base:Do,(K w.params).In base->base.Ns mainGlobals mg->a8 l.prog w (K w.params) mg base (CX w) k P fd [x] (sp w))
  (Q:∀(w:Cl)(H:Hp)(a:J)(ns:List Int),ns.length<=n->Nf H->SqL (K w.params) H a (ns.map V.int)->sp w [.ref a] H (λv _=>v=.bl O) λ_ _ _=>False)
  (aE:∀(w:Cl)(H:Hp)(s:ϋ)(e:B)(s':ϋ),CX w [] H s (λ_ _ _=>False) e s'->False):
  W.WalkO q loose XP YP l.row.toRowW d [] (λf vs=>PySem.call f vs):=by
 refine Att.zz hn aD λw s₀ z mg mb P o pm cd doc a vs ns G Ya ho hd aH hmg P9 hints hlen hg=>?_
 let KX:=hY w _ Ya;let(fd,hb,hF):=F w mg P _ KX G.T.g hmg;exact HM KX G.T.g G.T.b G.T.builtins G.T.nolimit hg P9 hints (u4 hlen av) hr hF hb (λH hO hS=>Q w H a ns hlen hO hS) λH e s'=>aE w H z e s'
def inClass(s:EQ)(j:Nat):EQ:=match s with
 |.ClassDef _ _ _ body _ _ _ _ _ _ _=>body.getD j (.Pass (0,0,0,0))
 |_=>.Pass (0,0,0,0)
def eI(s:EQ):Arguments:=match s with
 |.FunctionDef _ a _ _ _ _ _ _ _ _=>a
 |_=>{posonlyargs:=[],args:=[],vararg:=Y,kwonlyargs:=[],kw_defaults:=[],kwarg:=Y,defaults:=[]}
def cf(s:EQ):List EQ:=match s with
 |.FunctionDef _ _ b _ _ _ _ _ _ _=>b
 |_=>[]
def ao(s:EQ):Scope:=match s with
 |.FunctionDef _ _ _ _ _ _ sc _ _ _=>sc
 |_=>{kind:=.function,names:=[],isGenerator:=ϊ,isCoroutine:=ϊ}
abbrev CX0:CXT:=λ_ _ _ _ _ _=>False
abbrev E0:XK:=λ_ _ _=>False
variable{X:Cx}
def kH:Passes CX0 X E0:=λ_ _ _ _ _ _ _ h=>h.elim
structure Fun(K:BT)(x qual:Str)(st:EQ)(f:J)(fd:Ch):Prop where
 ex:∃(oc:B)(od:Option J)(kV doc pm:B)(an:Option J)(cdv ct:B)(osl:Array (Option B)),
  fd=W.fnOf x qual (eI st) (cf st) (ao st) .none kV doc pm an cdv ct/\K.lookup f=Z (oc,od,.func fd,osl)/\W.codeIn K cdv qual=O
 kp:W.keepIn K (.ref f)=O
variable{qual:Str}{fd:Ch}{N:List Str}{sp:Sp}{oc:B}{od:Option J}{an:Option J}{pm:B}{ct:B}
section
variable{P:Da}{w:Cl}{K:BT}{base:Do}
theorem Fun.ok{st:EQ}(F:Fun K x qual st f fd)(S:aA N ps (ao st))(len:∀vs H Q E,sp vs H Q E->vs.length=ps.length)
  (jM:∀(cdv:B)(A:Db)(outer:List Env)(s:ϋ)(H:Hp)(vs:List V)(Q:VK)(E:XK),cy k (A.deeper (envOfC qual (ao st) s.heap.objs.size f cdv))->sp vs H Q E ->
   ∃t,PSs (so CX0 P w K mg base N qual (ao st) f cdv A outer s H E).nox (cf st) t/\t {nx:=λ_ H'=>Q .non H',rt:=Q} (start N vs) H):a8 P w K mg base CX0 (k+1) f fd ps sp:=by
 let(oc,od,kV,doc,pm,an,cdv,ct,osl,U,lk,z):=F.ex;refine To lk z S len λA outer s H vs Q E hr g=>?_
 let(t,h,q):=jM cdv A outer s H vs Q E hr g;exact(t,h.nox,q)
theorem Fun.binds{st:EQ}(F:Fun K x qual st f fd)
  (h:∀(kV doc pm:B)(an:Option J)(cdv ct:B)(us:List B),us.length=ps.length->bindArgs (W.fnOf x qual (eI st) (cf st) (ao st) .none kV doc pm an cdv ct) (us,[])=pure (ps.zip us)):Binds K fd ps []:=by
 let(oc,od,kV,doc,pm,an,cdv,ct,osl,U,lk,g):=F.ex;exact .all (h kV doc pm an cdv ct)
theorem Bj{st:EQ}{kV doc cdv:B}(l:K.lookup f=Z (oc,od,.func (W.fnOf x qual (eI st) (cf st) (ao st) .none kV doc pm an cdv ct),osl))
  (c:W.codeIn K cdv qual=O) (k:W.keepIn K (.ref f)=O):Fun K x qual st f (W.fnOf x qual (eI st) (cf st) (ao st) .none kV doc pm an cdv ct):=((oc,od,kV,doc,pm,an,cdv,ct,osl,U,l,c),k)
end
variable{A:Db}
def cD(hr:cy k A):A.units+1<cLine:=Ws (WS (by decide) _) hr.units
def aF(h:n<=1000):n<mV:=Ws h (by decide)
section
def pv(i:Nat){pos:Pos}(q:X.N[i]?=Z x:=by rfl)(hv:Vis X.env.scope x:=by first|exact Or.inl rfl|exact Or.inr (Or.inl U)|exact Or.inr (Or.inr U))(hd:AS x:=by decide)
  (g:(x ==("__classdict__":Str))=false:=by decide):PE X (.Name x pos) (bK i):=wq q hv hd g
end
def UM{A Yb:Prop}(h:Yb):if ϊ=O then A else Yb:=by
 exact h
def bE{c A Yb:Prop}[Decidable c](h1:c->A)(h2:¬ c->Yb):if c then A else Yb:=by
 by_cases h:c
 ·rw[if_pos h];exact h1 h
 ·rw[if_neg h];exact h2 h
def lu(H H':Hp):Prop:=∀b o,H b=Z o->H' b=Z o
def lu.refl(H:Hp):lu H H:=λ_ _ h=>h
variable{H:Hp}{H':Hp}{l:J}
def lu.free(e:lu H H')(h:H' l=Option.none):H l=Option.none:=by
 cases q:H l with
 |none=>rfl
 |some o =>
  rw[e l o q]at h;cases h
variable{y:V}{u:B}
section
variable{κ:Type}[DecidableEq κ]
def fN(kvs:List (κ×V))(k:κ):Option V:=(kvs.find? λkv=>decide (kv.1=k)).map (·.2)
def putK(kvs:List (κ×V))(k:κ)(v:V):List (κ×V) :=
 if(kvs.any λkv=>decide (kv.1=k))=O then kvs.map (λkv=>if kv.1=k then(kv.1,v)else kv)else kvs ++ [(k,v)]
def qh{k:κ}(e:p.1=k):fN (p::r) k=Z p.2:=by simp[fN,e]
def qi{k:κ}(e:¬ p.1=k):fN (p::r) k=fN r k:=by simp[fN,e]
theorem xX(k:κ):∀kvs:List (κ×V),(kvs.any λkv=>decide (kv.1=k))=(fN kvs k).isSome
 |[]=>rfl
 |p::r=>by
  rw[VW];by_cases e:p.1=k
  ·simp only[qh e,decide_eq_true e,Bool.true_or,XA]
  ·rw[qi e,decide_eq_false e];exact xX k r
def jH(kvs:List (κ×V))(k:κ)(v:V):(putK kvs k v).length<=kvs.length+1:=by
 unfold putK
 split
 ·rw[dz];lia
 ·rw[px,rl,Wi];lia
def iz.il{u:Option B}(r:iz o u):o.isSome=u.isSome:=by
 cases o with
 |none=>cases u with
  |none=>rfl
  |some _=>exact(r).elim
 |some _=>cases u with
  |none=>exact(r).elim
  |some _=>rfl
theorem iz.getD{u:Option B}(r:iz o u)(rd:RelV d g):RelV (o.getD d) (u.getD g):=by
 cases o with
 |none=>cases u with
  |none=>exact rd
  |some _=>exact(r).elim
 |some _=>cases u with
  |none=>exact(r).elim
  |some _=>exact r
def KV.val(r:KV kvs vs)(k:κ):iz (fN kvs k) (valueAt vs k):=by
 induction r with
 |nil=>exact True.intro
 |@cons p q ps qs h t g =>
  let(h1,h2):=h;by_cases e:p.1=k
  ·let e':=h1.symm.trans e;let b:valueAt (q::qs) k=Z q.2:=by simp[valueAt,e']
   rw[qh e,b];exact h2
  ·let e':¬ q.1=k:=λz=>e (h1.trans z)
   let b:valueAt (q::qs) k=valueAt qs k:=by simp[valueAt,e']
   rw[qi e,b];exact g
theorem KV.any(r:KV kvs vs)(k:κ):(kvs.any λkv=>decide (kv.1=k))=vs.any λkv=>decide (kv.1=k):=by
 induction r with
 |nil=>rfl
 |cons h t g=>rw[VW,VW,g,h.1]
def KV.Oz(r:KV kvs vs)(k:κ)(g:RelV y u):
  KV (kvs.map λkv=>if kv.1=k then(kv.1,y)else kv) (vs.map λkv=>if kv.1=k then(kv.1,u)else kv):=by
 induction r with
 |nil=>exact .nil
 |@cons p q ps qs h t K =>
  rw[xG,xG];refine .cons ?_ K;let(h1,h2):=h;by_cases e:p.1=k
  ·rw[if_pos e,if_pos (h1.symm.trans e)];exact(h1,g)
  ·rw[if_neg e,if_neg (λz=>e (h1.trans z))];exact(h1,h2)
def KV.put(r:KV kvs vs)(k:κ)(g:RelV y u):KV (putK kvs k y) (stored vs k u):=by
 unfold putK stored;rw[r.any k];by_cases e:(vs.any λkv=>decide (kv.1=k))=O
 ·rw[if_pos e,if_pos e];exact r.Oz k g
 ·rw[if_neg e,if_neg e];exact Paired.snoc r (U,g)
theorem KV.length(r:KV kvs vs):kvs.length=vs.length:=Paired.length r
end
variable{P:Da}
def jJ(r:RelV (kV k) u):(bB P w).is k u=true:=by
 cases k with
 |inl i=>let(t,e):=(r);subst e;exact yV P w i t
 |inr x=>let(t,e):=(r);subst e;exact yU P w x t
theorem uT:∀{ks:List Key}{us:List B},Vals (ks.map kV) us->ItemsAre (bB P w) ks us
 |[],_,r=>by cases r;exact .nil
 |k::ks,_,r=>by
  cases r with
  |cons h t=>exact .cons (jJ h) (uT t)
abbrev KT(H:Hp):List (List Key×V)->List (List Key×J×B)->Prop:=Paired λp q=>p.1=q.1/\H q.2.1=Z (.tup (p.1.map kV))/\RelV p.2 q.2.2
def KT.val(r:KT H kvs xs)(k:List Key):iz (fN kvs k) ((atKey xs k).map (·.2)):=by
 induction r with
 |nil=>exact True.intro
 |@cons p q ps qs h t g =>
  let(h1,_,h2):=h;by_cases e:p.1=k
  ·let e':=h1.symm.trans e;let b:atKey (q::qs) k=Z q.2:=by simp[atKey,e']
   rw[qh e,b];exact h2
  ·let e':¬ q.1=k:=λz=>e (h1.trans z)
   let b:atKey (q::qs) k=atKey qs k:=by simp[atKey,e']
   rw[qi e,b];exact g
def KT.Oz(r:KT H kvs xs)(k:List Key)(g:RelV y u):
  KT H (kvs.map λkv=>if kv.1=k then(kv.1,y)else kv) (xs.map (putAt k u)):=by
 induction r with
 |nil=>exact .nil
 |@cons p q ps qs h t K =>
  rw[xG];refine .cons ?_ K;let(h1,h2,h3):=h;unfold putAt;by_cases e:p.1=k
  ·rw[if_pos e,if_pos (h1.symm.trans e)];exact(h1,h2,g)
  ·rw[if_neg e,if_neg (λz=>e (h1.trans z))];exact(h1,h2,h3)
def KT.put(r:KT H kvs xs)(k:List Key)(z:H b=Z (.tup (k.map kV)))(g:RelV y u):
  KT H (putK kvs k y) (storedH xs k b u):=by
 let e:(kvs.any λkv=>decide (kv.1=k))=(atKey xs k).isSome:=by
  rw[xX,(r.val k).il,Wm]
 unfold putK storedH;rw[e];by_cases q:(atKey xs k).isSome=O
 ·rw[if_pos q,if_pos q];exact r.Oz k g
 ·rw[if_neg q,if_neg q];exact Paired.snoc r (U,z,g)
def KT.keeps(r:KT H kvs xs)(g:∀b ys,H b=Z (.tup ys)->H' b=Z (.tup ys)):KT H' kvs xs :=
 Paired.SH r λ_ _ z=>(z.1,g _ _ z.2.1,z.2.2)
variable{kvs:List (Key×V)}
section
variable{w:Cl}{h:Do}
def Nu{u:HO}(ok:HOk P w H h)(e:Rd H a u):da P w H h a u:=e.ok ok
def jP(ok:HOk P w H h)(e:Rd H a (.dK kvs)):kvs.length<=mV/\(a==sysModules)=ϊ/\∃vs,KV kvs vs/\h.DictOf (bB P w) a vs :=
 Nu ok e
def IB(ok:HOk P w H h)(e:H a=Z (.dK kvs)):kvs.length<=mV/\(a==sysModules)=ϊ/\∃vs,KV kvs vs/\h.DictOf (bB P w) a vs:=jP ok (.inl e)
def nP(ok:HOk P w H h)(e:H a=Z (.tup (ks.map kV))):(tupleKind (bB P w)).is h ks a:=by
 let(_,its,r,(o,h1,h2,n,h3),_):=(ok a _ e);exact(o,its.toArray,n,h1,h2,h3,by simpa using uT r)
def si{kvs:List (List Key×V)}(ok:HOk P w H h)(e:Rd H a (.dT kvs)):kvs.length<=mV/\(a==sysModules)=ϊ /\
  ∃xs,KT H kvs xs/\h.DictOfH (tupleKind (bB P w)) a xs:=by
 let(z,y,xs,r,o,es,K,h1,h2,h3,h4,h5):=(Nu ok e);refine(z,y,xs,r,o,es,K,h1,h2,h3,h4,λx hx=>?_,h5)
 let all:∀{l:List (List Key×V)}{m:List (List Key×J×B)},KT H l m->∀x∈m,(tupleKind (bB P w)).is h x.1 x.2.1:=by
  intro l m q
  induction q with
  |nil=>intro x hx;exact nomatch hx
  |@cons p q ps qs hq t g =>
   intro x hx;obtain e|hx:=kf.mp hx
   ·subst e;exact nP ok (by rw[<- hq.1];exact hq.2.1)
   ·exact g x hx
 exact all r x hx
def Tr{kvs:List (List Key×V)}(ok:HOk P w H h)(e:H a=Z (.dT kvs)):kvs.length<=mV/\(a==sysModules)=ϊ /\
  ∃xs,KT H kvs xs/\h.DictOfH (tupleKind (bB P w)) a xs:=si ok (.inl e)
end
def hJ(H:Hp)(a:J)(y:V)(r:Option V):Prop :=
 (∃kvs k,Rd H a (.dK kvs)/\y=kV k/\r=fN kvs k)\/∃kvs k b,Rd H a (.dT kvs)/\y=.ref b/\H b=Z (.tup (k.map kV))/\r=fN kvs k
def sW(H:Hp)(a:J)(y v:V)(H':Hp):Prop :=
 (∃kvs k,H a=Z (.dK kvs)/\y=kV k/\kvs.length<mV/\H'=upd H a (.dK (putK kvs k v))) \/
 ∃kvs k b,H a=Z (.dT kvs)/\y=.ref b/\H b=Z (.tup (k.map kV))/\kvs.length<mV/\H'=upd H a (.dT (putK kvs k v))
theorem hJ.k{a:J}{kvs:List (Key×V)}{k:Key}(e:H a=Z (.dK kvs)):hJ H a (kV k) (fN kvs k):=.inl (kvs,k,.inl e,U,U)
theorem sW.k{a:J}{kvs:List (Key×V)}{k:Key}{v:V}(e:H a=Z (.dK kvs))(hl:kvs.length<mV):sW H a (kV k) v (upd H a (.dK (putK kvs k v))):=.inl (kvs,k,e,U,hl,U)
variable{Q:B->ϋ->Prop}{h':Do}{t':Nat}
section
variable{gV:List (J×Obj)}{σ:St}{s:ϋ}{v:V}{r:B}{o:Option V}{E:B->ϋ->Prop}
def Inv.big(I:Inv X gV σ H s):sysModules<s.heap.objs.size:=by
 let h:=(I.mod.glob.keeps I.bk).lt;exact WT (by decide) h
def EI(hu:A.units+1<cLine)(I:Inv X gV σ H s)(g:hJ H a y (Z v))(ry:RelV y u)(h:∀K s',Inv X gV σ H s'->RelV v K->Q K s'):
  wpAny (model X.prog X.w) A (getItem (.ref a) u) Q E s:=by
 obtain⟨kvs,k,e,V,l⟩|⟨kvs,k,b,e,V,eb,l⟩:=g
 ·subst V;let(z,hd,vs,rel,dd):=jP I.hok e;let(K,hw,q):=iz.some_of (by rw[l];exact rel.val k)
  exact wpAny_getItem_of (jJ ry) dd.mapOf hw (h K _ (I.tok _) q)
 ·subst V
  cases(ry)
  let(z,hd,xs,rel,dd):=si I.hok e;let(K,hw,q):=iz.some_of (by rw[l];exact rel.val k)
  let(p,hp,P):=j7.mp hw;refine wpAny_getItem_heap (tupleKind_room_in1 hu) (nP I.hok eb) dd hp ?_;rw[P];exact h K _ (I.tok _) q
def Vf(V:A.units+1<cLine)(I:Inv X gV σ H s)(g:hJ H a y o)(P:RelV y u)(h:∀s',Inv X gV σ H s'->Q (.bool o.isSome) s'):
  wpAny (model X.prog X.w) A (compareOp .In u (.ref a)) Q E s:=by
 obtain⟨kvs,k,e,K,l⟩|⟨kvs,k,b,e,K,eb,l⟩:=g
 ·subst K;let(z,hd,vs,rel,dd):=jP I.hok e;refine wpAny_in_of (jJ P) hd dd.mapOf ?_;rw[<- (rel.val k).il,<- l];exact h _ (I.tok _)
 ·subst K
  cases(P)
  let(z,hd,xs,rel,dd):=si I.hok e;refine wpAny_in_heap (tupleKind_room_in1 V) (nP I.hok eb) hd dd ?_;let q:=(rel.val k).il;rw[Wm]at q;rw[<- q,<- l];exact h _ (I.tok _)
def MW(V:A.units+1<cLine)(I:Inv X gV σ H s)(g:hJ H a y o)(P:RelV y u)(h:∀s',Inv X gV σ H s'->Q (.bool (!o.isSome)) s'):
  wpAny (model X.prog X.w) A (compareOp .NotIn u (.ref a)) Q E s:=by
 obtain⟨kvs,k,e,K,l⟩|⟨kvs,k,b,e,K,eb,l⟩:=g
 ·subst K;let(z,hd,vs,rel,dd):=jP I.hok e;refine wpAny_notIn_of (jJ P) hd dd.mapOf ?_;rw[<- (rel.val k).il,<- l];exact h _ (I.tok _)
 ·subst K
  cases(P)
  let(z,hd,xs,rel,dd):=si I.hok e;refine wpAny_notIn_heap (tupleKind_room_in1 V) (nP I.hok eb) hd dd ?_;let q:=(rel.val k).il;rw[Wm]at q;rw[<- q,<- l];exact h _ (I.tok _)
def xl(I:Inv X gV σ H s)(g:Mut (H a))(hs:Wf a s.heap h')(he:∃q,h'.get? a=Z q)(new:da X.prog X.w (upd H a ob) h' a ob):
  Inv X gV σ (upd H a ob) {s with heap:=h',toks:=t'} :=
 I.write g (.inl U) (λb q K z=>(hs.2 b K).trans z) he new
def nU(z:kvs.length<=mV)(hd:(a==sysModules)=ϊ)(rel:KV kvs vs)(dd:h'.DictOf (bB P w) a vs):
  da P w H' h' a (.dK kvs):=(z,hd,vs,rel,dd)
def EH{Q:Unit->ϋ->Prop}(hu:A.units+1<cLine)(I:Inv X gV σ H s)(g:sW H a y v H')(ry:RelV y u)(rv:RelV v r)(h:∀s',Inv X gV σ H' s'->Q () s'):
  wpAny (model X.prog X.w) A (setItem (.ref a) u r) Q E s:=by
 obtain⟨kvs,k,e,P,l,V⟩|⟨kvs,k,b,e,P,eb,l,V⟩:=g
 ·subst P V;let(z,hd,vs,rel,dd):=IB I.hok e;let hz:vs.length<=mV:=by rw[<- rel.length];exact z
  let hl:(putK kvs k v).length<=mV:=by have:=jH kvs k v;omega
  refine wpAny_setItem_pairs (jJ ry) dd λh' K hs=>h _ ?_
  let he:∃q,h'.get? a=Z q:=let(q,_,_,hq,_):=K;(q,hq)
  exact xl I (by rw[e];exact True.intro) hs he (nU hl hd (rel.put k rv) K)
 ·subst P V
  cases(ry)
  let(z,hd,xs,rel,dd):=Tr I.hok e;let hz:xs.length<=mV:=by rw[<- Paired.length rel];exact z
  let hl:(putK kvs k v).length<=mV:=by have:=jH kvs k v;lia
  refine wpAny_setItem_heap (hsz:=hz) (tupleKind_room_in1 hu) (nP I.hok eb) dd λh' K hs=>h _ ?_
  let(q,es,ep,hq,h2,h3,h4,_,h5):=K;refine xl I (by rw[e];exact True.intro) hs (q,hq) (hl,hd,_,(rel.put k eb rv).keeps λc ys ec=>?_,q,es,ep,hq,h2,h3,h4,h5)
  rw[ak (ij ec e (λz=>nomatch z))]
  exact ec
end
section
variable{gV:List (J×Obj)}{σ:St}{s:ϋ}{E:B->ϋ->Prop}
def Tv(I:Inv X gV σ H s)(e:Rd H a (.dK kvs))(h:∀t s',Inv X gV σ H s'->Q (.int kvs.length t) s'):wpAny (model X.prog X.w) A (call (.builtin "len") [.ref a]) Q E s:=by
 let(z,hd,vs,rel,dd):=jP I.hok e;refine call_len_dict hd dd (by rw[<- rel.length];rw[WL]at z;lia) ?_
 rw[<- rel.length];exact h _ _ (I.tok _)
end
def T1(i:Ev):Prop:=∀g iv,subscripted i ϊ g iv=operate [g,iv] (getItem g iv)
variable{prog:Da}{E:B->ϋ->Prop}{value:Ev}
def JT{T id:String}
  (hl:typeLookup (.type T) "__getitem__"=pure (Z (.builtin id))) (hs:T1 slice)
  (h:wpAny (model prog w) A (eval value env) (λo z=>wpAny (model prog w) A (eval slice env) (λi s₂=>s₂.TypeIs o T/\wpAny (model prog w) A (getItem o i) Q E s₂) E z) E s):
  wpAny (model prog w) A (eval (.Subscript value slice pos) env) Q E s:=by
 refine Subscript_ (VG h (λo z h₁=>VG h₁ (λi s₂ g=>?_) λ_ _ x=>x) λ_ _ x=>x)
 let(hT,g):=g;refine cO ?_;refine cO (Rv hT hl ?_);let fin:wpAny (model prog w) A (subscripted slice ϊ o i) (λr q=>wpAny (model prog w) A (letTemporaryGo value o r >>= λ_=>pure r) Q E q) E s₂:=by
  rw[hs o i];exact wpAny_operating (VG g (λr q K=>cO (wpAny_letTemporaryGo (k4 K))) λ_ _ x=>x)
 exact k4 (cO fin)
variable{gV:List (J×Obj)}
def zm{σ:St}(I:Inv X gV σ H s)(g:hJ H a y o):s.TypeIs (.ref a) "dict":=by
 obtain⟨kvs,k,e,_,_⟩|⟨kvs,k,b,e,_,_,_⟩:=g
 ·let(_,_,vs,_,dd):=jP I.hok e;exact dd.typeIs
 ·let(_,_,xs,_,dd):=si I.hok e;exact dd.typeIs
def Rr(td ty:TE):TE:=λσ H Q=>td σ H λx H1=>ty σ H1 λy H2=>∃a v,x=.ref a/\hJ H2 a y (Z v)/\Q v H2
def uC(td ty tv:TE):TS:=λD σ H=>tv σ H λv H1=>td σ H1 λx H2=>ty σ H2 λy q=>∃a g,x=.ref a/\sW q a y v g/\D.nx σ g
section
variable{o i:Ev}{pos pos':Pos}{td ty tv:TE}
def iO(hu:X.A.units+1<cLine)(ho:PE X o td)(hi:PE X i ty)(hs:T1 i):PE X (.Subscript o i pos) (Rr td ty):=by
 intro gV s σ H Q I h;refine JT PySem.F.slot_dict_getitem.lookup hs (thn (ho gV s σ H _ I h) λu s1 (x,H1,I1,V,q1)=>thn (hi gV s1 σ H1 _ I1 q1) λiv s2 z=>?_)
 let(y,H2,K,P,a,v,ex,g,q2):=z;subst ex;obtain rfl:=V;exact(zm K g,EI hu K g P λw' s3 I3 q=>(v,H2,I3,q,q2))
def ke(V:X.A.units+1<cLine)(ho:PE X o td)(hi:PE X i ty)(hv:PE X value tv)(hs:swapsWith value (Z (.Subscript o i pos')) pos.line X.env=pure ϊ):
  PS X (.Assign [.Subscript o i pos'] value pos) (uC td ty tv):=by
 intro gV s σ H D I h;refine wpAny_Assign_Subscript (thn (hv gV s σ H _ I h) λr s1 (v,H1,I1,rv,q1)=>thn (ho gV s1 σ H1 _ I1 q1) λu s2 (x,H2,I2,K,Q)=>thn (hi gV s2 σ H2 _ I2 Q) λiv s3 q=>?_) hs
 let(y,H3,I3,z,a,H4,ex,g,P):=q;subst ex;obtain rfl:=K;exact EH V I3 g z rv λs4 I4=>(σ,H4,I4,P)
end
def zk(h:Do)(g:sysModules<h.objs.size):da P w H (h.push {cls:=.type "dict",data:=.dict #[]}) h.objs.size (.dK []) :=
 (Jf _,beq_eq_false_iff_ne.mpr (Ne.symm (sR g)),[],.nil,Heap.DictOf.new h)
def Ft:TE:=λ_ H Q=>∀p,H p=Y->Q (.ref p) (upd H p (.dK []))
section
variable{pos:Pos}
def Hf:PE X (.Dict [] [] pos) Ft:=λgV s σ H Q I h =>
 wpAny_Dict_empty (.ref s.heap.objs.size,_,I.laid (λ_ _ q=>ja _ q) (mW _) (zk s.heap I.big),U,h _ (I.hok.fresh (mW _)))
end
def vt:List (TE×TE)->St->Hp->(List (V×V)->Hp->Prop)->Prop
 |[],_,H,Q=>Q [] H
 | (tk,tv)::r,σ,H,Q=>tk σ H λx H1=>tv σ H1 λy H2=>vt r σ H2 λps g=>Q ((x,y)::ps) g
abbrev VV:List (V×V)->List (B×B)->Prop:=Paired λp q=>RelV p.1 q.1/\RelV p.2 q.2
def PPs(X:Cx)(pos:Pos)(keys:List (Option Ev))(values:List Ev)(trs:List (TE×TE)):Prop :=
 ∀(gV:List (J×Obj))(s:ϋ)(σ:St)(H:Hp)(Q:List (V×V)->Hp->Prop),Inv X gV σ H s->vt trs σ H Q ->
  wpAny (model X.prog X.w) X.A (evalPairs (pairTrees keys values X.env pos)) (λvs s'=>∃ps H',Inv X gV σ H' s'/\VV ps vs/\Q ps H') X.xe s
def Ck:PPs X pos [] [] []:=λgV s σ H Q I h=>pairTrees_nil_walk ([],H,I,.nil,h)
variable{tk:TE}{tv:TE}{trs:List (TE×TE)}
def l6(P:PE X k tk)(hv:PE X v tv)(hr:PPs X pos ks vs trs):
  PPs X pos (Z k::ks) (v::vs) ((tk,tv)::trs):=λgV s σ H Q I h =>
 pairTrees_cons_walk (thn (P gV s σ H _ I h) λu s1 (x,H1,I1,q,q1)=>thn (hv gV s1 σ H1 _ I1 q1) λw2 s2 (y,H2,I2,g,K) =>
  thn (hr gV s2 σ H2 _ I2 K) λws s3 (ps,H3,V,rel,z)=>((x,y)::ps,H3,V,.cons (q,g) rel,z))
def dr(kvs more:List (Key×V)):List (Key×V):=more.foldl (λacc kv=>putK acc kv.1 kv.2) kvs
def KV.merge:∀{more:List (Key×V)}{rs:List (Key×B)}{kvs:List (Key×V)}{vs:List (Key×B)},KV more rs->KV kvs vs->KV (dr kvs more) (merged vs rs):=by
 intro more rs kvs vs r
 induction r generalizing kvs vs with
 |nil=>intro q;exact q
 |@cons p q ps qs h t z =>
  intro g;let e:KV (putK kvs p.1 p.2) (stored vs q.1 q.2):=by
   have:=g.put p.1 h.2
   rw[<- h.1];exact this
  exact z e
theorem dw:∀(more kvs:List (Key×V)),(dr kvs more).length<=kvs.length+more.length
 |[],kvs=>by show kvs.length<=kvs.length+0;lia
 |p::r,kvs=>by
  let h1:=dw r (putK kvs p.1 p.2);let h2:=jH kvs p.1 p.2;show(dr (putK kvs p.1 p.2) r).length<=_;rw[rl];lia
theorem sv:∀{kvs:List (Key×V)}{ws:List (B×B)},VV (kvs.map λkv=>(kV kv.1,kv.2)) ws->∃rs,Carries (bB P w) ws rs/\KV kvs rs
 |[],_,r=>by cases r;exact([],True.intro,.nil)
 |p::kvs,_,r=>by
  cases r with
  |@cons a b as bs h t =>
   let(rs,c,q):=sv t;let(b1,b2):=b;exact((p.1,b2)::rs,(jJ h.1,U,c),.cons (U,h.2) q)
def Nt(trs:List (TE×TE)):TE:=λσ H Q=>∀p,H p=Y->vt trs σ (upd H p (.dK [])) λps H2=>H2 p=Z (.dK [])/\∃kvs:List (Key×V),ps=kvs.map (λkv=>(kV kv.1,kv.2))/\kvs.length<=15/\Q (.ref p) (upd H2 p (.dK (dr [] kvs)))
def Cn(h:PPs X pos keys values trs)(Ij:keys.all (·.isSome)=O)(hl:keys.length=values.length)(h0:keys ≠ [])
  (h15:keys.length<=15):PE X (.Dict keys values pos) (Nt trs):=by
 intro gV s σ H Q I q;let hn:=I.hok.fresh (mW s.heap.objs.size);let I1:=I.laid (t':=s.toks) (λ_ _ q=>ja _ q) (mW _) (zk s.heap I.big)
 refine wpAny_Dict_walk (knd:=bB X.prog X.w) Ij hl h0 h15 (thn (h gV _ σ _ _ I1 (q _ hn)) λws s2 K=>?_)
 let(ps,H2,P,rel,e,kvs,ep,lk,q2):=K;subst ep;let(rs,c,rk):=sv rel;let(z,hd,V,r0,dd):=IB P.hok e;cases r0;refine(rs,c,dd,λh' g hs=>(.ref s.heap.objs.size,_,?_,U,q2))
 let hz:(dr [] kvs).length<=mV:=by
  let h1:=dw kvs [];rw[Wi]at h1;rw[WL];lia
 let he:∃q,h'.get? s.heap.objs.size=Z q:=let(q,_,_,hq,_):=g;(q,hq)
 exact xl P (by rw[e];exact True.intro) hs he (nU hz hd (rk.merge .nil) g)
structure M2(X:Cx)(o:Ev)(m:Str)(apos:Pos)(e f:Ev)(aS:Pos):Prop where
 base:attributeBase o m X.env (eval o X.env)=eval o X.env
 few:((backTo aS (kz [e,f] X.env)).all (λx=>!x.1)&&(backToKw aS (keywordEach [] X.env)).all (λx=>x.1.isSome)
  && decide (([e,f]:List Ev).length+([]:List Keyword).length+(if([]:List Keyword).isEmpty then 0 else 1)<30))=O
 line:(apos.endLine==aS.line)=O
 trees:backTo aS (kz [e,f] X.env)=[(ϊ,eval e X.env),(ϊ,eval f X.env)]
def IsD(H:Hp)(a:J):Prop:=(∃kvs,Rd H a (.dK kvs))\/∃kvs,Rd H a (.dT kvs)
def PZ{σ:St}(I:Inv X gV σ H s)(d:IsD H a):
  s.TypeIs (.ref a) "dict" /\ (∀b,B.ref a=.ref b->∃ob,s.heap.get? b=Z ob/\ob.dict=Y)/\(a==sysModules)=false:=by
 obtain⟨kvs,e⟩|⟨kvs,e⟩:=d
 ·let(_,hd,vs,_,dd):=jP I.hok e;refine(dd.typeIs,λb q=>?_,hd)
  cases q;let(ob,_,_,h1,h2,_):=dd;exact(ob,h1,h2.2.1)
 ·let(_,hd,xs,_,dd):=si I.hok e;refine(dd.typeIs,λb q=>?_,hd)
  cases q;let(ob,_,_,h1,h2,_):=dd;exact(ob,h1,h2.2.1)
section
variable{σ:St}{s:ϋ}{d:V}{r:B}{o:Option V}
def Qk(V:A.units+1<cLine)(I:Inv X gV σ H s)(g:hJ H a y o)(P:RelV y u)(rd:RelV d r)(h:∀K s',Inv X gV σ H s'->RelV (o.getD d) K->Q K s'):
  wpAny (model X.prog X.w) A (call (.builtin "dict.get") [.ref a,u,r]) Q E s:=by
 obtain⟨kvs,k,e,q,l⟩|⟨kvs,k,b,e,q,eb,l⟩:=g
 ·subst q;let(z,hd,vs,rel,dd):=jP I.hok e;refine call_meetsIn PySem.F.slot_dict_get dd.typeIs PySem.F.entry_dict_get (PySem.F.args_dict_get_3 _ _ _) (meets_dict_get_default (bB X.prog X.w) a (jJ P) hd r) (_,dd.mapOf,h _ _ (I.tok _) ?_);rw[l];exact(rel.val k).getD rd
 ·subst q
  cases(P)
  let(z,hd,xs,rel,dd):=si I.hok e;refine call_meetsIn PySem.F.slot_dict_get dd.typeIs PySem.F.entry_dict_get (PySem.F.args_dict_get_3 _ _ _) (meetsH_dict_get_default (tupleKind (bB X.prog X.w)) a b hd r) (tupleKind_room_in1 V,k,xs,nP I.hok eb,dd,h _ _ (I.tok _) ?_);rw[l];exact(rel.val k).getD rd
end
def Fv(td ty tx:TE):TE:=λσ H Q=>td σ H λx H1=>∃a,x=.ref a/\IsD H1 a/\ty σ H1 λy H2=>tx σ H2 λz g=>∃o,hJ g a y o/\Q (o.getD z) g
section
variable{o e f:Ev}{apos aS:Pos}{td ty tx:TE}
def Hg(hu:X.A.units+1<cLine)(ho:PE X o td)(he:PE X e ty)(hf:PE X f tx)(m:M2 X o "get" apos e f aS):PE X (.Call (.Attribute o "get" apos) [e,f] [] aS) (Fv td ty tx):=by
 intro gV s σ H Q I h;refine wpAny_Call_method m.base m.few m.line PySem.F.plainAttrs_dict PySem.F.slot_dict_get PySem.F.type_dict_get (thn (ho gV s σ H _ I h) λu s1 K=>?_)
 let(x,H1,P,rx,a,ex,d,q1):=K;subst ex;obtain rfl:=rx;let(t1,t2,_):=PZ P d;refine(t1,t2,?_);rw[m.trees];refine Calls.callWith_builtin U (Calls.evalArgs_plain (Calls.spliced_cons (thn (he gV s1 σ H1 _ P q1) λiv s2 (y,H2,I2,ry,q2) =>
  Calls.spliced_cons (thn (hf gV s2 σ H2 _ I2 q2) λfv s3 (z,H3,I3,V,ov,g,q3)=>Calls.spliced_nil ?_))))
 exact Qk hu I3 g ry V λw' s4 I4 q=>(_,H3,I4,q,q3)
end
section
def ER:cF X (.builtin "len") (λxs H Q=>∃a kvs,xs=[V.ref a]/\H a=Z (.dK kvs)/\Q (.int kvs.length) H):=by
 intro gV s σ H xs us Q I r h;let(a,kvs,U,ha,q):=h;let(u,U,ru):=vals1 r;cases ru;exact Tv I (.inl ha) λt s' g=>(.int kvs.length,H,g,(t,U),q)
end
end L2
set_option maxHeartbeats 4000000
namespace L2
open PySem PySem.Spec PyProof.Rows
def rK{h:Do}{a:Nat}(e:h.get? a=Z o):@LT.lt Nat _ a h.objs.size:=kE e
def C4{h:Do}{a:Nat}(e:h.IsCell a v):@LT.lt Nat _ a h.objs.size:=e.lt
def mq{a b:Nat}(h:a<b):@Ne J a b:=sR h
def SG{a b:Nat}(h:b<a):@Ne J a b:=Jh h
theorem jU{body:Str×NameKind->List (Str×J)->Sem (ForInStep (List (Str×J)))}
  (Q:∀n k c,body (n,k) c=if(k==NameKind.free)=O then(cellOf env n >>= λa=>pure (.yield ((n,a)::c)))else pure (.yield c)):
  ∀(l:List (Str×NameKind))(cs:List (Str×J)),(∀p∈l,p.2=NameKind.free->∃c,env.cells.lookup p.1=Z c) ->
   ∃cl,forIn l cs body=pure cl/\(∀x c,cl.lookup x=Z c->env.cells.lookup x=Z c\/cs.lookup x=Z c)/\(∀x,(x,NameKind.free)∈l->∃c,cl.lookup x=Z c)/\∀x c,cs.lookup x=Z c->∃q,cl.lookup x=Z q
 |[],cs,_=>(cs,U,λ_ _ h=>.inr h,λ_ h=>(nomatch h),λ_ c h=>(c,h))
 | (n,k)::r,cs,h=>by
  let hr:=λp hp=>h p (j0 _ hp)
  rw[Wq,Q];by_cases K:(k==NameKind.free)=O
  ·rw[if_pos K];let P:=by simpa using K
   let(c,V):=h (n,k) g5 P;let e1:cellOf env n=pure c:=by unfold cellOf;rw[V]
   rw[e1];let(cl,e,h1,h2,h3):=jU Q r ((n,c)::cs) hr;refine(cl,e,λx q hx=>?_,λx hx=>?_,λx q hx=>?_)
   ·obtain z|z:=h1 x q hx
    ·exact .inl z
    ·by_cases g:(x==n)=O
     ·let e3:=by simpa using g
      subst e3;rw[vr,g]at z;cases z;exact .inl V
     ·rw[vr,XO.mpr g]at z;exact .inr z
   ·obtain z|z:=kf.mp hx
    ·let g:x=n:=congrArg Prod.fst z;exact h3 x c (by rw[vr,g,beq_self_eq_true])
    ·exact h2 x z
   ·by_cases g:(x==n)=O
    ·exact h3 x c (by rw[vr,g])
    ·exact h3 x q (by rw[vr,XO.mpr g];exact hx)
  ·rw[if_neg K];let(cl,e,h1,h2,h3):=jU Q r cs hr;refine(cl,e,h1,λx hx=>?_,h3)
   obtain z|z:=kf.mp hx
   ·cases z;exact absurd U K
   ·exact h2 x z
variable{scope:Scope}
def Bp(h:∀p∈scope.names,p.2=NameKind.free->∃c,env.cells.lookup p.1=Z c):
  ∃cl:List (Str×J),closureFor scope env=pure cl/\(∀x c,cl.lookup x=Z c->env.cells.lookup x=Z c)/\∀x,(x,NameKind.free)∈scope.names->∃c,cl.lookup x=Z c:=by
 let(cl,e,h1,h2,_):=jU (body:=λx c=>if(x.2==NameKind.free)=O then(cellOf env x.1 >>= λa=>pure (.yield ((x.1,a)::c)))else pure (.yield c)) (λ_ _ _=>rfl) scope.names [] h
 refine(cl,?_,λx c hx=>(h1 x c hx).elim id λz=>by simp at z,h2)
 let g:closureFor scope env=(forIn scope.names ([]) (λx c=>if(x.2==NameKind.free)=O then(cellOf env x.1 >>= λa=>pure (.yield ((x.1,a)::c)))else pure (.yield c)) >>= λr=>pure r):=by
  simp only[closureFor]
 rw[g,e];rfl
theorem gS{env:Env}:∀{names:List (Str×NameKind)}{x:Str}{k:NameKind},
  (names.map λ(n,k)=>if(k==NameKind.free&&env.scope.kind == .function&&env.kindOf n==Z .cell)then(n,NameKind.cell)else(n,k)).lookup x=Z k ->
   names.lookup x=Z k\/(names.lookup x=Z .free/\k=.cell)
 |[],_,_,h=>by simp at h
 | (n,k0)::r,x,k,h=>by
  let q:=@gS env r x k
  replace h:V0 x ((if(k0==NameKind.free&&env.scope.kind == .function&&env.kindOf n==Z .cell)=O then(n,NameKind.cell)else(n,k0)) ::(r.map λ(n,k)=>if(k==NameKind.free&&env.scope.kind == .function&&env.kindOf n==Z .cell)then(n,NameKind.cell)else(n,k)))=Z k:=h
  cases hx:x==n with
  |true =>
   by_cases g:(k0==NameKind.free&&env.scope.kind == .function&&env.kindOf n==Z .cell)=O
   ·rw[if_pos g]at h;simp only[vr,hx]at h;cases h
    have:=by
     simp only[sO]at g;simpa using g.1.1
    subst this;exact .inr (by simp only[vr,hx],U)
   ·rw[if_neg g]at h;simp only[vr,hx]at h;exact .inl (by simp only[vr,hx];exact h)
  |false =>
   let h':(r.map λ(n,k)=>if(k==NameKind.free&&env.scope.kind == .function&&env.kindOf n==Z .cell)then(n,NameKind.cell)else(n,k)).lookup x=Z k:=by
    by_cases g:(k0==NameKind.free&&env.scope.kind == .function&&env.kindOf n==Z .cell)=O
    ·rw[if_pos g]at h;simpa only[vr,hx]using h
    ·rw[if_neg g]at h;simpa only[vr,hx]using h
   obtain z|z:=q h'
   ·exact .inl (by simp only[vr,hx];exact z)
   ·exact .inr (by simp only[vr,hx];exact z)
theorem lV{env:Env}:∀{names:List (Str×NameKind)}{x:Str},names.lookup x=Z .free ->
  (names.map λ(n,k)=>if(k==NameKind.free&&env.scope.kind == .function&&env.kindOf n==Z .cell)then(n,NameKind.cell)else(n,k)).lookup x=Z .free \/
  (names.map λ(n,k)=>if(k==NameKind.free&&env.scope.kind == .function&&env.kindOf n==Z .cell)then(n,NameKind.cell)else(n,k)).lookup x=Z .cell
 |[],_,h=>by simp at h
 | (n,k0)::r,x,h=>by
  let q:=@lV env r x;show V0 x ((if(k0==NameKind.free&&env.scope.kind == .function&&env.kindOf n==Z .cell)=O then(n,NameKind.cell)else(n,k0))::_)=_\/V0 x ((if(k0==NameKind.free&&env.scope.kind == .function&&env.kindOf n==Z .cell)=O then(n,NameKind.cell)else(n,k0))::_)=_
  cases hx:x==n with
  |true =>
   simp only[vr,hx]at h;cases h;by_cases g:(NameKind.free==NameKind.free&&env.scope.kind == .function&&env.kindOf n==Z .cell)=O
   ·rw[if_pos g];simp only[vr,hx];exact .inr trivial
   ·rw[if_neg g];simp only[vr,hx];exact .inl trivial
  |false =>
   simp only[vr,hx]at h;by_cases g:(k0==NameKind.free&&env.scope.kind == .function&&env.kindOf n==Z .cell)=O
   ·rw[if_pos g];simp only[vr,hx];exact q h
   ·rw[if_neg g];simp only[vr,hx];exact q h
inductive mY(X:Cx)(sc:Scope):List Str->List (Option Nat)->Prop
 |nil:mY X sc [] []
 |own{x:Str}{N:List Str}{c:List (Option Nat)}:sc.names.lookup x=Z .local->mY X sc N c->mY X sc (x::N) (Y::c)
 |got{x:Str}{i:Nat}{N:List Str}{c:List (Option Nat)}:X.N[i]?=Z x->sc.names.lookup x=Z .free->(X.env.kindOf x=Z .cell\/X.env.kindOf x=Z .free)->mY X sc N c->mY X sc (x::N) (Z i::c)
def mL(c:List (Option Nat))(σ:St):St:=c.map λo=>o.bind λ(i:Nat)=>(σ[i]?).join
variable{X:Cx}{sc:Scope}{N:List Str}
def mY.len(h:mY X sc N c):(mL c σ).length=N.length:=by
 unfold mL;rw[dz]
 induction h with
 |nil=>rfl
 |own _ _ g=>simp[g]
 |got _ _ _ _ g=>simp[g]
theorem mY.at(h:mY X sc N c):∀{j:Nat}{x:Str}{v:V},N[j]?=Z x->(mL c σ)[j]?=Z (Z v) ->
  ∃i:Nat,X.N[i]?=Z x/\σ[i]?=Z (Z v)/\sc.names.lookup x=Z .free/\(X.env.kindOf x=Z .cell\/X.env.kindOf x=Z .free):=by
 induction h with
 |nil=>intro j x v h1;simp at h1
 |own _ _ z =>
  intro j x v h1 h2;cases j with
  |zero=>simp[mL]at h2
  |succ j=>exact z (by simpa using h1) (by simpa [mL]using h2)
 |@got y i N c g1 g2 g3 _ z =>
  intro j x v h1 h2;cases j with
  |zero =>
   let e:=by simpa using h1
   subst e;refine(i,g1,?_,g2,g3);let g:=by simpa [mL]using h2
   cases q:σ[i]? with
   |none=>rw[q]at g;cases g
   |some o =>
    rw[q]at g
    have:o=Z v:=g
    rw[this]
  |succ j=>exact z (by simpa using h1) (by simpa [mL]using h2)
def blk(X:Cx)(N':List Str)(sc:Scope)(cl:List (Str×J))(C:J)(s₂:ϋ)(H₂:Hp)(fp:List J):Cx :=
 {X with N:=N',s₀:=s₂,H₀:=H₂,env:=compEnvC sc cl C X.env,outer:=X.stack,ex:=fp,fn:=λ_=>ϊ,pn:=[],xe:=λ_ _=>False}
def PTs(X:Cx)(ifs:List Ev)(t:TT):Prop :=
 ∀(gV:List (J×Obj))(s:ϋ)(σ:St)(H:Hp)(Q:Bool->Hp->Prop),Inv X gV σ H s->t σ H Q ->
  wpAny (model X.prog X.w) X.A (forIn ifs O λc r=>if r=O then do let ok <- isTrue c X.env (eval c X.env);pure (ForInStep.yield ok)else pure (ForInStep.yield r)) (TP X gV σ Q) X.xe s
def BL:TT:=λ_ H Q=>Q O H
def Cg:PTs X [] BL:=λ_ _ _ H _ I h=>wpAny_tests_nil (H,I,h)
def Ce(h:PT X c t):PTs X [c] t:=λgV s σ H Q I q=>wpAny_tests_one (h gV s σ H Q I q)
def N7(g:TG)(tst:TT)(te:TE)(P:St)(Q:VK)(Yc:It)(H1:Hp):Prop :=
 ∃W:Nat->Nat->List V->St->Hp->Prop,(∃m,W 0 m [] P H1)/\∀i m ys z H',W i m ys z H' ->
  (Yc.stop i H'/\ys.length<=mV/\∀D,H' D=Y->Q (.ref D) (upd H' D (.lst ys))) \/
  (Yc.go i H'/\ys.length<mV/\∃N:List V->St->Hp->Prop,(∀K q H2,N K q H2->∃m',m'<m/\W (i+1) m' K q H2)/\∀x H2,Yc.yld i H' x H2->g x z H2 λq H3=>tst q H3 λb H4 =>
   if b=O then te q H4 λy H5=>N (ys ++ [y]) q H5 else N ys q H4)
def uy(cap:List (Option Nat))(wi:TI)(g:TG)(tst:TT)(te:TE):TE:=λσ H Q=>wi σ H (N7 g tst te (mL cap σ) Q)
variable{prog:Da}{A:Db}{R:Result->ϋ->Prop}{elt:Ev}{iter:Ev}{ifs:List Ev}
def EL{w:Cl}{s:ϋ}{target:Ev}{pos:Pos}{it acc:B}(I:Nat->ϋ->Prop)
  (turn:∀n s,I n s->wpAny (model prog w) A (pyNext it) (λr z=>match r with
   |none=>R (.ok .next) z
   |some v=>wpAny (model prog w) A (letOwnedTupleGo target it v) (λ_ q=>wpAny (model prog w) A (assign target env v) (λ_ s₂ =>
     wpAny (model prog w) A (forIn ifs O λc r=>if r=O then do let ok <- isTrue c env (eval c env);pure (ForInStep.yield ok)else pure (ForInStep.yield r)) (λok g =>
      if ok=O then wpAny (model prog w) A (eval elt env) (λx P =>
       wpAny (model prog w) A (call (.builtin "list.append") [acc,x]) (λ_ K=>∃m,m<n/\I m K) (λ_ _=>False) P) (λ_ _=>False) g
      else ∃m,m<n/\I m g) (λ_ _=>False) s₂) (λ_ _=>False) q) (λ_ _=>False) z) (λ_ _=>False) s)
  (n:Nat) (h:I n s):
  codeAny (model prog w) A (.compLoop (.ListComp elt [(target,iter,ifs,0)] scope pos) 0 it acc env) R s:=by
 refine codeAny_loop U I (λn s hI=>?_) n h
 show wpAny _ A ((compTurn (.ListComp elt [(target,iter,ifs,0)] scope pos) 0 it acc env).onRaise (λx=>do noteFrame x env;theTreesLotGoes x)) _ _ s
 refine wpAny_noted ?_;rw[compTurn_list];refine cO (wpAny_standAt (cO (VG (turn n s hI) (λr z h₁=>?_) λ_ _ h'=>h'.elim)))
 cases r with
 |none=>exact k4 h₁
 |some v =>
  refine cO (VG h₁ (λ_ q V=>(cO (VG V (λ_ s₂ aE=>cO (VG aE (λok g Q=>?_) λ_ _ h'=>h'.elim)) λ_ _ h'=>h'.elim))) λ_ _ h'=>h'.elim)
  cases ok with
  |false=>exact k4 (U,Q)
  |true =>
   exact cO (cO (VG Q (λx P aD=>cO (VG aD (λ_ K av=>k4 (k4 (U,av))) λ_ _ h'=>h'.elim)) λ_ _ h'=>h'.elim))
variable{gV:List (J×Obj)}{H:Hp}{N':List Str}{cap:List (Option Nat)}{tst:TT}{te:TE}
def zu{σ:St}
  (hc:X.calm=O) (hi:PI X tg iter wi) (iw:sc.kind=.function) (gq:∀y∈sc.names,y.2 ≠ .cell) (iT:∀y∈sc.names,y.2=.local->sc.names.lookup y.1=Z .local)
  (jf:∀y∈sc.names,y.2=.free->X.env.kindOf y.1=Z .cell\/X.env.kindOf y.1=Z .free) (uc:mY X sc N' cap)
  (P:∀cl C s₂ H₂ fp,PG (blk X N' sc cl C s₂ H₂ fp) tg g/\PTs (blk X N' sc cl C s₂ H₂ fp) ifs tst/\PE (blk X N' sc cl C s₂ H₂ fp) elt te)
  (I:Inv X gV σ H s) (h:uy cap wi g tst te σ H Q)
  (fin:∀D C m H' s',Inv X gV σ H' s'->sS X gV H' C->s'.heap.Ns C m->Q (.ref D) H'->compPost (model X.prog X.w) X.A X.xe use Q' (.ref D) C (.ok .next) s')
  (hs:∀x,foldedSetIterable iter X.env x=pure x):
  wpAny (model X.prog X.w) X.A (comprehension (.ListComp elt [(tg,iter,ifs,0)] sc pos) sc X.env p (newList []) ϊ (eval iter X.env) use) Q' X.xe s:=by
 let(cl,S9,ze,Ta):=Bp (scope:=sc) (env:=X.env) λq hq e=>I.ok.has q.1 (jf q hq e)
 refine wpAny_comprehension_free U hs S9 iw iT (thn (hi gV s σ H _ I h) λv s1 h1=>thn h1 λc6 s2 h2=>?_)
 let(it,fp,tn,Yc,H2,e,I2,T,aM,f2,W,(m0,w0),turn):=h2;subst e;refine VQ (wpAny_newFunctionEnv gq (by intro y hy;simp at hy) (λh₁ MI Ib=>?_) iw)
 dsimp only at MI Ib ⊢
 generalize a4:s2.heap.push {cls:=.type "list",dict:=Y,data:=.seq ([]:List B).toArray}=HP at MI Ib ⊢
 let hC:HP.objs.size=s2.heap.objs.size+1:=by rw[<- a4,zM]
 obtain⟨D,aD⟩:∃D:Nat,s2.heap.objs.size=D:=(_,U)
 obtain⟨C,c2⟩:∃C:Nat,HP.objs.size=C:=(_,U)
 rw[aD]at hC;rw[c2]at hC MI Ib ⊢;rw[aD];let aQ:@Ne J D C:=mq (by omega)
 let old:∀b o,s2.heap.get? b=Z o->h₁.get? b=Z o:=λb o e =>
  Ib.extBut b o (mq (by have:=rK e;omega)) (ja _ (a4▸ja _ e))
 let fB:h₁.get? D=Z {cls:=.type "list",data:=.seq ([]:List B).toArray 0} :=
  Ib.extBut _ _ aQ (ja _ (by rw[<- a4,<- aD];exact pB _ U))
 let b6:(blk X N' sc cl C s2 H2 fp).Ok:=by
  refine(I.ok.mod,iw,I.ok.glob,I.ok.blt,(by show s2.heap.objs.size<=C;omega),λx y c h1 h2=>I.ok.inj x y c (ze x c h1) (ze y c h2),λx hx=>?_,λx c hx=>(nomatch hx),I.ok.hd,I.ok.frames,.inl U,λb P=>?_,
   λb o e=>I2.bs b o e,u4 I2.ok.bsz I2.sz,λb o e P=>?_,λb P=>?_,I2.stack,I2.BV)
  ·let cK:sc.names.lookup x=Z .free:=by
    obtain hx|hx:=hx
    ·obtain z|z:=gS hx
     ·exact absurd U (gq _ (PySem.mem_of_lookup z))
     ·exact z.1
    ·obtain z|z:=gS hx
     ·exact z
     ·exact z.1
   exact Ta x (PySem.mem_of_lookup cK)
  ·let(o,ho,_):=T.obj _ _ aM b P;refine(?_,λx c e=>(f2 b P).2.2.2.2.1 x c (ze x c e))
   show @Ne J b C
   have:=rK ho
   exact mq (by omega)
  ·let(_,_,_,z,_):=f2 b P;obtain z|z:=z
   ·exact I2.ok.HB b o e z
   ·have:=rK (show X.base.get? b=Z o from e)
    have:=I2.ok.bsz
    omega
  ·intro c0;obtain z|z:=kf.mp (I2.vw b c0)
   ·exact(f2 b P).2.1 z
   ·exact(f2 b P).2.2.1 z
 let nD:H2 D=none:=I2.hok.fresh (by rw[aD];exact mW _)
 let ct:=P cl C s2 H2 fp
 generalize V:blk X N' sc cl C s2 H2 fp=XB at b6 ct
 let eP:XB.prog=X.prog:=by rw[<- V];rfl
 let eW:XB.w=X.w:=by rw[<- V];rfl
 let eK:XB.K=X.K:=by rw[<- V];rfl
 let eA:XB.A=X.A:=by rw[<- V];rfl
 let eE:XB.env=compEnvC sc cl C X.env:=by rw[<- V];rfl
 let eX:XB.xe=λ_ _=>False:=by rw[<- V];rfl
 let aS:XB.fs=frs X.stack:=by rw[<- V];rfl
 let bt:XB.ex=fp:=by rw[<- V];rfl
 let eS:XB.s₀=s2:=by rw[<- V];rfl
 let eH:XB.H₀=H2:=by rw[<- V];rfl
 let a7:XB.pn=[]:=by rw[<- V];rfl
 let cE:XB.calm=true:=by rw[<- V];exact hc
 let eN:XB.N=N':=by rw[<- V];rfl
 let eL:XB.env.locals=C:=by rw[eE];rfl
 let aH:XB.env.cells=cl:=by rw[eE];rfl
 let Vh:∀(x:Str)(c:Nat),cl.lookup x=Z c->c<D:=λx c e=>by
  let(v,z):=I2.cell x c (ze x c e)
  have:=C4 z
  omega
 let cG:∀(b:Nat),D<=b->b ∉ XB.fs:=λb P z=>by
  rw[aS]at z;let(_,o,ho,_):=I2.stack.mem z
  have:=rK ho
  omega
 let a6:∀(b:Nat),b∈fp->b<D:=λb P=>by
  let(o,ho,_):=T.obj _ _ aM b P
  have:=rK ho
  omega
 let loop:∀s3:ϋ,s3={s2 with heap:=h₁,toks:=s2.toks+([]:List (Str×B)).length} ->
   codeAny (model X.prog X.w) X.A (.compLoop (.ListComp elt [(tg,iter,ifs,0)] sc pos) 0 (.ref it) (.ref D) (compEnvC sc cl C X.env)) (compPost (model X.prog X.w) X.A X.xe use Q' (.ref D) C) s3:=by
  rintro s3 rfl
  refine EL (λn s'=>∃i ys bP H' its k,Inv XB [] bP H' s'/\tn i s'.heap/\(∀b∈fp,H' b=Y)/\H' D=Y/\s'.heap.get? D=Z {cls:=.type "list",data:=.seq (its:List B).toArray k}/\Vals ys its/\W i n ys bP H') ?_ m0
   (0,[],mL cap σ,H2,[],0,?_,T.keep _ _ _ aM λb P o e=>old b o e,λb P=>(f2 b P).1,nD,fB,.nil,w0)
  ·rintro n s4 ⟨i,ys,aE,H4,its,k,I4,b0,cz,d4,o4,v4,w4⟩
   let a5:∀{H':Hp}{pl:List (J×Obj)},(∀b∈fp,H' b=Y)->(∀q∈pl,q.1 ∉ fp)->∀b∈fp,sS XB pl H' b:=λ{H' pl} hn cM b P=>by
    refine(hn b P,?_,?_,.inl (by rw[bt];exact P),λx c e=>?_,λq hq=>?_)
    ·rw[eL];have:=a6 b P;exact mq (by omega)
    ·rw[aS];intro z;obtain z|z:=kf.mp (I2.vw b z)
     ·exact(f2 b P).2.1 z
     ·exact(f2 b P).2.2.1 z
    ·rw[aH]at e;exact(f2 b P).2.2.2.2.1 x c (ze x c e)
    ·rw[a7]at hq;intro z;exact cM q (by simpa using hq) (z▸P)
   let pD:∀q ∈ [(Prod.mk D ({cls:=.type "list",data:=.seq its.toArray k}:Obj))],q.1 ∉ fp:=λq hq=>by
    let e:q=_:=ej.mp hq;subst e;intro z
    have:=a6 _ z
    omega
   let bw:Inv XB [(D,{cls:=.type "list",data:=.seq its.toArray k})] aE H4 s4:=I4.l9 λq hq=>by
    let e:q=_:=ej.mp hq;subst e;refine(o4,d4,?_,cG _ (mW _),λv=>by simp)
    rw[eL];exact aQ
   let VF:=bw;rw[<- eA,<- eP,<- eW];obtain⟨stop,hz,qn⟩|⟨go,hz,N,hN,step⟩:=turn i n ys aE H4 w4
   ·rw[<- eP,<- eW,<- eK]at T;refine VG (T.done XB U U U cE i _ s4 aE H4 (λ_ _=>False) bw (a5 cz pD) b0 stop) (λr s5 (hr,I5)=>?_) λ_ _ z=>z
    subst hr;rw[eP,eW,eA];let(o5,n5,_):=I5.pin (D,{cls:=.type "list",data:=.seq its.toArray k}) (p6 _ (ej.mpr U));let u5:Un (frs X.stack) fp H2 H4 s2.heap s5.heap:=by
     let z:=I5.base;rw[aS,bt,eH,eS]at z;exact z
    let cI:∀b o,s2.heap.get? b=Z o->@Ne J b D:=λb o e=>mq (by have:=rK e;omega)
    let ne5:∀b u,H4 b=Z u->b≠D:=λb u e z=>by rw[z,d4]at e;cases e
    let cN:HOk X.prog X.w H4 s5.heap:=by
     let z:=I5.hok;rw[eP,eW]at z;exact z
    let Vb:=fin D C;let(mC,cx,_):=id I5.loc;rw[eL]at cx;let IX:Inv X gV σ (upd H4 D (.lst ys)) s5:=by
     refine I2.Tz (s':=s5) (ch:=fp) ?_ (u5.keep,u5.slot,λb o e n hx=>?_,u5.there,λb xs e=>?_,λb o u e=>?_,λb ps e=>?_) ?_ I5.bare λb P=>((f2 b P).2.2.2.1,(f2 b P).2.1,(f2 b P).2.2.2.2.1,(f2 b P).2.2.2.2.2)
     ·let z:=I5.os;rw[eS]at z;exact z
     ·rw[ak (cI b o e)];exact u5.free b o e n hx
     ·let z:=u5.qj b xs e;rw[ak (ne5 b _ z)];exact z
     ·let z:=u5.k9 b o u e;rw[ak (ne5 b _ z)];exact z
     ·let(more,z):=u5.qm b ps e;exact(more,by rw[ak (ne5 b _ z)];exact z)
     ·intro a o e;by_cases ha:a=D
      ·subst ha;rw[ax]at e;cases e;exact(hz,its,k,v4,o5)
      ·rw[ak ha]at e;exact(cN a o e).cA (λ_ _ _ q=>q) (λb q=>by rw[ak (ne5 b _ q)];exact q) λb xs q=>by rw[ak (ne5 b _ q)];exact q
    refine Vb mC _ s5 IX ?_ cx (qn D d4);let c3:H4 C=none:=by
     let z:=I5.free;rw[eL]at z;exact z
    refine(by rw[ak (Ne.symm aQ)];exact c3,?_,?_,.inr ?_,λx c e=>?_,λq hq=>?_)
    ·have:@LT.lt Nat _ X.env.locals s2.heap.objs.size:=I2.lt
     exact SG (by omega)
    ·exact I2.SF (by rw[aD];omega)
    ·have:=I2.sz;omega
    ·let(v,z):=I2.cell x c e
     have:=C4 z
     exact mq (by omega)
    ·have:=rK (I2.pin q hq).1
     exact mq (by omega)
   ·let T':=T;rw[<- eP,<- eW,<- eK]at T';refine VG (T'.item XB U U U cE i _ s4 aE H4 (λ_ _=>False) bw (a5 cz pD) b0 go) (λr s5 (u,hr,h5)=>?_) λ_ _ z=>z
    subst hr;refine thn h5 λ_ s6 av=>?_
    let(x,H6,I6,r6,y6,a3,c4):=av;let c5:=I6.pinned (a5 c4 pD) (T.obj _ _ a3);let(cT,cL,cV):=ct;rw[<- eE];let cc:=cT _ s6 aE H6 x u _ c5 r6 (step x H6 y6);rw[eX]at cc;refine thn cc λ_ s7 av=>?_
    let(aI,H7,I7,q7):=av;let b7:=cL _ s7 aI H7 _ I7 q7;rw[eX]at b7;refine thn b7 λb s8 av=>?_
    let(H8,I8,q8):=av;let back:∀{bD:St}{H9:Hp}{s9:ϋ},Inv XB ([(D,{cls:=.type "list",data:=.seq its.toArray k})]++rg fp s6.heap) bD H9 s9->tn (i+1) s9.heap/\(∀b∈fp,H9 b=Y)/\H9 D=Y/\s9.heap.get? D=Z {cls:=.type "list",data:=.seq its.toArray k}:=λ{bD H9 s9} I9=>by
     let z:=I9.pin (D,{cls:=.type "list",data:=.seq its.toArray k}) (p6 _ (qr _ (ej.mpr U)));refine(T.keep _ _ _ a3 λb P o e=>(I9.pin (b,o) (p6 _ (p6 _ (gi P e)))).1,λb P=>?_,z.2.1,z.1)
     let(o,e,_):=T.obj _ _ a3 b P;exact(I9.pin (b,o) (p6 _ (p6 _ (gi P e)))).2.1
    cases b with
    |false =>
     rw[if_neg qf]at q8 ⊢;let(m',hm,w8):=hN _ _ _ q8;let(t1,t2,t3,t4):=back I8;exact(m',hm,i+1,ys,aI,H8,its,k,I8.l9 (λq hq=>nomatch hq),t1,t2,t3,t4,v4,w8)
    |true =>
     rw[if_pos rfl]at q8 ⊢;let cq:=cV _ s8 aI H8 _ I8 q8;rw[eX]at cq;refine thn cq λyv s9 av=>?_
     let(y,H9,I9,r9,n9):=av;let(m',hm,w9):=hN _ _ _ n9;let(t1,t2,t3,t4):=back I9;let hsz:its.toArray.size<=mV:=by
      let e:=v4.length;let e2:its.toArray.size=its.length:=by simp
      omega
     refine append_at (hsz:=hsz) t4 λh' cb c1=>?_
     ·refine(m',hm,i+1,ys ++ [y],aI,H9,its ++ [yv],k+1,?_,T.keep _ _ _ t1 λb P o e=>cb.extBut b o (mq (a6 b P)) e,t2,t3,?_,v4.append (.cons r9 .nil),w9)
      ·refine(I9.l9 (pins':=[]) (λq hq=>nomatch hq)).turned (t':=s9.toks) (it:=D) (λb o P e=>cb.extBut b o P e) t3 ?_ (.inr ?_) (λx c e=>?_) λq hq=>?_
       ·rw[eL];exact aQ
       ·rw[eS];omega
       ·rw[aH]at e;exact mq (Vh x c e)
       ·rw[a7]at hq;exact nomatch hq
      ·rw[c1];simp
  ·
   refine(b6,by rw[eS],I2.bare,by rw[aS,bt,eH,eS];exact Un.kept old,(_,by rw[eL];exact MI,λj x v h1 h2 h3=>?_),λx c e=>?_,?_,λx c e=>?_,λq hq=>?_,by rw[eP,eW];exact I2.hok.kept old,by rw[eN];exact uc.len)
   ·rw[eN]at h1;let(i,g1,g2,g3,g4):=uc.at h1 h2;let(m,hn,hl):=I2.loc;let hv:Vis X.env.scope x:=by
     obtain z|z:=g4
     ·exact .inr (.inl z)
     ·exact .inr (.inr z)
    let(u,r,l):=hl i x v g1 g2 hv;refine(u,r,.inr (?_,?_))
    ·rw[eE];exact(lV g3).symm
    ·obtain⟨hk,_⟩|⟨_,c,e,z⟩:=l
     ·obtain y|y:=g4
      ·rw[y]at hk;cases hk
      ·rw[y]at hk;cases hk
     ·let(c',e'):=Ta x (PySem.mem_of_lookup g3)
      have:=ze x c' e'
      rw[e]at this;cases this;let(o,ho,hd):=z;exact(c,by rw[aH];exact e',o,old c o ho,hd)
   ·rw[aH]at e;let(v,o,ho,hd):=I2.cell x c (ze x c e);exact(v,o,old c o ho,hd)
   ·rw[eL];exact I2.hok.fresh (by rw[aD];omega)
   ·rw[aH]at e;exact I2.gx x c (ze x c e)
   ·rw[a7]at hq;exact nomatch hq
 exact codeAny_compStart_list (loop _ U) (T.self X.A 0 _ _ _ (T.keep _ _ _ aM λb P o e=>old b o e) (loop _ U))
def CL(h:(sc.names.all λy=>y.2 != .free ||(X.env.kindOf y.1==Z .cell||X.env.kindOf y.1==Z .free))=O):
  ∀y∈sc.names,y.2=.free->X.env.kindOf y.1=Z .cell\/X.env.kindOf y.1=Z .free:=λy g e=>by
 let z:=Fq.mp h y g;rw[e]at z;simpa using z
def Co{pos:Pos}
  (hc:X.calm=O) (hi:PI X tg iter wi) (P:mY X sc N' cap)
  (K:∀cl C s₂ H₂ fp,PG (blk X N' sc cl C s₂ H₂ fp) tg g/\PTs (blk X N' sc cl C s₂ H₂ fp) ifs tst/\PE (blk X N' sc cl C s₂ H₂ fp) elt te)
  (iw:sc.kind=.function:=by rfl) (gq:∀y∈sc.names,y.2 ≠ .cell:=by decide) (iT:∀y∈sc.names,y.2=.local->sc.names.lookup y.1=Z .local:=by decide)
  (V:(sc.names.all λy=>y.2 != .free ||(X.env.kindOf y.1==Z .cell||X.env.kindOf y.1==Z .free))=true:=by rfl)
  (hs:∀x,foldedSetIterable iter X.env x=pure x:=by intro _;rfl):PE X (.ListComp elt [(tg,iter,ifs,0)] sc pos) (uy cap wi g tst te):=by
 intro gV s σ H Q I h;exact zu (use:=Y) hc hi iw gq iT (CL V) P K I h (λD C m H' s' I' f' hn q=>((m,hn,λh' z=>(.ref D,H',(I'.turned (t':=s'.toks) (it:=C) (λb o K e=>z.extBut b o K e) f'.1 f'.2.1.symm.symm f'.2.2.2.1 f'.2.2.2.2.1 f'.2.2.2.2.2),U,q)))) hs
variable{dG:Pos}
def Cj
  (hN:X.N.Nodup) (V:X.N[i]?=Z y) (hy:Loc X.env.scope y)
  (hc:X.calm=O) (hi:PI X tg iter wi) (uc:mY X sc N' cap)
  (K:∀cl C s₂ H₂ fp,PG (blk X N' sc cl C s₂ H₂ fp) tg g/\PTs (blk X N' sc cl C s₂ H₂ fp) ifs tst/\PE (blk X N' sc cl C s₂ H₂ fp) elt te)
  (P:swapsWith (.ListComp elt [(tg,iter,ifs,0)] sc pos) (Z (.Name y py)) dG.line X.env=pure true:=by rfl)
  (hf:AT X y:=by first|exact .inl rfl|exact .inr rfl|assumption)
  (iw:sc.kind=.function:=by rfl) (gq:∀y∈sc.names,y.2 ≠ .cell:=by decide) (iT:∀y∈sc.names,y.2=.local->sc.names.lookup y.1=Z .local:=by decide)
  (jf:(sc.names.all λy=>y.2 != .free ||(X.env.kindOf y.1==Z .cell||X.env.kindOf y.1==Z .free))=true:=by rfl)
  (hs:∀x,foldedSetIterable iter X.env x=pure x:=by intro _;rfl):PS X (.Assign [.Name y py] (.ListComp elt [(tg,iter,ifs,0)] sc pos) dG) (jj (uy cap wi g tst te) (gw i)):=by
 intro gV s σ H Dn I h;rw[exec_Assign_Name_used _ _ _ _ P];refine cO (wpAny_standAt (cO ?_));refine cO (VG (zu hc hi iw gq iT (CL jf) uc K I h (λD C m H' s' I' f' hn q=>?_) hs)
  (λ_ s' hq=>k4 (k4 hq)) λ_ _ e=>e)
 let(o,es,ep,ho,hd,hr):=id hn;let I2:=I'.pinned (λb K=>by rw[ej.mp K];exact f') λb K=>by
  rw[ej.mp K];exact(o,ho,λv=>by rw[hd];simp)
 refine wpAny_assign_Name (hV I2 hN V hy (v:=.ref D) U (λs2 I3=>?_) hf)
 let z:=(I3.pin (C,o) (p6 _ (p6 _ (gi (ej.mpr U) ho)))).1;refine(m,(o,es,ep,z,hd,hr),λh' Q=>(_,H',?_,q))
 exact I3.lJ.turned (λb o K e=>Q.extBut b o K e) f'.1 f'.2.1 f'.2.2.2.1 f'.2.2.2.2.1 f'.2.2.2.2.2
variable{a:J}
section
theorem uZ{K:BT}{xs:List V}{g:TG}{σ:St}{Q:VK}(Pv:Nat->List V->St->Hp->Prop)(h0:Pv 0 [] σ H)
  (hl:∀i ys σ H,i<=xs.length->Pv i ys σ H->SqL K H a xs/\ys.length<mV)
  (hs:∀i x ys σ H,xs[i]?=Z x->Pv i ys σ H->g x σ H λz H3=>tst z H3 λb H4=>if b=O then te z H4 λy H5=>Pv (i+1) (ys ++ [y]) z H5 else Pv (i+1) ys z H4)
  (hd:∀ys σ H,Pv xs.length ys σ H->∀D,H D=Y->Q (.ref D) (upd H D (.lst ys))):
  N7 g tst te σ Q (Itl K a) H:=by
 refine(λi m ys σ H=>m=xs.length - i/\i<=xs.length/\Pv i ys σ H,(xs.length,by simp,Jf _,h0),?_)
 rintro i m ys σ H ⟨rfl,hi,p⟩
 let(q,hz):=hl i ys σ H hi p;by_cases P:i<xs.length
 ·refine .inr ((xs,xs[i],q,by simp[P]),hz,Pv (i+1),λaD av H' p'=>(xs.length - (i+1),by lia,U,P,p'),λx H' y=>?_)
  let(e,y):=y;subst e;exact hs i x ys σ _ (y xs q) p
 ·let e:i=xs.length:=by omega
  subst e;exact .inl ((xs,q,mW _),P1 hz,hd ys σ H p)
inductive RB(x:V)(lo:Option Int)(hi:Option Int)(H:Hp)(Q:VK):Prop
 |mk(z)(h1:x=.str z)(h2:z.length<=mV)(h3:Q (.str (Txt.slice z lo hi)) H)
def Oq:SlR X RB:=by
 intro gV s σ H x v vl vu lo hi sl Q I V hs pl pu h;let(z,U,g,q):=h;let(t,U):=V;refine("str",_,PySem.F.slot_str_getitem.lookup,typeIs_str s z t,?_);let(o,h1,h2,h3):=hs;let fin:∀y t' k,y=Txt.slice z lo hi->EP X gV σ Q (.str y t') {s with toks:=k}:=λy t' k e=>by subst e;exact(.str _,H,I.tok k,(_,U),q)
 cases pl with
 |none =>
  cases pu with
  |none=>exact wpAny_getItem_str_slice (l:=Y) (u:=Y) (st:=Y) (o,h1,h2,h3) U (post_val_or_str (u4 (Txt.slice_le z _ _) g,λt' k=>fin _ t' k U))
  |int j K=>exact wpAny_getItem_str_slice (l:=Y) (u:=Z (j,K)) (st:=Y) (o,h1,h2,h3) U (post_val_or_str (u4 (Txt.slice_le z _ _) g,λt' k=>fin _ t' k U))
 |int i P =>
  cases pu with
  |none=>exact wpAny_getItem_str_slice (l:=Z (i,P)) (u:=Y) (st:=Y) (o,h1,h2,h3) U (post_val_or_str (u4 (Txt.slice_le z _ _) g,λt' k=>fin _ t' k U))
  |int j K=>exact wpAny_getItem_str_slice (l:=Z (i,P)) (u:=Z (j,K)) (st:=Y) (o,h1,h2,h3) U (post_val_or_str (u4 (Txt.slice_le z _ _) g,λt' k=>fin _ t' k U))
def Ad:∀{us:List B},Vals (ys.map V.str) us->StrsAre us ys:=by
 induction ys with
 |nil=>intro us r;cases r;exact .nil
 |cons n ns z =>
  intro us r;cases r with
  |cons q g =>
   let(t,e):=q;subst e;exact .cons n t (z g)
inductive rJoin(K:BT)(x:V)(xs:List V)(H:Hp)(Q:VK):Prop
 |mk(sep l ys)(h1:x=.str sep)(h2:xs=[.ref l])(h3:SqL K H l (ys.map V.str))(h4:(ys.map (·.length)).sum+ys.length*sep.length<=16777216)(h5:Q (.str (Txt.join sep ys)) H)
def Mc:MtR X "str.join" (rJoin X.K):=by
 intro gV s σ H x xs v us Q I g rs h;let(sep,l,ys,U,U,hl,hw,q):=h;let(t,U):=g;let(u,U,ru):=Vals.one rs;cases ru;let(its,r,pl,z):=I.list hl;exact join_list pl.isList (by simpa using Ad r) hw λt' k=>(.str _,H,I.tok k,(_,U),q)
def JI{bs:List Bool}:∀{us:List B}{i:Nat}{v:B},Vals (bs.map V.bl) us->us[i]?=Z v->∃b,bs[i]?=Z b/\v=.bool b:=by
 induction bs with
 |nil=>intro us i v r h;cases r;simp at h
 |cons b bs z =>
  intro us i v r h;cases r with
  |cons q g =>
   cases i with
   |zero =>
    simp only[List.getElem?_cons_zero,Option.some.injEq]at h;subst h;exact(b,by simp,q)
   |succ i =>
    let(c,h1,h2):=z g (by simpa using h)
    exact(c,by simpa using h1,h2)
def all_range(bs:List Bool):(E3 bs.length).all (λi=>bs.getD i ϊ)=bs.all id:=by
 let e:(E3 bs.length).map (λi=>bs.getD i ϊ)=bs:=by
  apply WC
  ·simp
  ·intro i h1 h2;simp at h1;simp[h1]
 conv=>rhs;rw[<- e]
 rw[WU];rfl
def IU(P:X.calm=O):cF X (.builtin "all") (λxs H Q=>∃(l:J)(bs:List Bool),xs=[.ref l]/\SqL X.K H l (bs.map V.bl)/\Q (.bl (bs.all id)) H):=by
 intro gV s σ H xs us Q I r h;let(l,bs,U,hl,q):=h;let(u,U,ru):=vals1 r;cases ru;let(its,rv,pl,hz):=I.list hl;let g:l<s.heap.objs.size:=by let(_,e,_):=pl.isList;exact kE e
 let hlen:its.toArray.size=bs.length:=by
  let e:=rv.length;rw[dz]at e;simp[e]
 refine call_all_walk (wpAny_pyIter_list pl.isList ((s.heap.objs.size,[s.heap.objs.size,l],[s.heap.objs.size],its.toArray.size,_,_,λi=>bs.getD i ϊ,U,Walks.list (show X.A.in1.handled=Y from I.ok.hd P) s.heap.objs.size l (sR g) its.toArray,((_,pB _ U,U,U),pl.isList.push _),?_,λh' tk z=>?_)))
 ·intro i v s' Q' E' hP hq;let(b,h1,U):=JI rv (by simpa using hP)
  let e:bs.getD i ϊ=b:=by simp[h1]
  exact wpAny_truthy_bool (e▸hq)
 ·refine(.bl _,H,I.kept λb o e=>z b o (by simpa using sR (kE e)) (ja _ e),U,?_)
  rw[hlen,all_range];exact q
theorem IT:cF X (.builtin "isinstance") (λxs H Q=>∃x T t b,xs=[x,.ty T]/\kA X.K H x t/\W.kitOne X.K t (.type T)=Z b/\Q (.bl b) H):=by
 intro gV s σ H xs us Q I r h;let(x,T,t,b,U,ty,e,q):=h;let(u,z,U,ru,g):=vals2 r;cases g;exact Ez I ru ty e λtk=>(.bl b,H,I.tok tk,U,q)
end
variable{I:J}{fp:List J}{wr:List J}{n:Nat}
section
variable{w:Cl}{E:B->ϋ->Prop}{s:ϋ}
def Ej:typeLookup (.type "list_reverseiterator") "__len__"=pure none:=by kernel_rfl
def Ig:typeLookup (.type "list_reverseiterator") "__length_hint__"=pure (Z (.builtin "list_reverseiterator.__length_hint__")):=by kernel_rfl
theorem Bk{R:Result->ϋ->Prop}{P:Nat->B->Prop}{St:Nat->Do->Prop}(W:Walks prog w A.in1 I fp wr n P St)(hT:∀i (s:ϋ),St i s.heap->s.TypeIs (.ref I) "list_reverseiterator")(S:J)(res:B)(c₀:Nat)(q:St 0 s.heap)(Q:S ∉ fp)(hI:I∈fp)
  (hS:s.heap.get? S=Z {cls:=.type "list",data:=.seq #[] c₀})
  (hR:∀s' V z,Moved (S::wr) (λg g'=>g'=g) s s'->s'.heap.get? S=Z {cls:=.type "list",dict:=Y,data:=.seq V z,slots:=#[]}->ItemsOf P V n->R (.ok (.ret res)) s') (hn:n<=mV):
  wpAny (model prog w) A.in1 (Builtin.List.listExtendWith (.ref S) (.ref I) res)
   (λfin s'=>match fin with|.done f=>R (.ok f) s' |.again z=>z.quiet=O/\codeAny (model prog w) A z R s') (λe s'=>R (.error e) s') s:=by
 let aD:S≠I:=λe=>Q (e▸hI)
 let h1:Builtin.List.listSameRef (.ref S) (.ref I)=false:=by simp[Builtin.List.listSameRef,aD]
 refine cO (Vx (hT 0 _ q) ?_);rw[if_neg (by rw[h1];decide)]
 refine cO (W.self 0 _ _ _ q (cO (E7 ?_)));refine cO (Rv (hT 0 _ q) Ej ?_);refine cO (Rv (hT 0 _ q) Ig ?_)
 generalize K:("list_reverseiterator.__length_hint__")=av
 wp_delta
 rw[show splitId av=Z ("list_reverseiterator","__length_hint__")from by subst K;decide +kernel]
 subst K;refine cO (VM (b:=O) (hT 0 _ q) (by kernel_rfl) ?_)
 refine k4 ?_;exact k4 (QY F.plain_extend_loop _,codeAny_extend_loopS W.toS hn _ Q _ n 0 _ _ _ U (Jf _) q hS (ItemsOf.nil P) λs' V z hm aE fB=>hR s' V z hm aE fB)
theorem HY{R:Result->ϋ->Prop}{P:Nat->B->Prop}{St:Nat->Do->Prop}(W:Walks prog w A.in1 I fp wr n P St)(hT:∀i (s:ϋ),St i s.heap->s.TypeIs (.ref I) "list_reverseiterator")(S:J)(av:St 0 s.heap)(Q:S ∉ fp)(hI:I∈fp)
  (hS:s.heap.get? S=Z {cls:=.type "list",data:=.seq #[]})
  (hR:∀s' V z,Moved (S::wr) (λg g'=>g'=g) s s'->s'.heap.get? S=Z {cls:=.type "list",dict:=Y,data:=.seq V z,slots:=#[]}->ItemsOf P V n->R (.ok (.ret .none)) s') (hn:n<=mV):
  wpAny (model prog w) A.in1 (Builtin.«list.__init__» ([.ref S,.ref I],[]))
   (λfin s'=>match fin with|.done f=>R (.ok f) s' |.again z=>z.quiet=O/\codeAny (model prog w) A z R s') (λe s'=>R (.error e) s') s:=by
 refine cO ?_;refine cO (wpAny_seqItems hS U (k4 ?_));refine cO (TH hS U ?_);let q:=BW (QH (λ_=>(#[]))) hS U
 let oth:∀b o,b≠S->s.heap.get? b=Z o->(s.heap.update S (QH (λ_=>(#[])))).get? b=Z o :=
  λb o K e=>(zK _ _ (Ne.symm K)).trans e
 refine Bk (hn:=hn) W hT S .none _ (W.frame 0 s.heap _ av λb K o e=>oth b o (λh=>Q (h▸K)) e) Q hI q λs' V z hm aD fB=>?_
 exact hR s' V z (Moved.trans (λ_ _ _ h1 h2=>h2.trans h1) ((Moved.refl (G:=λg g'=>g'=g) (λ_=>rfl)).then_heap (mW _) λb o K e=>oth b o (λh=>K (by rw[h];exact g5)) e) hm) aD fB
theorem ug{P:Nat->B->Prop}{St:Nat->Do->Prop}(W:Walks prog w A.in1.in1 I fp wr n P St)(hT:∀i (s:ϋ),St i s.heap->s.TypeIs (.ref I) "list_reverseiterator")(K:St 0 s.heap)(V:∀b∈fp,b<s.heap.objs.size)(hI:I∈fp)
  (hQ:∀s' z c',Moved (s.heap.objs.size::wr) (λg g'=>g'=g) {s with heap:=s.heap.push {cls:=.type "list",data:=.seq #[]}} s' ->
   s'.heap.get? s.heap.objs.size=Z {cls:=.type "list",dict:=Y,data:=.seq z c',slots:=#[]}->ItemsOf P z n->Q (.ref s.heap.objs.size) s') (hn:n<=mV):
  wpAny (model prog w) A (call (.type "list") [.ref I]) Q E s:=by
 let av:=λhm=>V3 _ (V _ hm)
 refine callType_codes (Q₁:=λobj q=>obj=.ref s.heap.objs.size/\q={s with heap:=s.heap.push {cls:=.type "list",data:=.seq #[]}}) F.called_list (F.typeCall_list_1 _) F.entry_list_init
  (code_list_new _ (U,U)) λobj q h₁=>?_
 let(U,U):=h₁;let hS:(s.heap.push {cls:=.type "list",data:=.seq #[]}).get? s.heap.objs.size=Z {cls:=.type "list",data:=.seq #[]}:=pB _ U;exact((_,hS,U),F.args_list_init_2 _ _,HY (hn:=hn) W hT _ (W.frame 0 s.heap _ K λb _ o e=>ja _ e) av hI hS λs' z c' hm aD fB=>(U,hQ s' z c' hm aD fB))
end
def qy(K:BT)(te:TE):TE:=λσ H Q=>te σ H λx H1=>∃l ys,x=.ref l/\SqL K H1 l ys/\∀q,H1 q=Y->Q (.ref q) (upd H1 q (.lst ys.reverse))
def xV{its:Array B}(r:Vals ys its.toList)(h:ItemsOf (λi v=>its[its.size - 1 - i]?=Z v) acc its.size):Vals ys.reverse acc.toList:=by
 let e:acc.toList=its.toList.reverse:=by
  apply XQ
  intro i;by_cases hi:i<its.size
  ·let h1:i<acc.size:=by rw[h.1];exact hi
   let h2:=h.2 i acc[i] (by simp[h1])
   rw[List.getElem?_reverse (by simpa using hi)]
   simp only[V5,Xj];rw[h2];simp[h1]
  ·let h1:¬ i<acc.size:=by rw[h.1];exact hi
   rw[Vt (by simpa using h1),Vt (by simpa using hi)]
 rw[e];exact Vals.reverse r
variable{e:Ev}
def rC{p1 p2 cq pos:Pos}(hc:X.calm=O)(aI:Gl X "list")(aE:X.mg "list"=Y)(aH:Gl X "reversed")(aD:X.mg "reversed"=Y)(he:PE X e te)
  (g:AD X e:=by rfl) (av:kz [.Call (.Name "reversed" p2) [e] [] cq] X.env=[(ϊ,eval (.Call (.Name "reversed" p2) [e] [] cq) X.env)]:=by rfl):
  PE X (.Call (.Name "list" p1) [.Call (.Name "reversed" p2) [e] [] cq] [] pos) (qy X.K te):=by
 intro gV s σ H Q I h;refine QR (dM I aI aE boot_list (PyProof.Rows.callWith_type1 ?_ av U));show wpAny _ _ (spliced ((ϊ,eval (.Call (.Name "reversed" p2) [e] [] cq) X.env)::backTo pos (kz [] X.env))) _ _ s;refine Calls.spliced_cons (QR (dM I aH aD boot_reversed (PyProof.Rows.callWith_type1 ?_ g U)));rw[g];refine Calls.spliced_cons (thn (he gV s σ H _ I h) λu s1 aQ=>?_)
 let(x,H1,I1,r1,l,ys,ex,hl,q):=aQ;subst ex;cases r1;refine Calls.spliced_nil ?_;let(its,rv,pl,hz):=I1.list hl;let P:l<s1.heap.objs.size:=by let(_,e,_):=pl.isList;exact kE e
 refine call_reversed_list pl.isList (Calls.spliced_nil ?_);let W:=Walks.listRev (prog:=X.prog) (w:=X.w) (A:=X.A.in1.in1) (I.ok.hd hc) s1.heap.objs.size l (sR P) its.toArray;refine ug W (λi s' st=>st.2.1.typeIs) (Jf _,(_,pB _ U,U,by simp[revObj]),pl.isList.push _) (λb V=>?_) (by simp) (λs' eV c' hm aM fB=>?_) ?_
 ·rw[zM];obtain z|z:=kf.mp V
  ·rw[z];exact VA _
  ·rw[ej.mp z];exact V2 P
 ·rw[Moved.eq_with hm];let kp:=λb o e=>hm.heap b o (λz=>by
   let V:@LT.lt Nat _ b s1.heap.objs.size:=kE e;obtain z|z:=kf.mp z
   ·rw[z]at V;simp only[zM]at V
    lia
   ·rw[ej.mp z]at V
    lia) (ja _ (ja _ e))
  let hv:=xV (by simpa using rv) fB
  let hf:H1 ((s1.heap.push (revObj l ((its.toArray.size) - 1))).objs.size)=none:=I1.hok.fresh (by rw[zM];omega)
  refine(.ref _,_,I1.laid (o:=.lst ys.reverse) kp (by rw[zM];omega) (by rw[UR];exact hz,eV.toList,c',hv,by simpa using aM),U,q _ hf)
 ·let e:=rv.length;rw[p5]
  lia
variable{x:Str}
section
def Hc(hg:Gl X x)(hm:∃t,X.mg x=Z (.int y t))(hd:AS x:=by decide):PE X (.Name x pos) (tC (.int y)):=by
 let(t,e):=hm;exact Lv hg e (t,U) hd
def Jv(_ j:Int):Prop:=0<j/\j<18446744073709551616
def yH:OpR X (binaryOp .FloorDiv) (rI Jv λi j=>.int (i / j)):=opI λi j _ _ _ _ _ g q=>by
 let(h1,h2):=g;let e:i.fdiv j=i / j:=Int.fdiv_eq_ediv_of_nonneg _ (by lia)
 refine floordiv_int (by lia) (by rw[e];exact q) (.inl (PyProof.noPylong_of_log2 ?_))
 let h3:j.natAbs<2 ^ 64:=by omega
 let h4:j.natAbs≠0:=by lia
 exact WT ((Nat.log2_lt h4).mpr h3) (by decide)
end
def dk(s n:Int)(l:J):List (Key×V):=[(.inr "seed",.int s),(.inr "number",.int n),(.inr "left",.ref l)]
variable{l:J}
def EF{s n:Int}:fN (dk s n l) (.inr "number":Key)=Z (.int n):=by kernel_rfl
def MU{s n:Int}:fN (dk s n l) (.inr "left":Key)=Z (.ref l):=by kernel_rfl
variable{m:Int}
def AF{s n:Int}:putK (dk s n l) (.inr "number":Key) (.int m)=dk s m l:=by kernel_rfl
def GP{s n:Int}:putK (dk s n l) (.inr "seed":Key) (.int m)=dk m n l:=by kernel_rfl
structure cW(H:Hp)(d l:J)(s n:Int)(ls:List Int):Prop where
 hd:H d=Z (.dK (dk s n l))
 hl:H l=Z (.lst (ls.map V.int))
 s0:0<=s
 s1:s<2147483647
 n0:0<=n
 l0:∀x∈ls,0<=x
def mX(H:Hp)(d l:J):Prop:=∃s n ls,cW H d l s n ls
def Kp(d l:J)(H H':Hp):Prop:=∀b o,H b=Z o->b≠d->b≠l->H' b=Z o
variable{d:J}
def Kp.refl:Kp d l H H:=λ_ _ h _ _=>h
def cW.ne{s n:Int}(D:cW H d l s n ls):d≠l:=ij D.hd D.hl (by intro z;cases z)
def cW.num{s n:Int}(D:cW H d l s n ls)(h:0<=m):cW (upd H d (.dK (putK (dk s n l) (.inr "number":Key) (.int m)))) d l s m ls :=
 (by rw[ax,AF],by rw[ak D.ne.symm];exact D.hl,D.s0,D.s1,h,D.l0)
def cW.Ub{s n:Int}(D:cW H d l s n ls)(h:0<=m)(h2:m<2147483647):cW (upd H d (.dK (putK (dk s n l) (.inr "seed":Key) (.int m)))) d l m n ls :=
 (by rw[ax,GP],by rw[ak D.ne.symm];exact D.hl,h,h2,D.n0,D.l0)
def cW.list{s n:Int}(D:cW H d l s n ls)(h:∀x∈ls',0<=x):cW (upd H l (.lst (ls'.map V.int))) d l s n ls' :=
 (by rw[ak D.ne];exact D.hd,ax,D.s0,D.s1,D.n0,h)
variable{H1:Hp}
def Kp.Ob(a:Kp d l H H1):Kp d l H (upd H1 d o):=λc u h h1 h2=>by rw[ak h1];exact a c u h h1 h2
def Kp.T7(a:Kp d l H H1):Kp d l H (upd H1 l o):=λc u h h1 h2=>by rw[ak h2];exact a c u h h1 h2
def lu.new(a:lu H H1)(hp:H1 p=Y):lu H (upd H1 p o):=λc u h=>by
 let z:=a c u h;rw[ak (bj z hp)];exact z
def mX.new(D:mX H d l)(hp:H p=Y):mX (upd H p o) d l:=by
 let(s,n,ls,D):=D;exact(s,n,ls,by rw[ak (bj D.hd hp)];exact D.hd,by rw[ak (bj D.hl hp)];exact D.hl,D.s0,D.s1,D.n0,D.l0)
inductive FD(vs:List V)(H:Hp)(Q:VK)(_:XK):Prop
 |mk(d l:J)(m:Int)(h1:vs=[.ref d,.int m])(h2:mX H d l)(h3:0<m)(h4:m<18446744073709551616)(h5:∀(r:Int)(H':Hp),0<=r->r<m->mX H' d l->Kp d l H H'->Q (.int r) H')
inductive Om(K:BT)(vs:List V)(H:Hp)(Q:VK)(_:XK):Prop
 |mk(a:J)(ns:List Int)(b:Int)(h1:vs=[.ref a,.int b])(h2:SqL K H a (ns.map V.int))(h3:ns.length<=63)(h4:0<=b)(h5:b<=63)(h6:∀(d l:J)(H':Hp),H d=Y->H l=Y->mX H' d l->lu H H'->Q (.ref d) H')
variable{D:Ends}
def Dz{tb:TS}{σ:St}(I:Nat->St->Hp->Prop){m:Nat}(h0:I m σ H)(q:∀m σ H,I m σ H->D.nx σ H)
  (hs:∀m σ H,I m σ H->D.nx σ H->c σ H λb H1=>if b=O then ∃N:St->Hp->Prop,(∀g H',N g H'->∃m',m'<m/\I m' g H')/\tb {D with nx:=N,ct:=N,bk:=D.nx} σ H1 else D.nx σ H1):vq c tb D σ H :=
 (I,(m,h0),λm σ H h=>hs m σ H h (q m σ H h))
def cW.Il{s n:Int}(D:cW H d l s n ls):hJ H d (.str "seed") (Z (.int s)):=by
 let z:=hJ.k (k:=(Sum.inr "seed")) D.hd;exact z
def cW.Tj{s n:Int}(D:cW H d l s n ls):hJ H d (.str "number") (Z (.int n)):=by
 let z:=hJ.k (k:=(Sum.inr "number")) D.hd;rw[EF]at z;exact z
def cW.NU{s n:Int}(D:cW H d l s n ls):hJ H d (.str "left") (Z (.ref l)):=by
 let z:=hJ.k (k:=(Sum.inr "left")) D.hd;rw[MU]at z;exact z
def cW.So{s n:Int}(D:cW H d l s n ls):sW H d (.str "number") (.int m) (upd H d (.dK (putK (dk s n l) (.inr "number":Key) (.int m)))) :=
 sW.k (k:=(Sum.inr "number")) D.hd (aF (by show 3<=1000;decide))
def cW.Sm{s n:Int}(D:cW H d l s n ls):sW H d (.str "seed") (.int m) (upd H d (.dK (putK (dk s n l) (.inr "seed":Key) (.int m)))) :=
 sW.k (k:=(Sum.inr "seed")) D.hd (aF (by show 3<=1000;decide))
def mod_lt{x:Int}(h:0<m):0<=x % m/\x % m<m:=(Int.emod_nonneg _ (by lia),Int.emod_lt_of_pos _ h)
end L2
namespace L2
def IP(ns:List Int)(lo hi:Option Int):∃cs:List Int,mJ (ns.map V.int) lo hi=cs.map V.int/\cs.length<=ns.length:=by
 refine((ns.drop (HT.sIx ns.length 0 lo)).take (HT.sIx ns.length ns.length hi - HT.sIx ns.length 0 lo),?_,?_)
 ·unfold mJ;rw[dz,<- W8,<- WI]
 ·rw[zL,VX];exact u4 (Xa _ _) (Xz _ _)
variable{ns:List Int}
def int_at{i:Nat}(h:(ns.map V.int)[i]?=Z x):∃z,x=.int z:=by
 rw[j5]at h;cases e:ns[i]? with
 |none=>rw[e]at h;cases h
 |some z=>rw[e]at h;exact(z,(Option.some.inj h).symm)
def ME{i:Nat}(h:(ns.map V.int)[i]?=Z x):∃z,x=.int z/\z∈ns:=by
 rw[j5]at h;cases e:ns[i]? with
 |none=>rw[e]at h;cases h
 |some z=>rw[e]at h;exact(z,(Option.some.inj h).symm,pA e)
end L2
namespace L2
open PySem
def Br{xs:List α}{i:Int}(h0:0<=i)(h1:i<xs.length):∃v,atI xs i=Z v/\v∈xs:=by
 obtain⟨n,rfl⟩:∃n:Nat,i=n:=(i.toNat,by lia)
 let h2:n<xs.length:=by lia
 refine(xs[n],?_,V9 h2);unfold atI ixN;simp[h2]
variable{n:Nat}
def bQ(h:n<=10000):n<=mV:=by
 have:(10000)<=mV:=by decide
 lia
end L2
namespace L2
end L2
namespace L2
open PySem PySem.Spec PyProof.Rows
def strOf:Ev->Option Str
 |.Constant (.str x) _ _=>Z x
 |_=>Y
def strsOf:List Ev->Option (List Str)
 |[]=>Z []
 |e::r=>(strOf e).bind λx=>(strsOf r).map (x :: ·)
variable{e:Ev}{x:Str}
def DF(h:strOf e=Z x):∃j p,e=.Constant (.str x) j p:=by
 cases e with
 |Constant c j p=>cases c with
  |str y=>cases h;exact(j,p,U)
  |_=>cases h
 |_=>cases h
variable{X:Cx}{es:List Ev}
def LA:∀{ws:List Str},strsOf es=Z ws->PA X es (λ_ H Q=>Q (ws.map V.str) H):=by
 induction es with
 |nil=>intro ws h;cases h;exact eu
 |cons e es q =>
  intro ws h;let(x,h1,h2):=Xb.mp h;let(g,h3,U):=j7.mp h2;let(j,p,U):=DF h1;exact bL dJ (q h3)
end L2
namespace L2
variable{H:Hp}
def MM{σ:St}{A Yb:St->Hp->Prop}(h:A (σ.set i (Z x)) H):gw i x σ H λg z=>BL g z λb q=>if b=O then A g q else Yb g q:=by
 show if O=O then A (σ.set i (Z x)) H else Yb (σ.set i (Z x)) H
 exact h
end L2
namespace L2
end L2
namespace L2
open PySem PySem.Spec PyProof.Rows
section
variable{X:Cx}
def jk(z:Str)(n:Nat):Str:=⟨(BA n z.cps).foldl (· ++ ·) #[]⟩
theorem ye(c:Array Nat):∀(n:Nat)(acc:Array Nat),((BA n c).foldl (· ++ ·) acc).size=acc.size+n*c.size
 | 0,acc=>by simp
 |n+1,acc=>by
  rw[List.replicate_succ,List.foldl_cons,ye c n,XR,Nat.add_mul]
  lia
def ik(z:Str)(n:Nat):(jk z n).length=n*z.length:=by
 let h:=ye z.cps n #[];simpa [jk,Str.length]using h
def AX:OpR X (binaryOp .Mult) (λx y H Q=>∃z n,x=.str z/\y=.int n/\0<=n/\n<=1000/\z.length<=1000/\Q (.str (jk z n.toNat)) H):=by
 intro gV s σ H x y v u Q I V K h;let(z,n,U,U,n0,n1,hz,q):=h;let(t,U):=V;let(t',U):=K;let fin:∀(y:Str)(t' k:Nat),y=jk z n.toNat->EP X gV σ Q (.str y t') {s with toks:=k}:=λy t' k e=>by subst e;exact(.str _,H,I.tok k,(_,U),q)
 let hp:=by
  let h1:(z.length:Int)*n<=1000*n:=WD (by omega) n0
  omega
 refine P.mul_str ?_ (λh1 _=>?_) (λh1 _=>?_) ?_
 ·rw[decide_eq_false (by omega),decide_eq_false (by omega)];rfl
 ·let h2:(1000:Int) <=(2 ^ 63 - 1) / n:=by
   rw[Int.le_ediv_iff_mul_le (by omega)]
   omega
  omega
 ·let h2:=by
   let e:((z.length*n.toNat:Nat):Int)=(z.length:Int)*n:=by rw[Xh,QU n0]
   omega
  have:=WL
  exact decide_eq_false (by omega)
 ·by_cases h1:n<1
  ·rw[if_pos h1];let e:n.toNat=0:=by omega
   exact(by decide,fin _ _ _ (by rw[e];rfl))
  ·rw[if_neg h1];by_cases h2:(n==1||z.length==0)=O
   ·rw[if_pos h2];refine fin z t s.toks ?_;let h3:=by simpa using h2
    obtain h3|h3:=h3
    ·subst h3;show z=⟨#[]++z.cps⟩;simp
    ·let e1:z.cps=#[]:=by simpa [Str.length]using h3
     let g:=ik z n.toNat;rw[h3]at g;let e3:=by simpa [Str.length]using g
     exact Str.ext' (by rw[e1,e3])
   ·rw[if_neg h2];refine(?_,fin _ _ _ U);let e:=ik z n.toNat;let h3:=by
     let e:((n.toNat*z.length:Nat):Int)=(z.length:Int)*n:=by rw[Xh,QU n0,Int.mul_comm]
     omega
    have:=WL
    show(jk z n.toNat).length<=mV;omega
end
end L2
namespace L2
open PySem
def rN(n:Nat):Nat:=97+n % 26
def dm(c1 c2:Str)(turn k:Nat):Str:=c1++⟨#[rN (turn+7*k)]⟩++c2++jk "x" (k % 2)++jk "y" (k / 26)
def sC(c1 c2:Str)(turn k:Nat):(dm c1 c2 turn k).cps.toList=c1.cps.toList++rN (turn+7*k) ::(c2.cps.toList++(jk "x" (k % 2)).cps.toList++(jk "y" (k / 26)).cps.toList):=by
 simp[dm,Str.cps_append]
def ve(c1 c2:Str)(turn k:Nat):(dm c1 c2 turn k).length=c1.length+1+c2.length+k % 2+k / 26:=by
 unfold dm;rw[Str.length_append,Str.length_append,Str.length_append,Str.length_append,ik,ik,show(⟨#[rN (turn+7*k)]⟩:Str).length=1 from U,show(Str.ofString "x").length=1 from by decide +kernel,show(Str.ofString "y").length=1 from by decide +kernel]
 lia
def TJ{x y:Nat}(h:a++x::b=a++y::c):x=y:=by
 have:=Wa h
 exact(List.cons.inj this).1
variable{j:Nat}
def Et(g:k<52)(q:j<52)(h:rN (turn+7*k)=rN (turn+7*j)):k % 26=j % 26:=by
 let h':∀a:Fin 26,∀b:Fin 26,∀c:Fin 26,(a.val+7*b.val) % 26=(a.val+7*c.val) % 26->b=c:=by decide +kernel
 let e:∀k,(turn % 26+7*(k % 26)) % 26=(turn+7*k) % 26:=λk=>by rw[Nat.add_mod,Nat.mod_mod,Nat.mul_mod_mod,<- Nat.add_mod]
 let h:(turn+7*k) % 26=(turn+7*j) % 26:=Nat.add_left_cancel h;rw[<- e,<- e j]at h;exact congrArg Fin.val (h' (turn % 26,XC _ (by decide)) (k % 26,XC _ (by decide)) (j % 26,XC _ (by decide)) h)
def B4:(jk "y" 1).cps.toList=[121]:=by decide +kernel
def yd(z:Str):(jk z 0).cps.toList=[]:=by simp[jk]
variable{c1:Str}{c2:Str}
def vm(V:k<52)(hj:j<52)(P:k≠j)(he:e=Str.empty\/e="q")(hf:f=Str.empty\/f="q"):dm c1 c2 turn k++e≠dm c1 c2 turn j++f:=by
 intro h;let K:=by
  have:=congrArg (λz=>z.cps.toList) h
  simpa [Str.cps_append]using this
 let hl:(dm c1 c2 turn k).length+e.length=(dm c1 c2 turn j).length+f.length:=by
  rw[<- Str.length_append,h,Str.length_append]
 rw[sC,sC]at K;simp only[Nj,Xc]at K;let hm:=Et V hj (TJ K);let h1:k % 2=j % 2:=by rw[<- XE k (by decide:2∣26),hm,XE j (by decide:2∣26)]
 let hd:(k / 26=0/\j / 26=1)\/(k / 26=1/\j / 26=0):=(by decide +kernel:∀a b:Fin 52,a≠b->a.val % 26=b.val % 26->(a.val / 26=0/\b.val / 26=1)\/(a.val / 26=1/\b.val / 26=0)) (k,V) (j,hj) (λz=>P (congrArg Fin.val z)) hm
 let tail:=(List.cons.inj (Wa K)).2;rw[h1]at tail;let g:=Wa (Wa tail);let eq:(Str.ofString "q").cps.toList=[113]:=by decide +kernel
 let ee:Str.empty.cps.toList=[]:=rfl;obtain⟨d1,Q⟩|⟨d1,Q⟩:=hd
 ·rw[d1,Q,yd,B4]at g;obtain rfl|rfl:=he
  ·rw[ee]at g;simp at g
  ·rw[eq]at g
   have:=congrArg List.head? g
   simp at this
 ·rw[d1,Q,yd,B4]at g;obtain rfl|rfl:=hf
  ·rw[ee]at g;simp at g
  ·rw[eq]at g
   have:=congrArg List.head? g
   simp at this
def nodup_range(h:∀i j,i<n->j<n->i≠j->f i≠f j):((E3 n).map f).Nodup:=by
 rw[WW,Wy];refine List.Pairwise.imp_of_mem ?_ (WW.mp XZ);intro i j hi q g;exact h i j (V7.mp hi) (V7.mp q) g
variable{ws:List Str}
def Ek(h:ws.Nodup)(hw:w ∉ ws):(ws.set i w).Nodup:=by
 induction ws generalizing i with
 |nil=>simp
 |cons a r K =>
  let(h1,h2):=sP.mp h;let q:w≠a:=λz=>hw (by simp[z])
  let g:=λz=>hw (j0 _ z)
  cases i with
  |zero=>exact sP.mpr (g,h2)
  |succ i =>
   refine sP.mpr (λz=>?_,K h2 g)
   obtain z|z:=W2 z
   ·exact h1 z
   ·exact q z.symm
end L2
namespace L2
open PySem
variable{ws:List Str}
def MF(h:inV (.str w) (ws.map V.str)=ϊ):w ∉ ws:=λhm=>by
 unfold inV at h;rw[W4]at h;exact h (.str w) (ui.mpr (w,hm,U)) (show(w==w)=O from beq_self_eq_true w)
def wordOf(kept:List Str)(c1 c2:Str)(turn k:Nat):Str:=dm c1 c2 turn k++(if inV (.str (dm c1 c2 turn k)) (kept.map V.str)=O then("q":Str)else Str.empty)
variable{c1:Str}{c2:Str}{j:Nat}
def Dy(q:k<52)(z:j<52)(g:k≠j):wordOf kept c1 c2 turn k≠wordOf kept c1 c2 turn j:=by
 refine vm q z g ?_ ?_
 ·split
  ·exact .inr U
  ·exact .inl U
 ·split
  ·exact .inr U
  ·exact .inl U
def zW(h1:c1.length<=5)(h2:c2.length<=5)(z:k<52):1 <=(wordOf kept c1 c2 turn k).length/\(wordOf kept c1 c2 turn k).length<=20:=by
 unfold wordOf;rw[Str.length_append,ve];let l0:Str.empty.length=0:=rfl;let g:(Str.ofString "q").length=1:=by decide +kernel
 split <;> lia
end L2
namespace L2
open PySem PySem.Spec PyProof.Rows
abbrev Mk1:=Str×List Str
abbrev Kd:=Str×List Mk1
def fA(ks:List Kd)(k:Str):List Mk1:=match ks.find? (λx=>decide (x.1=k))with
 |some x=>x.2
 |none=>[]
def Mf(h:ks[i]?=Z x)(hx:x.1=k)(hn:∀(j:Nat)(y:Kd),j<i->ks[j]?=Z y->y.1≠k):fA ks k=x.2:=by
 induction ks generalizing i with
 |nil=>simp at h
 |cons a r g =>
  cases i with
  |zero =>
   simp at h;subst h;simp[fA,hx]
  |succ i =>
   let h0:=hn 0 a (by lia) (by simp)
   let z:=g (by simpa using h) λj y K q=>hn (j+1) y (by lia) (by simpa using q)
   unfold fA at z ⊢;rw[BD,decide_eq_false h0];exact z
variable{it:J}{items:Array B}{Q:B->ϋ->Prop}{h':Do}{tp:Bool}{l:J}{z:J}{i1:J}{i2:J}{l1:J}{l2:J}{t1:Bool}{t2:Bool}{k1:Nat}{k2:Nat}{xs:Array B}{ys:Array B}
section
variable{prog:Da}{w:Cl}{A:Db}{E:B->ϋ->Prop}{s:ϋ}
theorem tY{i:Nat}{x:B}(hit:s.heap.IsTupleIter it t i)(z:s.heap.IsTuple t items)(hx:items[i]?=Z x)
  (P:∀h',h'.IsTupleIter it t (i+1)->Wf it s.heap h'->Q x {s with heap:=h'}):wpAny (model prog w) A (Builtin.SmallTypes.nextOf (.ref it)) Q E s:=by
 let(o,ho,K,hd):=id hit;let(ol,g,_,nl,q):=z;refine cO (wpAny_callSpecial?_slot hit.typeIs F.slot_tuple_iterator_next
  (Es F.slot_tuple_iterator_next hit.typeIs F.entry_tuple_iterator_next ?_ (F.args_tuple_iterator_next_1 _)))
 show wpAny _ _ (field (.ref it) 0 >>= _) _ _ s;refine cO (wpAny_field ho hd U ?_);refine cO (wpAny_field ho hd U ?_);refine cO (wpAny_seqItems g q ?_);simp only[W5,hx];refine cO (wpAny_setField ho hd (by simp) (k4 (x,U,k4 (P _ ?_ (Heap.SameBut.update ..)))))
 exact(_,BW _ ho (Obj.isFreed_of_fields (XF hd _)),(Obj.cls_mapFields ..).trans K,by
  rw[XF hd];simp[rawInt])
theorem wJ{i:Nat}(K:A.handled=Y)(hit:s.heap.IsTupleIter it t i)(z:s.heap.IsTuple t items)(hx:items[i]?=Y)
  (hE:∀h' e,Xo it s.heap h'->(∃o,h'.get? e=Z o/\o.cls=.type "StopIteration")->E (.ref e) {s with heap:=h'}):wpAny (model prog w) A (Builtin.SmallTypes.nextOf (.ref it)) Q E s:=by
 let(o,ho,P,hd):=id hit;let(ol,g,_,nl,q):=z;refine cO (wpAny_callSpecial?_slot hit.typeIs F.slot_tuple_iterator_next
  (Es F.slot_tuple_iterator_next hit.typeIs F.entry_tuple_iterator_next ?_ (F.args_tuple_iterator_next_1 _)))
 show wpAny _ _ (field (.ref it) 0 >>= _) _ _ s;refine cO (wpAny_field ho hd U ?_);refine cO (wpAny_field ho hd U ?_);refine cO (wpAny_seqItems g q ?_);simp only[W5,hx];refine cO (VL (cO (wpAny_setField ho hd (by simp) ?_)))
 refine cO ?_;refine cO (m:=firstArgMember _ _) (Wc (by rfl) ?_)
 refine VQ ?_ (by size_fits)
 refine cO (wpAny_handled ?_);rw[K];exact cO (k4 (wpAny_throw (hE _ _ (((Heap.SameBut.update ..).extBut.push _).push _) (_,pB _ U,U))))
def aK(h:Do)(tp:Bool)(it l:J)(k:Nat):Prop:=if tp=O then h.IsTupleIter it l k else h.IsListIter it l k
def a9(h:Do)(tp:Bool)(l:J)(items:Array B):Prop:=if tp=O then h.IsTuple l items else h.IsList l items
def aK.at(x:aK h tp it l k)(e:∀o,h.get? it=Z o->h'.get? it=Z o):aK h' tp it l k:=by
 cases tp with
 |true=>let(o,ho,r):=(x);exact((o,e o ho,r))
 |false=>let(o,ho,r):=(x);exact((o,e o ho,r))
def a9.at(x:a9 h tp l items)(e:∀o,h.get? l=Z o->h'.get? l=Z o):a9 h' tp l items:=by
 cases tp with
 |true=>let(o,ho,r):=(x);exact((o,e o ho,r))
 |false=>let(o,ho,r):=(x);exact((o,e o ho,r))
def aK.obj(x:aK h tp it l k):∃o,h.get? it=Z o/\∀v,o.data ≠ .cell v:=by
 cases tp with
 |true=>let(o,ho,_,hd):=(x);exact(o,ho,λv=>by rw[hd];simp)
 |false=>let(o,ho,_,hd):=(x);exact(o,ho,λv=>by rw[hd];simp)
def next_item(hit:aK s.heap tp it l i)(hl:a9 s.heap tp l items)(hx:items[i]?=Z x)
  (g:∀h',aK h' tp it l (i+1)->Wf it s.heap h'->Q x {s with heap:=h'}):wpAny (model prog w) A (Builtin.SmallTypes.nextOf (.ref it)) Q E s:=by
 cases tp with
 |true=>exact tY hit hl hx g
 |false=>exact wpAny_nextOf_list_item hit hl hx g
def next_end(g:A.handled=Y)(hit:aK s.heap tp it l i)(hl:a9 s.heap tp l items)(hx:items[i]?=Y)
  (hE:∀h' e,Xo it s.heap h'->(∃o,h'.get? e=Z o/\o.cls=.type "StopIteration")->E (.ref e) {s with heap:=h'}):wpAny (model prog w) A (Builtin.SmallTypes.nextOf (.ref it)) Q E s:=by
 cases tp with
 |true=>exact wJ g hit hl hx hE
 |false=>exact wpAny_nextOf_list_end g hit hl hx hE
theorem xT{TI TO:J}{x y a b:B}{Q:Option B->ϋ->Prop}(D:ZipApart z TI TO i1 i2 l1 l2)
  (hz:IsZip s.heap z TI TO .none) (cc:IsPair s.heap TI (.ref i1) (.ref i2)) (cb:IsPair s.heap TO a b)
  (h1:aK s.heap t1 i1 l1 k1) (h2:aK s.heap t2 i2 l2 k2) (b7:a9 s.heap t1 l1 xs) (b6:a9 s.heap t2 l2 ys) (hx:xs[k1]?=Z x) (hy:ys[k2]?=Z y)
  (hQ:∀h',IsZip h' z TI TO (rawInt s.heap.objs.size)->IsPair h' TO x y->aK h' t1 i1 l1 (k1+1)->aK h' t2 i2 l2 (k2+1)->IsPair h' s.heap.objs.size x y->h'.objs.size=s.heap.objs.size+1 ->
   (∀c o,c≠z->c≠TO->c≠i1->c≠i2->s.heap.get? c=Z o->h'.get? c=Z o)->Q (Z (.ref s.heap.objs.size)) {s with heap:=h'}):
  wpAny (model prog w) A (pyNext (.ref z)) Q E s:=by
 let hT:s.TypeIs (.ref z) "zip":=(_,hz,U);unfold pyNext;refine cO (VO (wpAny_callSpecial?_slot hT F.slot_zip_next
  (Es F.slot_zip_next hT F.entry_zip_next ?_ (F.args_zip_next_1 _))))
 show wpAny _ _ (field (.ref z) 2 >>= _) _ _ _;refine cO (wpAny_field hz U (x:=.bool ϊ) U ?_);refine cO (wpAny_field hz U (x:=.ref TI) U ?_);refine cO (wpAny_seqItems cc U ?_);refine cO ?_;refine cO (wpAny_field hz U (x:=.none) U (k4 ?_));simp only[if_true];refine cO (VL ?_);refine cO (wpAny_field hz U (x:=.ref TO) U ?_);refine cO (wpAny_setField_rec hz (by simp) λh₁ a4 g=>?_)
 refine cO ?_;simp only[X0,List.zipIdx_nil,Wq,List.forIn_nil];refine cO (cO (wpAny_onRaise ?_));refine cO (next_item (h1.at λo e=>g.extBut _ o D.i1z e) (b7.at λo e=>g.extBut _ o D.l1z e) hx λbP bw P=>k4 ?_)
 let Ik:IsPair bP TO a b:=P.extBut _ _ D.TOi1 (g.extBut _ _ D.TOz cb);refine cO (wpAny_seqItems Ik U ?_);refine cO (wpAny_updateSeq_pair Ik λct Td K=>?_)
 refine cO (wpAny_letGo (k4 ?_));refine cO (cO (wpAny_onRaise ?_));refine cO (next_item (h2.at λo e=>K.extBut _ o D.TOi2.symm (P.extBut _ o D.i12.symm (g.extBut _ o D.i2z e)))
  (b6.at λo e=>K.extBut _ o D.l2TO (P.extBut _ o D.l2i1 (g.extBut _ o D.l2z e))) hy λbD a7 av=>k4 ?_)
 let Tc:IsPair bD TO x b:=av.extBut _ _ D.TOi2 Td;refine cO (wpAny_seqItems Tc U ?_);refine cO (wpAny_updateSeq_pair Tc λq ML V=>?_)
 replace ML:IsPair q TO x y:=ML
 refine cO (wpAny_letGo (k4 (k4 ?_)));refine cO (wpAny_seqItems ML U ?_);refine cO (wpAny_newTuple ?_);let hsz:q.objs.size=s.heap.objs.size:=by rw[V.1,av.1,K.1,P.1,g.1]
 let aM:IsZip q z TI TO .ellipsis:=V.extBut _ _ D.TOz.symm (av.extBut _ _ D.i2z.symm (K.extBut _ _ D.TOz.symm (P.extBut _ _ D.i1z.symm a4)));let a5:∀c o,c≠z->c≠TO->c≠i1->c≠i2->s.heap.get? c=Z o->q.get? c=Z o:=λc o c1 c2 c3 c4 e =>
  V.extBut _ _ c2 (av.extBut _ _ c4 (K.extBut _ _ c2 (P.extBut _ _ c3 (g.extBut _ _ c1 e))))
 let bt:=bw.at λo e=>V.extBut _ o D.TOi1.symm (av.extBut _ o D.i12 (K.extBut _ o D.TOi1.symm e))
 let a6:=a7.at λo e=>V.extBut _ o D.TOi2.symm e
 let S1:z<q.objs.size:=kE aM;refine cO ?_;let a3:IsZip (q.push {cls:=.type "tuple",data:=.seq #[x,y]}) z TI TO .ellipsis:=ja _ aM;refine cO (wpAny_setField_rec a3 (by simp) λcq aS aE=>?_)
 refine wpAny_setField_rec aS (by simp) λaH aI aD=>?_
 let up:∀c o,c≠z->q.get? c=Z o->aH.get? c=Z o:=λc o c1 e=>aD.extBut _ _ c1 (aE.extBut _ _ c1 (ja _ e))
 let aQ:IsPair aH q.objs.size x y:=aD.extBut _ _ (Jh S1) (aE.extBut _ _ (Jh S1) (pB _ U));let b0:aH.objs.size=q.objs.size+1:=by rw[aD.1,aE.1,zM]
 rw[hsz]at aI aQ b0;refine k4 (_,U,k4 ?_);rw[hsz];exact hQ aH aI (up _ _ D.TOz ML) (bt.at λo e=>up _ o D.i1z e) (a6.at λo e=>up _ o D.i2z e) aQ b0 λc o c1 c2 c3 c4 e=>up c o c1 (a5 c o c1 c2 c3 c4 e)
theorem BJ{TI TO:J}{a b:B}{Q:Option B->ϋ->Prop}(hh:A.handled=Y)(D:ZipApart z TI TO i1 i2 l1 l2)
  (hz:IsZip s.heap z TI TO .none) (a7:IsPair s.heap TI (.ref i1) (.ref i2)) (a6:IsPair s.heap TO a b)
  (h1:aK s.heap t1 i1 l1 k1) (h2:aK s.heap t2 i2 l2 k2) (a4:a9 s.heap t1 l1 xs) (a5:a9 s.heap t2 l2 ys) (rZ:xs[k1]?=Y\/ys[k2]?=Y)
  (hQ:∀h',(∀c o,c≠z->c≠TO->c≠i1->c≠i2->s.heap.get? c=Z o->h'.get? c=Z o)->Q Y {s with heap:=h'}):wpAny (model prog w) A (pyNext (.ref z)) Q E s:=by
 let hT:s.TypeIs (.ref z) "zip":=(_,hz,U);let fin:∀h' e,(∀c o,c≠z->c≠TO->c≠i1->c≠i2->s.heap.get? c=Z o->h'.get? c=Z o)->(∃o,h'.get? e=Z o/\o.cls=.type "StopIteration") ->
   wpAny (model prog w) A (do if <- isInstance (.ref e) (.type "StopIteration")then pure Y else throw (.ref e)) Q E {s with heap:=h'}:=λh' e hk he=>by
  let(o,ho,hc):=he;refine cO (VM (o,ho,hc) isSubtype_stop ?_);exact k4 (hQ _ hk)
 refine cO (VO (wpAny_callSpecial?_slot hT F.slot_zip_next
  (Es F.slot_zip_next hT F.entry_zip_next ?_ (F.args_zip_next_1 _))))
 show wpAny _ _ (field (.ref z) 2 >>= _) _ _ _;refine cO (wpAny_field hz U (x:=.bool ϊ) U ?_);refine cO (wpAny_field hz U U ?_);refine cO (wpAny_seqItems a7 U ?_);refine cO ?_;refine cO (wpAny_field hz U U (k4 ?_));refine cO (VL (cO (wpAny_field hz U (x:=.ref TO) U (cO (wpAny_setField_rec hz (by simp) λh₁ aD g=>?_)))))
 refine cO ?_;simp only[X0,List.zipIdx_nil,Wq,List.forIn_nil];refine cO (cO (wpAny_onRaise ?_));cases hx:xs[k1]? with
 |none =>
  refine cO (next_end hh (h1.at λo e=>g.extBut _ o D.i1z e) (a4.at λo e=>g.extBut _ o D.l1z e) hx λa3 e q he=>?_)
  let(oe,P,aI):=he;let av:=q _ _ D.i1z.symm aD;let aQ:e≠z:=λx=>by subst x;rw[av]at P;cases P;simp at aI
  refine wpAny_setField_rec av (by simp) λaM _ K=>fin aM e (λc o c1 _ c3 _ x=>K.extBut _ _ c1 (q _ _ c3 (g.extBut _ _ c1 x))) (oe,K.extBut _ _ aQ P,aI)
 |some x =>
  let hy:ys[k2]?=none:=by obtain h|h:=rZ;rw[hx]at h;cases h;exact h
  refine cO (next_item (h1.at λo e=>g.extBut _ o D.i1z e) (a4.at λo e=>g.extBut _ o D.l1z e) hx λa3 bt q=>k4 ?_)
  let Ik:=q.extBut _ _ D.TOi1 (g.extBut _ _ D.TOz a6);refine cO (wpAny_seqItems Ik U (cO (wpAny_updateSeq_pair Ik λaM Td K=>(cO (wpAny_letGo (k4 (cO (cO (wpAny_onRaise ?_)))))))))
  refine cO (next_end hh (h2.at λo e=>K.extBut _ o D.TOi2.symm (q.extBut _ o D.i12.symm (g.extBut _ o D.i2z e)))
   (a5.at λo e=>K.extBut _ o D.l2TO (q.extBut _ o D.l2i1 (g.extBut _ o D.l2z e))) hy λbw e aH he=>?_)
  let(oe,P,aI):=he;let V:=aH _ _ D.i2z.symm (K.extBut _ _ D.TOz.symm (q.extBut _ _ D.i1z.symm aD));let aQ:e≠z:=λx=>by subst x;rw[V]at P;cases P;simp at aI
  refine wpAny_setField_rec V (by simp) λaS _ aE=>fin aS e (λc o c1 c2 c3 c4 x=>aE.extBut _ _ c1 (aH _ _ c4 (K.extBut _ _ c2 (q.extBut _ _ c3 (g.extBut _ _ c1 x))))) (oe,aE.extBut _ _ aQ P,aI)
end
variable{ws:List Str}
def MG:inV (.str w) (ws.map V.str)=O ↔ w∈ws:=by
 constructor
 ·intro h;by_cases hm:w∈ws
  ·exact hm
  ·exfalso
   unfold inV at h;rw[VY]at h;let(x,hx,e):=h;let(z,g,U):=ui.mp hx
   have:=eq_of_beq (show(z==w)=O from e)
   exact hm (this▸g)
 ·intro h;unfold inV;rw[VY];exact(.str w,ui.mpr (w,h,U),show(w==w)=O from beq_self_eq_true w)
def marks(rs:List Str):List (Key×V):=rs.map λs=>(.inr s,.bl O)
def El{as:List Str}:∀{bs:List Str},as.Nodup->(∀x∈as,x∈bs)->as.length<=bs.length:=by
 induction as with
 |nil=>intro bs _ _;exact Jf _
 |cons a as g =>
  intro bs nd sub;rw[sP]at nd;let ha:=sub a (by simp)
  let z:=g nd.2 λx hx=>(List.mem_erase_of_ne (λ(e:x=a)=>nd.1 (by rw[<- e];exact hx))).mpr (sub x (by simp[hx]))
  rw[List.length_erase_of_mem ha]at z
  have:=Xd ha
  simp only[rl]
  lia
variable{X:Cx}{gV:List (J×Obj)}{H:Hp}{t':Nat}{fp:List J}
def Inv.pE{σ:St}(I:Inv X gV σ H s)(k:∀b o,b ∉ fp->s.heap.get? b=Z o->h'.get? b=Z o)(hf:∀b∈fp,sS X gV H b):
  Inv X gV σ H {s with heap:=h',toks:=t'}:=by
 let K:∀b u,H b=Z u->b ∉ fp:=λb u e z=>by
  have:=(hf b z).1
  rw[e]at this;cases this
 refine I.step (λb P=>?_) (λb o _ _ g e _=>k b o g e) (λb o _ _ g e _=>(o.slots,k b o g e)) (λ_ _ _ _ n=>n)
  (λb o g e=>(o,k b o g e)) (λ_ _ e=>e) (λ_ _ _ e=>e) (λb ps e=>(#[],by rw[e];simp)) (λm hm=>?_) (λb u e=>?_) I.bare
 ·let(f0,f1,f2,V,f4,Q):=hf b P;exact(V,f1,f4,Q)
 ·let(o,es,ep,ho,r):=hm;exact(o,es,ep,k _ o (λz=>(hf _ z).2.1 U) ho,r)
 ·refine(I.hok b u e).cA (λc v g q=>k c v ?_ q) (λ_ q=>q) λ_ _ q=>q
  obtain z|z:=g
  ·rw[z];exact K b u e
  ·exact K c _ z
def SqB(K:BT)(tp:Bool)(H:Hp)(a:J)(xs:List V):Prop:=if tp=O then SqT K H a xs else SqL K H a xs
variable{a:J}
def Inv.ng{σ:St}{xs:List V}(I:Inv X gV σ H s)(h:SqB X.K tp H a xs):∃its:List B,Vals xs its/\a9 s.heap tp a its.toArray/\xs.length<=mV:=by
 cases tp with
 |true =>
  let(its,r,p,z):=I.tuple (h);exact(its,r,(p),z)
 |false =>
  let(its,r,p,z):=I.list (h);exact(its,r,p.isList,z)
def Inv.qK{σ:St}{xs ys:List V}(I:Inv X gV σ H s)(h:SqB X.K tp H a xs)(h2:SqB X.K tp H a ys):xs=ys:=by
 cases tp with
 |true=>exact I.uw (h) (h2)
 |false=>exact I.yZ (h) (h2)
def Itz(K:BT)(t1 t2:Bool)(l1 l2:J):It :=
 (λi H=>∃xs ys x y,SqB K t1 H l1 xs/\SqB K t2 H l2 ys/\xs[i]?=Z x/\ys[i]?=Z y,
   λi H v H'=>∃(p:J)(x y:V),H p=Y/\v=.ref p/\H'=upd H p (.tup [x,y])/\(∀xs,SqB K t1 H l1 xs->xs[i]?=Z x)/\∀ys,SqB K t2 H l2 ys->ys[i]?=Z y,
   λi H=>∃xs ys,SqB K t1 H l1 xs/\SqB K t2 H l2 ys/\(xs.length<=i\/ys.length<=i))
variable{P:Da}{elts:List Ev}
theorem Ff{K:BT}(z TI TO i1 i2 l1 l2:J)(D:ZipApart z TI TO i1 i2 l1 l2):
  Turn P w K (.Tuple elts x1 pos) (Itz K t1 t2 l1 l2) [z,TI,TO,i1,i2] z (λi h=>IsZip h z TI TO .none/\IsPair h TI (.ref i1) (.ref i2)/\(∃a b,IsPair h TO a b)/\aK h t1 i1 l1 i/\aK h t2 i2 l2 i) where
 mem:=by simp
 obj:=by
  rintro i h ⟨h1,h2,⟨a,b,h3⟩,h4,h5⟩ c V
  simp only[kf,xH,or_false]at V;obtain rfl|rfl|rfl|rfl|rfl:=V
  ·exact(_,h1,λv e=>by cases e)
  ·exact(_,h2,λv e=>by cases e)
  ·exact(_,h3,λv e=>by cases e)
  ·exact h4.obj
  ·exact h5.obj
 keep:=by
  rintro i h h' ⟨h1,h2,⟨a,b,h3⟩,h4,h5⟩ k
  exact(k z (by simp) _ h1,k TI (by simp) _ h2,(a,b,k TO (by simp) _ h3),h4.at λo e=>k i1 (by simp) o e,h5.at λo e=>k i2 (by simp) o e)
 item:=by
  intro X hP hw hK V i gV s σ H E I hf st hg;subst hP hw hK;let(h1,h2,(a,b,h3),h4,h5):=st;let(xs,ys,x,y,q1,q2,e1,e2):=hg;let(Ey,Q,o1,z1):=I.ng q1;let(bD,q,o2,z2):=I.ng q2;let(u1,a6,aI):=Q.get e1;let(u2,a5,aH):=q.get e2;refine xT D h1 h2 h3 h4 h5 o1 o2 (x:=u1) (y:=u2) (by simpa using a6) (by simpa using a5) λh' a4 Te U1 U0 a7 UP av=>(_,U,(wpAny_letOwnedTupleGo_zip a4 λaE UO P7=>?_))
  let hn:=I.hok.fresh (mW s.heap.objs.size);let lz:=kE h1;let a3:=kE h2;let aS:=kE h3;let(bw,Va,_):=h4.obj;let(bt,U9,_):=h5.obj;let aQ:=kE Va;let aM:=kE U9;let Pu:∀b ∈ [z,TI,TO,i1,i2],b≠s.heap.objs.size:=λb g=>by
   simp only[kf,xH,or_false]at g;obtain rfl|rfl|rfl|rfl|rfl:=g
   ·exact sR lz
   ·exact sR a3
   ·exact sR aS
   ·exact sR aQ
   ·exact sR aM
  let up:∀c o,c≠z->h'.get? c=Z o->aE.get? c=Z o:=λc o V e=>P7.extBut _ _ V e
  let I1:Inv X gV σ (upd H s.heap.objs.size (.tup [x,y])) {s with heap:=s.heap.push {cls:=.type "tuple",data:=.seq #[u1,u2]}} :=
   I.laid (λb u e=>ja _ e) (mW _) (by show 2<=mV;decide,[u1,u2],.cons aI (.cons aH .nil),((_,pB _ U,U,_,U),_,pB _ U,U))
  let aD:∀b ∈ [z,TI,TO,i1,i2],sS X gV (upd H s.heap.objs.size (.tup [x,y])) b:=λb g=>by
   let(f0,r):=hf b g;exact(by rw[ak (Pu b g)];exact f0,r)
  let I2:=by
   refine I1.pE (h':=aE) (t':=s.toks) (λb o g e=>?_) aD
   simp only[kf,xH,or_false,not_or]at g;let(b1,b2,b3,b4,b5):=g;obtain⟨rfl,rfl⟩|e':=Xp e
   ·exact up _ _ b1 a7
   ·exact up _ _ b1 (av b o b1 b3 b4 b5 e')
  exact(.ref s.heap.objs.size,upd H s.heap.objs.size (.tup [x,y]),I2,U,(_,x,y,hn,U,U,λzs hz=>by rw[I.qK hz q1];exact e1,λzs hz=>by rw[I.qK hz q2];exact e2),((UO,up _ _ D.TIz (av TI _ D.TIz D.TITO D.TIi1 D.TIi2 h2),(_,_,up _ _ D.TOz Te),U1.at λo e=>up _ _ D.i1z e,U0.at λo e=>up _ _ D.i2z e)),λb g=>(aD b g).1)
 done:=by
  intro X hP hw hK V i gV s σ H E I hf st hg;subst hP hw hK;let(h1,h2,(a,b,h3),h4,h5):=st;let(xs,ys,q1,q2,rZ):=hg;let(Ey,Q,o1,z1):=I.ng q1;let(bD,q,o2,z2):=I.ng q2;let g1:=Q.length;let g2:=q.length;refine BJ (I.ok.hd V) D h1 h2 h3 h4 h5 o1 o2 ?_ λh' k=>(U,I.pE (λb o g e=>?_) hf)
  ·obtain e|e:=rZ
   ·simp;lia
   ·simp;lia
  ·simp only[kf,xH,or_false,not_or]at g;exact k b o g.1 g.2.2.1 g.2.2.2.1 g.2.2.2.2 e
 self:=λ_ _ _ _ _ st h=>wpAny_pyIter_zip st.1 h
def itc(tp:Bool):String:=if tp=O then "tuple_iterator" else "list_iterator"
variable{prog:Da}{A:Db}{E:B->ϋ->Prop}
def jK{s:ϋ}(h:a9 s.heap tp l xs)
  (g:Q (.ref s.heap.objs.size) {s with heap:=s.heap.push {cls:=.type (itc tp),data:=.fields #[.ref l,.int 0 0]}}):wpAny (model prog w) A (pyIter (.ref l)) Q E s:=by
 cases tp with
 |true=>exact wpAny_pyIter_tuple (h) g
 |false=>exact wpAny_pyIter_list (h) g
abbrev zH1(t1:Bool)(h:Do)(l1:J):Do:=h.push {cls:=.type (itc t1),data:=.fields #[.ref l1,.int 0 0]}
abbrev zH2(t1 t2:Bool)(h:Do)(l1 l2:J):Do:=(zH1 t1 h l1).push {cls:=.type (itc t2),data:=.fields #[.ref l2,.int 0 0]}
abbrev zH3(t1 t2:Bool)(h:Do)(l1 l2:J):Do:=(zH2 t1 t2 h l1 l2).push {cls:=.type "tuple",data:=.seq #[.ref h.objs.size,.ref (zH1 t1 h l1).objs.size]}
abbrev zH4(t1 t2:Bool)(h:Do)(l1 l2:J):Do:=(zH3 t1 t2 h l1 l2).push {cls:=.type "tuple",data:=.seq #[.none,.none]}
abbrev zH5(t1 t2:Bool)(h:Do)(l1 l2:J):Do:=(zH4 t1 t2 h l1 l2).push {cls:=.type "zip",data:=.fields #[.none,.bool ϊ,.bool ϊ,.ref (zH2 t1 t2 h l1 l2).objs.size,.ref (zH3 t1 t2 h l1 l2).objs.size]}
def t5(t1 t2:Bool)(l1 l2:J)(xs ys:Array B):
  Meets (Builtin.«zip.__new__» ([.type "zip",.ref l1,.ref l2],[])) (λ_ R s=>a9 s.heap t1 l1 xs/\a9 s.heap t2 l2 ys /\
   R (.ok (.ret (.ref (zH4 t1 t2 s.heap l1 l2).objs.size))) {s with heap:=zH5 t1 t2 s.heap l1 l2}) :=
 .of_wp λprog w A R s h=>by
  let(hp,g,d,tk,os):=s;let(z,q,h):=h;let Q:=sub_zip;let P:=z;let K:a9 (ϋ.heap (hp.push {cls:=.type (itc t1),data:=.fields #[.ref l1,.int 0 0]},g,d,tk,os)) t2 l2 ys:=q.at λo e=>ja _ e
  wp_walk using jK P,jK K
  exact(_,U,h)
def jw(e:h.get? it=Z {cls:=.type (itc tp),data:=.fields #[.ref l,.int 0 0]}):aK h tp it l 0:=by
 cases tp with
 |true=>exact((_,e,U,U))
 |false=>exact((_,e,U,U))
theorem iZ{A:Db}{E:B->ϋ->Prop}{s:ϋ}(P:a9 s.heap t1 l1 xs)(K:a9 s.heap t2 l2 ys)
  (h:∀h',IsZip h' (s.heap.objs.size+4) (s.heap.objs.size+2) (s.heap.objs.size+3) .none->IsPair h' (s.heap.objs.size+2) (.ref s.heap.objs.size) (.ref (s.heap.objs.size+1)) ->
   IsPair h' (s.heap.objs.size+3) .none .none->aK h' t1 s.heap.objs.size l1 0->aK h' t2 (s.heap.objs.size+1) l2 0 ->
   (∀c o,s.heap.get? c=Z o->h'.get? c=Z o)->Q (.ref (s.heap.objs.size+4)) {s with heap:=h'}):
  wpAny (model prog w) A (call (.type "zip") [.ref l1,.ref l2]) Q E s:=by
 refine callType_new F.called_zip (by decide) (F.typeCall_zip_2 _ _) (F.newCall_zip_2 _ _) (λobj=>F.args_object_init_3 obj _ _) F.entry_zip_new
  (t5 t1 t2 l1 l2 xs ys) (P,K,?_)
 let z:(zH1 t1 s.heap l1).objs.size=s.heap.objs.size+1:=zM ..;let q:(zH2 t1 t2 s.heap l1 l2).objs.size=s.heap.objs.size+2:=by rw[zM,z]
 let g:(zH3 t1 t2 s.heap l1 l2).objs.size=s.heap.objs.size+3:=by rw[zM,q]
 let z4:(zH4 t1 t2 s.heap l1 l2).objs.size=s.heap.objs.size+4:=by rw[zM,g]
 let V:(zH5 t1 t2 s.heap l1 l2).get? (zH4 t1 t2 s.heap l1 l2).objs.size=Z _:=pB _ U;let g4:(zH5 t1 t2 s.heap l1 l2).get? (zH3 t1 t2 s.heap l1 l2).objs.size=Z _:=ja _ (pB _ U);let g3:(zH5 t1 t2 s.heap l1 l2).get? (zH2 t1 t2 s.heap l1 l2).objs.size=Z _:=ja _ (ja _ (pB _ U));let g2:(zH5 t1 t2 s.heap l1 l2).get? (zH1 t1 s.heap l1).objs.size=Z _:=ja _ (ja _ (ja _ (pB _ U)));let g1:(zH5 t1 t2 s.heap l1 l2).get? s.heap.objs.size=Z _:=ja _ (ja _ (ja _ (ja _ (pB _ U))));rw[q,g,z4]at V;rw[z,q]at g3;rw[g]at g4;rw[z]at g2;rw[z4];exact((_,V,U),h _ V g3 g4 (jw g1) (jw g2) λc o x =>
  ja _ (ja _ (ja _ (ja _ (ja _ x)))))
def P5(K:BT)(t1 t2:Bool)(ta:TA):TI:=λσ H R=>ta σ H λvs H1=>∃l1 l2,vs=[.ref l1,.ref l2]/\(∃xs,SqB K t1 H1 l1 xs)/\(∃ys,SqB K t2 H1 l2 ys)/\R (Itz K t1 t2 l1 l2) H1
def a9.obj(x:a9 h tp l xs):∃o,h.get? l=Z o:=by
 cases tp with
 |true=>let(o,ho,_):=(x);exact(o,ho)
 |false=>let(o,ho,_):=(x);exact(o,ho)
variable{n:Nat}
def jr{l1 l2:Nat}(h1:l1<n)(h2:l2<n):ZipApart (n+4) (n+2) (n+3) n (n+1) l1 l2:=by
 constructor <;>(intro z;refine absurd (show @Eq Nat _ _ from z) ?_;lia)
variable{pos':Pos}{b:Ev}
def Pd{x1}{a:Ev}{p pos:Pos}(hg:Gl X "zip")(hm:X.mg "zip"=Y)(gu:bootBuiltins "zip"=Z (.type "zip"))(ha:PA X [a,b] ta)(hs:kz [a,b] X.env=[(ϊ,eval a X.env),(ϊ,eval b X.env)]:=by rfl)(g:AD X b:=by rfl):
  PI X (.Tuple elts x1 pos') (.Call (.Name "zip" p) [a,b] [] pos) (P5 X.K t1 t2 ta):=by
 intro gV s σ H R I h;refine Call_ (dM I hg hm gu (PyProof.Rows.callWith_type1 (thn (ha pos gV s σ H _ I h) λus s1 (vs,H1,P,r1,q1)=>?_) (by rw[hs,g]) (by rw[g];rfl)))
 let(l1,l2,e,(xs,q2),(ys,q3),q):=q1;subst e;let(u1,u2,U,V,Q):=vals2 r1;cases V;cases Q;let(Ey,aM,o1,z1):=P.ng q2;let(bD,aI,o2,z2):=P.ng q3;let(aS,e1):=o1.obj;let(aQ,e2):=o2.obj;let g1:=kE e1;let g2:=kE e2;refine iZ o1 o2 λh' hz aH aE aD av hk=>wpAny_pyIter_zip hz ?_
 refine(_,[s1.heap.objs.size+4,s1.heap.objs.size+2,s1.heap.objs.size+3,s1.heap.objs.size,s1.heap.objs.size+1],_,_,H1,U,P.kept hk,Ff _ _ _ _ _ l1 l2 ?_,(hz,aH,(_,_,aE),aD,av),λc hc=>?_,q)
 ·exact jr g1 g2
 ·let z:s1.heap.objs.size<=c:=by
   simp only[kf,xH,or_false]at hc;obtain rfl|rfl|rfl|rfl|rfl:=hc <;> first|exact Nat.le_add_right _ _|exact mW _
  exact P.Ir z (P.hok.fresh z)
def DR(h:ws.Nodup):(ws.drop t++ws.take t).Nodup :=
 (List.perm_append_comm).nodup_iff.mp (by rw[WB];exact h)
variable{d:J}
def mX.other(D:mX H d l)(h1:q≠d)(h2:q≠l):mX (upd H q o) d l:=by
 let(s,n,ls,D):=D;exact(s,n,ls,by rw[ak h1.symm];exact D.hd,by rw[ak h2.symm];exact D.hl,D.s0,D.s1,D.n0,D.l0)
def names(ks:List Kd):List Str:=ks.flatMap λk=>k.2.map (·.1)
variable{x:Str}
def take_one{xs:List Str}(h:xs[i]?=Z x):xs.take i ++ [x]=xs.take (i+1):=by rw[u3,h];rfl
variable{es:List Ev}
theorem d9{K:BT}{k:Nat}{pos:Pos}(z:X.K=K)(q:X.calm=O)(h:PGs X es t)
  (hn:(assignEach es X.env).length=n:=by rfl) (g:(assignEach es X.env).findIdx? (·.1)=none:=by rfl):PG X (.Tuple es k pos) (MN K n t):=z▸Pf q h hn g
abbrev oj(h:Do)(z TI TO:J)(a:J)(f:Bool):Prop :=
 h.get? z=Z {cls:=.type "zip",dict:=Y,data:=.fields #[rawInt a,.bool f,.bool ϊ,.ref TI,.ref TO],slots:=#[]}
variable{oa:Obj}
section
variable{w:Cl}{s:ϋ}
theorem yN{TI TO:J}{f:Bool}{Q:Bool->ϋ->Prop}(K:oj s.heap z TI TO a f)(ha:s.heap.get? a=Z oa)
  (V:∀h',oj h' z TI TO a O->Wf z s.heap h'->Q ϊ {s with heap:=h'}):wpAny (model prog w) A (Builtin.SmallTypes.ownedTupleIsFree (.ref z)) Q E s:=by
 refine cO (wpAny_field K U U ?_);show wpAny _ _ (loadIfAlive ((a:Int).toNat) >>= _) _ _ _;refine cO (W.kdx_alive ha ?_);refine cO (wpAny_field K U (x:=.bool f) U ?_);cases f with
 |true =>
  exact k4 (V _ K (Heap.SameBut.refl _ _))
 |false =>
  exact cO (wpAny_setField_rec K (by simp) λP q g=>(k4 (V _ q g)))
theorem JC{TI TO:J}{f:Bool}{x y:B}{Q:Option B->ϋ->Prop}(D:ZipApart z TI TO i1 i2 l1 l2)
  (hz:oj s.heap z TI TO a f) (ha:s.heap.get? a=Z oa) (aI:IsPair s.heap TI (.ref i1) (.ref i2))
  (h1:aK s.heap t1 i1 l1 k1) (h2:aK s.heap t2 i2 l2 k2) (aH:a9 s.heap t1 l1 xs) (aE:a9 s.heap t2 l2 ys) (hx:xs[k1]?=Z x) (hy:ys[k2]?=Z y)
  (hQ:∀h',oj h' z TI TO a O->aK h' t1 i1 l1 (k1+1)->aK h' t2 i2 l2 (k2+1)->IsPair h' s.heap.objs.size x y->h'.objs.size=s.heap.objs.size+1 ->
   (∀c o,c≠z->c≠i1->c≠i2->s.heap.get? c=Z o->h'.get? c=Z o)->Q (Z (.ref s.heap.objs.size)) {s with heap:=h'}):
  wpAny (model prog w) A (pyNext (.ref z)) Q E s:=by
 let hT:s.TypeIs (.ref z) "zip":=(_,hz,U);refine cO (VO (wpAny_callSpecial?_slot hT F.slot_zip_next
  (Es F.slot_zip_next hT F.entry_zip_next ?_ (F.args_zip_next_1 _))))
 show wpAny _ _ (field (.ref z) 2 >>= _) _ _ _;refine cO (wpAny_field hz U (x:=.bool ϊ) U ?_);refine cO (wpAny_field hz U U ?_);refine cO (wpAny_seqItems aI U ?_);refine cO (yN hz ha λh₁ V g=>?_)
 simp only[Wu,if_false];rw[<- XG];simp only[Wq];refine cO (cO (cO (E7 ?_)));refine cO (next_item (h1.at λo e=>g.extBut _ o D.i1z e) (aH.at λo e=>g.extBut _ o D.l1z e) hx λaM aD q=>k4 (k4 (cO (cO (E7 ?_)))))
 refine cO (next_item (h2.at λo e=>q.extBut _ o D.i12.symm (g.extBut _ o D.i2z e)) (aE.at λo e=>q.extBut _ o D.l2i1 (g.extBut _ o D.l2z e)) hy λP av K=>k4 (k4 (k4 ?_)))
 show wpAny _ _ (newTuple [x,y] >>= _) _ _ _;refine cO (wpAny_newTuple ?_);let hsz:P.objs.size=s.heap.objs.size:=by rw[K.1,q.1,g.1]
 let up:∀c o,c≠z->c≠i1->c≠i2->s.heap.get? c=Z o->(P.push {cls:=.type "tuple",data:=.seq #[x,y]}).get? c=Z o:=λc o c1 c2 c3 e =>
  ja _ (K.extBut _ _ c3 (q.extBut _ _ c2 (g.extBut _ _ c1 e)))
 refine k4 (_,U,k4 ?_);rw[hsz];refine hQ _ (ja _ (K.extBut _ _ D.i2z.symm (q.extBut _ _ D.i1z.symm V))) ?_ ?_ ?_ ?_ up
 ·exact aD.at λo e=>ja _ (K.extBut _ o D.i12 e)
 ·exact av.at λo e=>ja _ e
 ·rw[<- hsz];exact pB _ U
 ·rw[zM,hsz]
theorem xR{TI TO:J}{f:Bool}{Q:Option B->ϋ->Prop}(hh:A.handled=Y)(D:ZipApart z TI TO i1 i2 l1 l2)
  (hz:oj s.heap z TI TO a f) (ha:s.heap.get? a=Z oa) (aH:IsPair s.heap TI (.ref i1) (.ref i2))
  (h1:aK s.heap t1 i1 l1 k1) (h2:aK s.heap t2 i2 l2 k2) (av:a9 s.heap t1 l1 xs) (aE:a9 s.heap t2 l2 ys) (rZ:xs[k1]?=Y\/ys[k2]?=Y)
  (hQ:∀h',(∀c o,c≠z->c≠i1->c≠i2->s.heap.get? c=Z o->h'.get? c=Z o)->Q Y {s with heap:=h'}):
  wpAny (model prog w) A (pyNext (.ref z)) Q E s:=by
 let hT:s.TypeIs (.ref z) "zip":=(_,hz,U);let fin:∀h' e,(∀c o,c≠z->c≠i1->c≠i2->s.heap.get? c=Z o->h'.get? c=Z o)->(∃o,h'.get? e=Z o/\o.cls=.type "StopIteration") ->
   wpAny (model prog w) A (do if <- isInstance (.ref e) (.type "StopIteration")then pure Y else throw (.ref e)) Q E {s with heap:=h'}:=λh' e hk he=>by
  let(o,ho,hc):=he;refine cO (VM (o,ho,hc) isSubtype_stop ?_);exact k4 (hQ _ hk)
 refine cO (VO (wpAny_callSpecial?_slot hT F.slot_zip_next
  (Es F.slot_zip_next hT F.entry_zip_next ?_ (F.args_zip_next_1 _))))
 show wpAny _ _ (field (.ref z) 2 >>= _) _ _ _;refine cO (wpAny_field hz U (x:=.bool ϊ) U ?_);refine cO (wpAny_field hz U U ?_);refine cO (wpAny_seqItems aH U ?_);refine cO (yN hz ha λh₁ aD g=>?_)
 simp only[Wu,if_false];rw[<- XG];simp only[Wq];refine cO (cO (cO (E7 ?_)));cases hx:xs[k1]? with
 |none =>
  exact cO (next_end hh (h1.at λo e=>g.extBut _ o D.i1z e) (av.at λo e=>g.extBut _ o D.l1z e) hx λK e q he=>(fin K e (λc o c1 c2 _ x=>q _ _ c2 (g.extBut _ _ c1 x)) he))
 |some x =>
  let hy:ys[k2]?=none:=by obtain h|h:=rZ;rw[hx]at h;cases h;exact h
  refine cO (next_item (h1.at λo e=>g.extBut _ o D.i1z e) (av.at λo e=>g.extBut _ o D.l1z e) hx λK aI q=>k4 (k4 (cO (cO (E7 ?_)))))
  exact cO (next_end hh (h2.at λo e=>q.extBut _ o D.i12.symm (g.extBut _ o D.i2z e)) (aE.at λo e=>q.extBut _ o D.l2i1 (g.extBut _ o D.l2z e)) hy λV e P he=>(fin V e (λc o c1 c2 c3 x=>P _ _ c3 (q.extBut _ _ c2 (g.extBut _ _ c1 x))) he))
end
structure ZSt(h:Do)(z TI TO i1 i2 l1 l2 S:J)(t1 t2:Bool)(i:Nat):Prop where
 ti:IsPair h TI (.ref i1) (.ref i2)
 s1:aK h t1 i1 l1 i
 s2:aK h t2 i2 l2 i
 st:(IsZip h z TI TO .none/\∃a b,IsPair h TO a b)\/∃(a:J)(f:Bool)(oa:Obj),oj h z TI TO a f/\h.get? a=Z oa/\a≠z/\a≠S/\a≠i1/\a≠i2
variable{S:J}
def ZSt.keep{TI TO:J}(x:ZSt h z TI TO i1 i2 l1 l2 S t1 t2 i)(k:∀b o,b≠S->h.get? b=Z o->h'.get? b=Z o)(Q:z≠S)(q:TI≠S)(g:TO≠S)(h1:i1≠S)(h2:i2≠S):ZSt h' z TI TO i1 i2 l1 l2 S t1 t2 i :=
 (k _ _ q x.ti,x.s1.at λo e=>k _ o h1 e,x.s2.at λo e=>k _ o h2 e,by
  obtain⟨e,a,b,K⟩|⟨a,f,oa,e,K,V,P,n3⟩:=x.st
  ·exact .inl (k _ _ Q e,a,b,k _ _ g K)
  ·exact .inr (a,f,oa,k _ _ Q e,k _ _ P K,V,P,n3))
structure ZG(xs ys:Array B)(lo:Nat)(h:Do)(as:List J):Prop where
 rise:as.Pairwise (· < ·)
 above:∀a∈as,lo<=a
 pairs:∀(j:Nat)(a:J),as[j]?=Z a->∃x y,xs[j]?=Z x/\ys[j]?=Z y/\IsPair h a x y
def ZG.there{lo:Nat}(g:ZG xs ys lo h as)(ha:a∈as):a<h.objs.size:=by
 let(j,q):=List.mem_iff_getElem?.mp ha;let(_,_,_,_,e):=g.pairs j a q;exact kE e
section
variable{w:Cl}{s:ϋ}
def BG{E:B->ϋ->Prop}{TI TO:J}{k:Nat}{x y:B}{Q:Option B->ϋ->Prop}(D:ZipApart z TI TO i1 i2 l1 l2)
  (st:ZSt s.heap z TI TO i1 i2 l1 l2 S t1 t2 k) (hS:S<s.heap.objs.size) (P:a9 s.heap t1 l1 xs) (K:a9 s.heap t2 l2 ys) (hx:xs[k]?=Z x) (hy:ys[k]?=Z y)
  (hQ:∀h',ZSt h' z TI TO i1 i2 l1 l2 S t1 t2 (k+1)->IsPair h' s.heap.objs.size x y->h'.objs.size=s.heap.objs.size+1 ->
   (∀c o,c≠z->c≠TO->c≠i1->c≠i2->s.heap.get? c=Z o->h'.get? c=Z o)->Q (Z (.ref s.heap.objs.size)) {s with heap:=h'}):
  wpAny (model prog w) A (pyNext (.ref z)) Q E s:=by
 let(o1,g1,_):=st.s1.obj;let(o2,g2,_):=st.s2.obj;obtain⟨V,a,b,av⟩|⟨a,f,oa,V,ha,n1,n2,n3,n4⟩:=st.st
 ·refine xT D V st.ti av st.s1 st.s2 P K hx hy λh' g Te e1 e2 hp hsz q=>hQ h' (q _ _ D.TIz D.TITO D.TIi1 D.TIi2 st.ti,e1,e2,.inr (s.heap.objs.size,ϊ,_,g,hp,?_,?_,?_,?_)) hp hsz q
  ·exact Jh (kE V)
  ·exact Jh hS
  ·exact Jh (kE g1)
  ·exact Jh (kE g2)
 ·exact JC D V ha st.ti st.s1 st.s2 P K hx hy λh' g e1 e2 hp hsz q=>hQ h' (q _ _ D.TIz D.TIi1 D.TIi2 st.ti,e1,e2,.inr (a,O,oa,g,q a oa n1 n3 n4 ha,n1,n2,n3,n4)) hp hsz λc o c1 _ c3 c4 e=>q c o c1 c3 c4 e
def BH{TI TO:J}{k:Nat}{Q:Option B->ϋ->Prop}(hh:A.handled=Y)(D:ZipApart z TI TO i1 i2 l1 l2)
  (st:ZSt s.heap z TI TO i1 i2 l1 l2 S t1 t2 k) (q:a9 s.heap t1 l1 xs) (g:a9 s.heap t2 l2 ys) (V:xs[k]?=Y\/ys[k]?=Y)
  (hQ:∀h',(∀c o,c≠z->c≠TO->c≠i1->c≠i2->s.heap.get? c=Z o->h'.get? c=Z o)->Q Y {s with heap:=h'}):wpAny (model prog w) A (pyNext (.ref z)) Q E s:=by
 obtain⟨K,a,b,P⟩|⟨a,f,oa,K,ha,n1,n2,n3,n4⟩:=st.st
 ·exact BJ hh D K st.ti P st.s1 st.s2 q g V hQ
 ·exact xR hh D K ha st.ti st.s1 st.s2 q g V λh' hk=>hQ h' λc o c1 _ c3 c4 e=>hk c o c1 c3 c4 e
def Jy{TI TO:J}{t1 t2:Bool}{lo:Nat}(hh:A.handled=Y)(D:ZipApart z TI TO i1 i2 l1 l2)(aD:z≠S)(wX:TI≠S)(nS:TO≠S)(aM:i1≠S)(aI:i2≠S)(wW:l1≠S)(wV:l2≠S)
  (oS:S<lo) (oz:z<lo) (aQ:TO<lo) (o1:i1<lo) (o2:i2<lo) (en:n=min xs.size ys.size) (hn:n<=mV) (res:B) {h₁:Do}
  (hR:∀h' tk acc c as,(∀b o,b≠S->b≠z->b≠TO->b≠i1->b≠i2->h₁.get? b=Z o->h'.get? b=Z o)->h'.get? S=Z {cls:=.type "list",dict:=Y,data:=.seq acc c,slots:=#[]}->as.length=n->ZG xs ys lo h' as ->
   acc.toList=as.map B.ref->R (.ok (.ret res)) {s with heap:=h',toks:=tk}):
  ∀(k i:Nat)(h:Do)(tk c:Nat)(acc:Array B)(as:List J),n - i=k->i<=n->ZSt h z TI TO i1 i2 l1 l2 S t1 t2 i->a9 h t1 l1 xs->a9 h t2 l2 ys->(∀b o,b≠S->b≠z->b≠TO->b≠i1->b≠i2->h₁.get? b=Z o->h.get? b=Z o) ->
   h.get? S=Z {cls:=.type "list",dict:=Y,data:=.seq acc c,slots:=#[]}->acc.toList=as.map B.ref->as.length=i->ZG xs ys lo h as->lo<=h.objs.size ->
   codeAny (model prog w) A (.builtin "list.extend.loop" ([.ref S,.ref z,res],[])) R {s with heap:=h,toks:=tk}:=by
 let ne:∀{a b:Nat},a<lo->lo<=b->b≠a:=λh1 h2=>by omega
 intro k
 induction k with
 |zero =>
  intro i h tk c acc as hk hi aE av V rY hS fB K P aH;refine VI PySem.F.entry_extend_loop ?_;refine cO (BH (A:=A.in1) hh D aE av V ?_ λh' he=>?_)
  ·by_cases q:xs.size<=i
   ·exact .inl (VS q)
   ·exact .inr (VS (by omega))
  refine k4 (hR h' tk acc c as (λb o b1 b2 b3 b4 b5 e=>he b o b2 b3 b4 b5 (rY b o b1 b2 b3 b4 b5 e)) (he S _ aD.symm nS.symm aM.symm aI.symm hS) (by omega) (P.rise,P.above,λj a Q=>?_) fB)
  let(x,y,e1,e2,e3):=P.pairs j a Q;let ab:=P.above a (pA Q);exact(x,y,e1,e2,he a _ (ne oz ab) (ne aQ ab) (ne o1 ab) (ne o2 ab) e3)
 |succ k ih =>
  intro i h tk c acc as hk hi aE av V rY hS fB K P aH;let aS:=Wk hk;let hm:=X7.mp (en▸aS);let hx:=VJ hm.1;let hy:=VJ hm.2;let hsz:acc.size=i:=by rw[<- V5,fB,dz,K]
  refine VI PySem.F.entry_extend_loop ?_;refine cO (BG (S:=S) D aE (kE hS) av V hx hy λh' ua ht hz g=>?_)
  let a4:=g S _ aD.symm nS.symm aM.symm aI.symm hS;let up:∀b o,b≠S->h'.get? b=Z o->(h'.update S (QH (·.push (B.ref h.objs.size)))).get? b=Z o:=λb o hb e=>(zK _ _ (Ne.symm hb)).trans e
  let a3:=kE hS;refine cO ?_;refine TH a4 U (k4 (QY PySem.F.plain_extend_loop _,ih (i+1) _ tk _ (acc.push (B.ref h.objs.size)) (as ++ [h.objs.size]) (by rw[WV,hk];rfl) aS (ua.keep up aD wX nS aM aI)
   (av.at λo e=>up _ o wW (g _ o D.l1z D.l1TO D.l1i1 D.l1i2 e)) (V.at λo e=>up _ o wV (g _ o D.l2z D.l2TO D.l2i1 D.l2i2 e))
   (λb o b1 b2 b3 b4 b5 e=>up b o b1 (g b o b2 b3 b4 b5 (rY b o b1 b2 b3 b4 b5 e))) (BW _ a4 U) (by rw[Array.toList_push,fB,zJ];rfl) (by rw[px,K];rfl) (?_,?_,?_) ?_)) (by rw[hsz];omega) (by rw[Array.size_push,hsz];omega)
  ·refine List.pairwise_append.mpr (P.rise,List.pairwise_singleton _ _,λa ha b hb=>?_)
   rw[ej.mp hb];exact P.there ha
  ·intro a ha;obtain ha|ha:=p7.mp ha
   ·exact P.above a ha
   ·rw[ej.mp ha];exact aH
  ·intro j b Q;obtain h1|h1|h1:=W6 j as.length
   ·rw[wh h1]at Q;let(x',y',e1,e2,e3):=P.pairs j b Q;let ab:=P.above b (pA Q);exact(x',y',e1,e2,up b _ (ne oS ab) (g b _ (ne oz ab) (ne aQ ab) (ne o1 ab) (ne o2 ab) e3))
   ·subst h1;let hb:=by simpa using Q
    subst hb;exact(_,_,by rw[K];exact hx,by rw[K];exact hy,up _ _ (Jh a3) ht)
   ·let S5:(as ++ [h.objs.size])[j]?=none:=Vt (by rw[px,Xi];omega)
    rw[S5]at Q;cases Q
  ·let e:=up _ _ (Jh a3) ht
   have:=kE e
   let U8:=aH;exact u4 U8 (P1 this)
end
def zU:typeLookup (.type "zip") "__len__"=pure none:=by kernel_rfl
def xS:typeLookup (.type "zip") "__length_hint__"=pure none:=by kernel_rfl
section
variable{w:Cl}{s:ϋ}
theorem Dx{TI TO:J}(hh:A.handled=Y)(D:ZipApart z TI TO i1 i2 l1 l2)(q:z≠S)(wX:TI≠S)(nS:TO≠S)(aD:i1≠S)(av:i2≠S)(wW:l1≠S)(wV:l2≠S)
  (hz:IsZip s.heap z TI TO .none) {ta tb:B} (V:IsPair s.heap TO ta tb) (aE:IsPair s.heap TI (.ref i1) (.ref i2)) (Q:aK s.heap t1 i1 l1 0) (P:aK s.heap t2 i2 l2 0) (aI:a9 s.heap t1 l1 xs) (aH:a9 s.heap t2 l2 ys)
  (en:n=min xs.size ys.size) (hn:n<=mV) (res:B) (c₀:Nat) (hS:s.heap.get? S=Z {cls:=.type "list",data:=.seq #[] c₀})
  (hR:∀h' tk acc c as,(∀b o,b≠S->b≠z->b≠TO->b≠i1->b≠i2->s.heap.get? b=Z o->h'.get? b=Z o)->h'.get? S=Z {cls:=.type "list",dict:=Y,data:=.seq acc c,slots:=#[]}->as.length=n->ZG xs ys s.heap.objs.size h' as ->
   acc.toList=as.map B.ref->R (.ok (.ret res)) {s with heap:=h',toks:=tk}):
  wpAny (model prog w) A.in1 (Builtin.List.listExtendWith (.ref S) (.ref z) res)
   (λfin s'=>match fin with|.done f=>R (.ok f) s' |.again c'=>c'.quiet=O/\codeAny (model prog w) A c' R s') (λe s'=>R (.error e) s') s:=by
 let hT:s.TypeIs (.ref z) "zip":=(_,hz,U);let(aQ,g1,_):=Q.obj;let(aM,g2,_):=P.obj;refine cO (Vx hT ?_);let e1:Builtin.List.listSameRef (.ref S) (.ref z)=false:=by simp[Builtin.List.listSameRef,q.symm]
 let e2:(B.type "zip" == B.type "list")=false:=by decide
 let e3:(B.type "zip" == B.type "tuple")=false:=by decide
 simp only[e1,e2,e3,if_false];refine cO (wpAny_pyIter_zip hz (cO (E7 ?_)));refine cO (Rv hT zU ?_);refine cO (Rv hT xS (k4 ?_));refine cO (VL (cO ?_));refine cO (TH hS U ?_);let g:=BW (QH (·.push B.none)) hS U;refine TH g U ?_;let K:=BW (QH (·.pop)) g U;let oth:∀b o,b≠S->s.heap.get? b=Z o->((s.heap.update S (QH (·.push B.none))).update S (QH (·.pop))).get? b=Z o :=
  λb o hb e=>(zK _ _ (Ne.symm hb)).trans ((zK _ _ (Ne.symm hb)).trans e)
 let hsz:((s.heap.update S (QH (·.push B.none))).update S (QH (·.pop))).objs.size=s.heap.objs.size:=by
  rw[(Heap.SameBut.update (a:=S) ..).1,(Heap.SameBut.update (a:=S) ..).1]
 refine k4 (QY F.plain_extend_loop _,Jy (s:=s) (n:=n) hh D q wX nS aD av wW wV (kE hS) (kE hz) (kE V) (kE g1) (kE g2) en hn res hR n 0 _ _ _ _ [] (by omega) (Jf _)
  (oth _ _ wX aE,Q.at λo e=>oth _ o aD e,P.at λo e=>oth _ o av e,.inl (oth _ _ q hz,ta,tb,oth _ _ nS V)) (aI.at λo e=>oth _ o wW e) (aH.at λo e=>oth _ o wV e) (λb o b1 _ _ _ _ e=>oth b o b1 e) K U U (List.Pairwise.nil,λ_ z=>(nomatch z),λj a hj=>by simp at hj) (by rw[hsz];exact mW _))
def Jz{TI TO:J}(hh:A.handled=Y)(D:ZipApart z TI TO i1 i2 l1 l2)(q:z≠S)(wX:TI≠S)(nS:TO≠S)(P:i1≠S)(K:i2≠S)(wW:l1≠S)(wV:l2≠S)
  (hz:IsZip s.heap z TI TO .none) {ta tb:B} (av:IsPair s.heap TO ta tb) (aD:IsPair s.heap TI (.ref i1) (.ref i2)) (V:aK s.heap t1 i1 l1 0) (Q:aK s.heap t2 i2 l2 0) (aI:a9 s.heap t1 l1 xs) (aH:a9 s.heap t2 l2 ys)
  (en:n=min xs.size ys.size) (hn:n<=mV) (hS:s.heap.get? S=Z {cls:=.type "list",data:=.seq #[]})
  (hR:∀h' tk acc c as,(∀b o,b≠S->b≠z->b≠TO->b≠i1->b≠i2->s.heap.get? b=Z o->h'.get? b=Z o)->h'.get? S=Z {cls:=.type "list",dict:=Y,data:=.seq acc c,slots:=#[]}->as.length=n->ZG xs ys s.heap.objs.size h' as ->
   acc.toList=as.map B.ref->R (.ok (.ret .none)) {s with heap:=h',toks:=tk}):
  wpAny (model prog w) A.in1 (Builtin.«list.__init__» ([.ref S,.ref z],[]))
   (λfin s'=>match fin with|.done f=>R (.ok f) s' |.again c'=>c'.quiet=O/\codeAny (model prog w) A c' R s') (λe s'=>R (.error e) s') s:=by
 refine cO ?_;refine cO (wpAny_seqItems hS U (k4 ?_));refine cO (TH hS U ?_);let g:=BW (QH (λ_=>(#[]))) hS U
 let oth:∀b o,b≠S->s.heap.get? b=Z o->(s.heap.update S (QH (λ_=>(#[])))).get? b=Z o :=
  λb o hb e=>(zK _ _ (Ne.symm hb)).trans e
 let hsz:(s.heap.update S (QH (λ_=>(#[])))).objs.size=s.heap.objs.size:=(Heap.SameBut.update (a:=S) ..).1
 refine Dx (xs:=xs) (ys:=ys) (n:=n) hh D q wX nS P K wW wV (oth _ _ q hz) (oth _ _ nS av) (oth _ _ wX aD) (V.at λo e=>oth _ o P e) (Q.at λo e=>oth _ o K e) (aI.at λo e=>oth _ o wW e) (aH.at λo e=>oth _ o wV e) en hn .none _ g (λh' tk acc c as hk aE hl hG fB=>?_)
 rw[hsz]at hG;exact hR h' tk acc c as (λb o b1 b2 b3 b4 b5 e=>hk b o b1 b2 b3 b4 b5 (oth b o b1 e)) aE hl hG fB
def JA{E:B->ϋ->Prop}{Q:B->ϋ->Prop}{TI TO:J}(hh:A.handled=Y)(D:ZipApart z TI TO i1 i2 l1 l2)
  (hz:IsZip s.heap z TI TO .none) {ta tb:B} (P:IsPair s.heap TO ta tb) (V:IsPair s.heap TI (.ref i1) (.ref i2)) (K:aK s.heap t1 i1 l1 0) (q:aK s.heap t2 i2 l2 0) (aD:a9 s.heap t1 l1 xs) (av:a9 s.heap t2 l2 ys)
  (en:n=min xs.size ys.size) (hn:n<=mV)
  (hQ:∀h' tk acc c as,(∀b o,b≠z->b≠TO->b≠i1->b≠i2->s.heap.get? b=Z o->h'.get? b=Z o)->h'.get? s.heap.objs.size=Z {cls:=.type "list",dict:=Y,data:=.seq acc c,slots:=#[]}->as.length=n->ZG xs ys (s.heap.objs.size+1) h' as ->
   acc.toList=as.map B.ref->Q (.ref s.heap.objs.size) {s with heap:=h',toks:=tk}):
  wpAny (model prog w) A (call (.type "list") [.ref z]) Q E s:=by
 refine callType_codes (Q₁:=λobj g=>obj=.ref s.heap.objs.size/\g={s with heap:=s.heap.push {cls:=.type "list",data:=.seq #[]}}) PySem.F.called_list (PySem.F.typeCall_list_1 _) PySem.F.entry_list_init
  (code_list_new _ (U,U)) λobj g h₁=>?_
 let(U,U):=h₁;let hS:(s.heap.push {cls:=.type "list",data:=.seq #[]}).get? s.heap.objs.size=Z {cls:=.type "list",data:=.seq #[]}:=pB _ U;let(aQ,g1,_):=K.obj;let(aM,g2,_):=q.obj;let(aI,g3):=aD.obj;let(aH,g4):=av.obj;let up:∀b o,s.heap.get? b=Z o->(s.heap.push {cls:=.type "list",data:=.seq #[]}).get? b=Z o:=λb o e=>ja _ e
 refine((_,hS,U),PySem.F.args_list_init_2 _ _,Jz hh D (sR (kE hz)) (sR (kE V)) (sR (kE P)) (sR (kE g1)) (sR (kE g2)) (sR (kE g3)) (sR (kE g4))
  (up _ _ hz) (up _ _ P) (up _ _ V) (K.at λo e=>up _ o e) (q.at λo e=>up _ o e) (aD.at λo e=>up _ o e) (av.at λo e=>up _ o e) en hn hS (λh' tk acc c as hk aE hl hG fB=>?_))
 rw[zM]at hG;exact(U,hQ h' tk acc c as (λb o b2 b3 b4 b5 e=>hk b o (sR (kE e)) b2 b3 b4 b5 (up b o e)) aE hl hG fB)
end
def EK(h:Do)(m:Nat):Do:={h with objs:=h.objs.extract 0 m}
def mI{m b:Nat}(g:b<m):(EK h m).get? b=h.get? b:=by
 unfold EK Heap.get?;let e:(h.objs.extract 0 m)[b]?=h.objs[b]?:=by
  rw[Array.getElem?_extract];by_cases q:b<h.objs.size
  ·rw[if_pos (by lia),Nat.zero_add]
  ·rw[if_neg (by lia),VS (by lia)]
 simp only[e]
def sr(hm:m<=h.objs.size):(EK h m).objs.size=m:=by
 unfold EK;rw[Array.size_extract]
 lia
def MX{b:J}(hm:m<=h.objs.size)(e:(EK h m).get? b=Z u):h.get? b=Z u:=by
 have:=kE e
 rw[sr hm]at this;rw[<- mI this];exact e
def m5(H:Hp):List (J×HO)->Hp
 |[]=>H
 |p::r=>m5 (upd H p.1 p.2) r
theorem mZ:∀{os:List (J×HO)}{H:Hp}{c:J},c ∉ os.map (·.1)->m5 H os c=H c
 |[],_,_,_=>rfl
 |p::r,H,c,h=>by
  show m5 (upd H p.1 p.2) r c=H c;rw[mZ (λz=>h (j0 _ z)),ak λz=>h (by rw[z];exact g5)]
theorem m4:∀{os:List (J×HO)}{H:Hp}{p:J×HO},(os.map (·.1)).Nodup->p∈os->m5 H os p.1=Z p.2
 |q::r,H,p,hn,hp=>by
  let h':=sP.mp hn;show m5 (upd H q.1 q.2) r p.1=Z p.2;obtain rfl|hp:=kf.mp hp
  ·rw[mZ h'.1,ax]
  ·exact m4 h'.2 hp
theorem xW:∀as:List J,Vals (as.map V.ref) (as.map B.ref)
 |[]=>.nil
 |a::r=>.cons U (xW r)
theorem Inv.HL{σ:St}{s:ϋ}:∀{os:List (J×HO)}{H:Hp}{m:Nat},Inv X gV σ H {s with heap:=EK h' m}->m<=h'.objs.size->(os.map (·.1)).Pairwise (· < ·)->(∀p∈os,m<=p.1/\p.1<h'.objs.size) ->
  (∀p∈os,∀(H2:Hp)(P:Do),P.get? p.1=h'.get? p.1->da X.prog X.w H2 P p.1 p.2)->Inv X gV σ (m5 H os) {s with heap:=h'}
 |[],H,m,I,hm,_,_,_=>I.kept λb u e=>MX hm e
 |p::r,H,m,I,hm,hp,Q,ho=>by
  let g:=XH.mp hp;let(b1,b2):=Q p g5;let K:=b2;let V:=by
   refine I.laid (t':=s.toks) (λb u e=>?_) ?_ (ho p g5 _ _ (mI (VA _)))
   ·let lt:=kE e;rw[sr hm]at lt;let z:=zI lt (u4 b1 (Nat.le_succ _));rw[mI z,<- mI lt];exact e
   ·rw[sr hm];exact b1
  exact Inv.HL (os:=r) V K g.2 (λq hq=>(g.1 q.1 (ui.mpr (q,hq,U)),(Q q (j0 _ hq)).2)) λq hq=>ho q (j0 _ hq)
def qw(K:BT)(tl:TA):TE:=λσ H R=>tl σ H λvs H1=>Q4 λl1 l2 xs ys=>vs=[.ref l1,.ref l2]/\SqT K H1 l1 xs/\SqT K H1 l2 ys/\∀(H2:Hp)(L:J)(ps:List J),H1 L=Y->ps.length=min xs.length ys.length->ps.Nodup->(∀p∈ps,H1 p=Y/\p≠L)->(∀c,c ∉ ps->c≠L->H2 c=H1 c)->H2 L=Z (.lst (ps.map V.ref))->(∀(j:Nat) p x y,ps[j]?=Z p->xs[j]?=Z x->ys[j]?=Z y->H2 p=Z (.tup [x,y]))->R (.ref L) H2
section
variable{a:Ev}{tl:TA}{pos p cq p2:Pos}
def AR(hg:Gl X "list")(hm:X.mg "list"=Y)(bw:Gl X "zip")(a5:X.mg "zip"=Y)(ha:PA X [a,b] tl)(hs:kz [a,b] X.env=[(ϊ,eval a X.env),(ϊ,eval b X.env)])(aI:AD X b)
  (aH:kz [.Call (.Name "zip" p2) [a,b] [] cq] X.env=(ϊ,eval (.Call (.Name "zip" p2) [a,b] [] cq) X.env)::kz [] X.env) (hc:X.calm=O):
  PE X (.Call (.Name "list" p) [.Call (.Name "zip" p2) [a,b] [] cq] [] pos) (qw X.K tl):=by
 intro gV s σ H R I h;refine Call_ (dM I hg hm (by kernel_rfl) (PyProof.Rows.callWith_type1 (T:="list") ?_ aH (by rfl)))
 rw[aH];refine Calls.spliced_cons ?_;refine Call_ (dM I bw a5 (by kernel_rfl) (PyProof.Rows.callWith_type1 (T:="zip") (thn (ha cq gV s σ H _ I h) λus s1 (vs,H1,P,r1,q1)=>?_) (by rw[hs,aI]) (by rw[aI];rfl)))
 let(l1,l2,xs,ys,e,q2,q3,q):=q1;subst e;let(u1,u2,U,aQ,aM):=vals2 r1;cases aQ;cases aM;let(Ey,av,o1,z1):=P.ng (tp:=O) q2;let(bD,Q,o2,z2):=P.ng (tp:=O) q3;let(b7,e1):=o1.obj;let(b6,e2):=o2.obj;let g1:l1<s1.heap.objs.size:=kE e1;let g2:l2<s1.heap.objs.size:=kE e2;refine iZ o1 o2 λh1 hz b0 bP bt a7 hk=>?_
 refine Calls.spliced_nil ?_;let nz:s1.heap.objs.size+4<h1.objs.size:=kE hz;let a4:=av.length;let aS:=Q.length;refine JA (t1:=O) (t2:=O) (xs:=Ey.toArray) (ys:=bD.toArray) (n:=min xs.length ys.length) (P.ok.hd hc) (jr g1 g2) hz bP b0 bt a7 (o1.at λo e=>hk _ o e) (o2.at λo e=>hk _ o e) (by simp[a4,aS]) (by omega) λh' tk acc c as a6 hS hl g fB=>?_
 let fr:∀b u,s1.heap.get? b=Z u->h'.get? b=Z u:=λb u e=>by
  let lt:b<s1.heap.objs.size:=kE e;let ne:∀m:Nat,s1.heap.objs.size<=m->b≠m:=λm hm z=>absurd (z▸lt:m<s1.heap.objs.size) (by omega)
  exact a6 b u (ne _ (by omega)) (ne _ (by omega)) (ne _ (mW _)) (ne _ (by omega)) (hk b u e)
 let I2:=P.kept (t':=tk) λb u e=>by rw[mI (kE e)];exact fr b u e
 let lS:h1.objs.size<h'.objs.size:=kE hS;let keys:(((Prod.mk h1.objs.size (HO.lst (as.map V.ref))) ::(as.zip (xs.zip ys)).map λp=>(Prod.mk p.1 (HO.tup [p.2.1,p.2.2]))).map (·.1))=h1.objs.size::as:=by
  rw[xG,Jg]
  congr 1
  have:((λx:J×HO=>x.1) ∘ λp:J×V×V=>(p.1,HO.tup [p.2.1,p.2.2]))=Prod.fst:=rfl
  rw[this,X1 (by rw[Ii];omega)]
 let pw:(h1.objs.size::as).Pairwise (· < ·):=XH.mpr (λa ha=>g.above a ha,g.rise)
 let at':∀(j:Nat)(p:J×V×V),(as.zip (xs.zip ys))[j]?=Z p->as[j]?=Z p.1/\xs[j]?=Z p.2.1/\ys[j]?=Z p.2.2:=λj p hp=>by
  let h1:=Fs.mp hp;let h2:=Fs.mp h1.2;exact(h1.1,h2.1,h2.2)
 let I3:=Inv.HL (X:=X) (s:={s1 with toks:=tk}) (m:=s1.heap.objs.size) (h':=h') I2 (by omega) (by rw[keys];exact pw) (λp hp=>?_) (λp hp H2 hh e=>?_)
 ·let nd:(h1.objs.size::as).Nodup:=pw.imp λh=>sR h
  let aE:=sP.mp nd;refine(.ref h1.objs.size,_,I3,U,q _ h1.objs.size as (P.hok.fresh (by omega)) hl aE.2 (λp hp=>(P.hok.fresh ?_,λz=>aE.1 (z▸hp))) (λc c1 c2=>?_) ?_ (λj p x y hp hx hy=>?_))
  ·have:=g.above p hp
   exact u4 (show s1.heap.objs.size<=h1.objs.size+1 by omega) this
  ·exact mZ (by rw[keys];exact λz=>(kf.mp z).elim c2 c1)
  ·exact m4 (by rw[keys];exact nd) g5
  ·let hz:(as.zip (xs.zip ys))[j]?=Z (p,x,y):=Fs.mpr (hp,Fs.mpr (hx,hy));exact m4 (p:=(p,HO.tup [x,y])) (by rw[keys];exact nd) (j0 _ (ui.mpr (_,pA hz,U)))
 ·have:p.1∈h1.objs.size::as:=by rw[<- keys];exact ui.mpr (p,hp,U)
  obtain z|z:=kf.mp this
  ·rw[z];exact(by omega,lS)
  ·let ab:=g.above p.1 z;exact(u4 (show s1.heap.objs.size<=h1.objs.size+1 by omega) ab,g.there z)
 ·obtain rfl|hp:=kf.mp hp
  ·refine(by rw[dz];omega,acc.toList,c,by rw[fB];exact xW as,?_)
   rw[e];exact hS
  ·let(t,ht,U):=ui.mp hp;let(j,hj):=Wn ht;let(a1,a2,a3):=at' j t hj;let(x,y,x1,y1,pr):=g.pairs j t.1 a1;let(u1,w1,r1):=av.get a2;let(u2,w2,r2):=Q.get a3;rw[Wl,w1]at x1;cases x1;rw[Wl,w2]at y1;cases y1;let aD:hh.get? t.1=_:=e.trans pr;exact(by show 2<=mV;decide,[x,y],.cons r1 (.cons r2 .nil),((_,aD,U,_,U),_,aD,U))
end
section
variable{w:Cl}{s:ϋ}
theorem EE{i:Nat}{x old:B}{Q:Option B->ϋ->Prop}
  (he:IsEnum s.heap e it i old) (hit:aK s.heap tp it l i) (hl:a9 s.heap tp l items) (hx:items[i]?=Z x) (K:e≠it)
  (hQ:∀h',IsEnumOut h' e it ((i:Int)+1) x s.heap.objs.size->aK h' tp it l (i+1)->h'.get? s.heap.objs.size=Z {cls:=.type "tuple",data:=.seq #[.int i s.toks,x]}->h'.objs.size=s.heap.objs.size+1 ->
   (∀b o,b≠e->b≠it->s.heap.get? b=Z o->h'.get? b=Z o)->Q (Z (.ref s.heap.objs.size)) {s with heap:=h',toks:=s.toks+1}):wpAny (model prog w) A (pyNext (.ref e)) Q E s:=by
 let hT:s.TypeIs (.ref e) "enumerate":=(_,he,U);let(hp,g,d,tk,os):=s;refine cO (VO (wpAny_callSpecial?_slot hT F.slot_enumerate_next (Es F.slot_enumerate_next hT F.entry_enumerate_next ?_ (F.args_enumerate_next_1 _))));show wpAny _ _ (field (.ref e) 2 >>= _) _ _ _;refine cO (wpAny_field he U U ?_);refine cO (next_item hit hl hx λh1 UY aD=>?_)
 let aE:=(aD.2 e K).trans he;refine cO (wpAny_field aE U U ?_);refine cO (wpAny_field aE U U ?_);refine cO (wpAny_mkInt ?_);refine cO (wpAny_setField_rec aE (by simp) λh2 bD av=>?_)
 refine cO (wpAny_setField_rec bD (by simp) λh3 bw V=>?_)
 show wpAny _ _ (newTuple [.int i tk,x] >>= _) _ _ (h3,g,d,tk+1,os);refine cO (wpAny_newTuple ?_);let P:IsEnum (h3.push {cls:=.type "tuple",data:=.seq #[.int i tk,x]}) e it ((i)+1) old:=ja _ bw;let hsz:h3.objs.size=hp.objs.size:=by rw[V.1,av.1,aD.1]
 let a5:=kE he;let aM:(h3.push {cls:=.type "tuple",data:=.seq #[.int i tk,x]}).get? hp.objs.size=Z {cls:=.type "tuple",data:=.seq #[.int i tk,x]}:=by rw[<- hsz];exact pB _ U
 let aI:(h3.push {cls:=.type "tuple",data:=.seq #[.int i tk,x]}).objs.size=hp.objs.size+1:=by rw[zM,hsz]
 let a4:∀b o,b≠e->b≠it->hp.get? b=Z o->(h3.push {cls:=.type "tuple",data:=.seq #[.int i tk,x]}).get? b=Z o:=λb o q aH hb=>ja _ (V.extBut b o q (av.extBut b o q (aD.extBut b o aH hb)))
 let S7:aK (h3.push {cls:=.type "tuple",data:=.seq #[.int i tk,x]}) tp it l (i+1):=UY.at λo eo=>ja _ (V.extBut _ o K.symm (av.extBut _ o K.symm eo))
 generalize h3.push {cls:=.type "tuple",data:=.seq #[.int i tk,x]}=h4 at P aM aI a4 S7
 rw[hsz];refine cO ?_;refine cO (wpAny_field P U U (k4 ?_));refine cO (VL (cO (wpAny_field P U (x:=old) U (cO (wpAny_setField_rec P (by simp) λh5 bt a3=>?_)))))
 refine cO ?_;refine cO (wpAny_setField_rec bt (by simp) λh6 a7 aS=>?_)
 refine wpAny_setField_rec a7 (by simp) λh7 a6 aQ=>?_
 let up:∀c o,c≠e->h4.get? c=Z o->h7.get? c=Z o:=λc o hc z=>aQ.extBut _ _ hc (aS.extBut _ _ hc (a3.extBut _ _ hc z))
 refine cO (wpAny_letGo (k4 (_,U,k4 (hQ h7 a6 (S7.at λo eo=>up _ o K.symm eo) (up _ _ (Jh a5) aM) ?_ λb o q aH hb=>up b o q (a4 b o q aH hb)))))
 rw[aQ.1,aS.1,a3.1,aI]
theorem Iz{i:Nat}{old:B}{Q:Option B->ϋ->Prop}(z:A.handled=Y)
  (he:IsEnum s.heap e it i old) (hit:aK s.heap tp it l i) (hl:a9 s.heap tp l items) (hx:items[i]?=Y) (P:∀h',Xo it s.heap h'->Q Y {s with heap:=h'}):wpAny (model prog w) A (pyNext (.ref e)) Q E s:=by
 let hT:s.TypeIs (.ref e) "enumerate":=(_,he,U);refine cO (VO (wpAny_callSpecial?_slot hT F.slot_enumerate_next (Es F.slot_enumerate_next hT F.entry_enumerate_next ?_ (F.args_enumerate_next_1 _))));show wpAny _ _ (field (.ref e) 2 >>= _) _ _ _;refine cO (wpAny_field he U U ?_);refine cO (next_end z hit hl hx λh' x q g=>?_)
 let(o,ho,K):=g;refine cO (VM (o,ho,K) isSubtype_stop ?_);exact k4 (P _ q)
abbrev eH1(tp:Bool)(h:Do)(l:J):Do:=h.push {cls:=.type (itc tp),data:=.fields #[.ref l,.int 0 0]}
abbrev eH2(tp:Bool)(h:Do)(l:J):Do:=(eH1 tp h l).push {cls:=.type "enumerate",data:=.fields #[.none,.bool ϊ,.ref h.objs.size,rawInt 0,.none,.none]}
def rJ(tp:Bool)(l:J)(xs:Array B):
  Meets (Builtin.«enumerate.__new__» ([.type "enumerate",.ref l],[])) (λ_ R s=>a9 s.heap tp l xs/\R (.ok (.ret (.ref (eH1 tp s.heap l).objs.size))) {s with heap:=eH2 tp s.heap l}) :=
 .of_wp λprog w A R s h=>by
  let(hl,h):=h;let q:=sub_enumerate;let g:=hl
  wp_walk
  refine wpAny_stack_any λst=>k4 ?_
  split
  ·rename_i c _ _ _ _ _
   cases(c==B.type "enumerate")
   ·wp_walk using jK g
    exact(_,U,h)
   ·wp_walk using jK g
    exact(_,U,h)
  ·wp_walk using jK g
   exact(_,U,h)
theorem uh(hl:a9 s.heap tp l xs)
  (h:∀h',IsEnum h' (s.heap.objs.size+1) s.heap.objs.size 0 .none->aK h' tp s.heap.objs.size l 0->(∀b o,s.heap.get? b=Z o->h'.get? b=Z o)->Q (.ref (s.heap.objs.size+1)) {s with heap:=h'}):
  wpAny (model prog w) A (call (.type "enumerate") [.ref l]) Q E s:=by
 refine callType_new F.called_enumerate (by decide) (F.typeCall_enumerate_1 _) (F.newCall_enumerate_1 _) (λobj=>F.args_object_init_2 obj _) F.entry_enumerate_new (rJ tp l xs) (hl,?_)
 let g:(eH1 tp s.heap l).objs.size=s.heap.objs.size+1:=zM ..;let g2:(eH2 tp s.heap l).get? (eH1 tp s.heap l).objs.size=Z _:=pB _ U;let g1:(eH2 tp s.heap l).get? s.heap.objs.size=Z _:=ja _ (pB _ U);rw[g]at g2 ⊢;exact((_,g2,U),h _ g2 (jw g1) λc o x=>ja _ (ja _ x))
end
def Ite(K:BT)(tp:Bool)(l:J):It :=
 (λi H=>∃xs x,SqB K tp H l xs/\xs[i]?=Z x,
   λi H v H'=>∃(p:J)(x:V),H p=Y/\v=.ref p/\H'=upd H p (.tup [.int i,x])/\∀xs,SqB K tp H l xs->xs[i]?=Z x,
   λi H=>∃xs,SqB K tp H l xs/\xs.length<=i)
theorem DC{K:BT}(e it l:J)(Q:e≠it):
  Turn P w K (.Tuple elts x1 pos) (Ite K tp l) [e,it] e (λi h=>(∃old,IsEnum h e it i old)/\aK h tp it l i) where
 mem:=by simp
 obj:=by
  rintro i h ⟨⟨old,h1⟩,h2⟩ c q
  simp only[kf,xH,or_false]at q;obtain rfl|rfl:=q
  ·exact(_,h1,λv e=>by cases e)
  ·exact h2.obj
 keep:=by
  rintro i h h' ⟨⟨old,h1⟩,h2⟩ k
  exact((old,k e (by simp) _ h1),h2.at λo z=>k it (by simp) o z)
 item:=by
  intro X hP hw hK q i gV s σ H E I hf st hg;subst hP hw hK;let((old,h1),h2):=st;let(xs,x,q1,e1):=hg;let(its,rv,o1,z1):=I.ng q1;let(u1,aE,aD):=rv.get e1;refine EE h1 h2 o1 (x:=u1) (by simpa using aE) Q λh' aH aM aQ UP aI=>(_,U,(wpAny_letOwnedTupleGo_enum aH λav U2 P7=>?_))
  let hn:=I.hok.fresh (mW s.heap.objs.size);let le:=kE h1;let(oi,aS,_):=h2.obj;let li:=kE aS;let Pu:∀b ∈ [e,it],b≠s.heap.objs.size:=λb g=>by
   simp only[kf,xH,or_false]at g;obtain rfl|rfl:=g
   ·exact sR le
   ·exact sR li
  let up:∀c o,c≠e->h'.get? c=Z o->av.get? c=Z o:=λc o q z=>P7.extBut _ _ q z
  let I1:Inv X gV σ (upd H s.heap.objs.size (.tup [.int i,x])) {s with heap:=s.heap.push {cls:=.type "tuple",data:=.seq #[.int i s.toks,u1]},toks:=s.toks+1} :=
   I.laid (λb u z=>ja _ z) (mW _) (by show 2<=mV;decide,[.int i s.toks,u1],.cons (_,U) (.cons aD .nil),((_,pB _ U,U,_,U),_,pB _ U,U))
  let V:∀b ∈ [e,it],sS X gV (upd H s.heap.objs.size (.tup [.int i,x])) b:=λb g=>by
   let(f0,r):=hf b g;exact(by rw[ak (Pu b g)];exact f0,r)
  let I2:=by
   refine I1.pE (h':=av) (t':=s.toks+1) (λb o g z=>?_) V
   simp only[kf,xH,or_false,not_or]at g;let(b1,b2):=g;obtain⟨rfl,rfl⟩|z':=Xp z
   ·exact up _ _ b1 aQ
   ·exact up _ _ b1 (aI b o b1 b2 z')
  exact(.ref s.heap.objs.size,upd H s.heap.objs.size (.tup [.int i,x]),I2,U,(_,x,hn,U,U,λzs hz=>by rw[I.qK hz q1];exact e1),(((_,by simpa using U2),aM.at λo z=>up _ _ Q.symm z)),λb g=>(V b g).1)
 done:=by
  intro X hP hw hK q i gV s σ H E I hf st hg;subst hP hw hK;let((old,h1),h2):=st;let(xs,q1,rZ):=hg;let(its,rv,o1,z1):=I.ng q1;let g1:=rv.length;refine Iz (I.ok.hd q) h1 h2 o1 (by simp;lia) λh' k=>(U,I.pE (λb o g z=>?_) hf)
  simp only[kf,xH,or_false,not_or]at g;exact k b o g.2 z
 self:=λ_ _ _ _ _ st h=>let((_,z),_):=st;wpAny_pyIter_enum z h
def zb(K:BT)(tp:Bool)(ta:TA):TI:=λσ H R=>ta σ H λvs H1=>∃l,vs=[.ref l]/\(∃xs,SqB K tp H1 l xs)/\R (Ite K tp l) H1
def Lo{a:Ev}(hg:Gl X "enumerate")(hm:X.mg "enumerate"=Y)(gu:bootBuiltins "enumerate"=Z (.type "enumerate"))(ha:PA X [a] ta)(hs:AD X a:=by rfl):
  PI X (.Tuple elts x1 pos') (.Call (.Name "enumerate" p) [a] [] pos) (zb X.K tp ta):=by
 intro gV s σ H R I h;refine Call_ (dM I hg hm gu (PyProof.Rows.callWith_type1 (thn (ha pos gV s σ H _ I h) λus s1 (vs,H1,P,r1,q1)=>?_) hs U))
 let(l,e,(xs,q2),q):=q1;subst e;let(u1,U,Q):=vals1 r1;cases Q;let(its,rv,o1,z1):=P.ng q2;refine uh o1 λh' he hi hk=>wpAny_pyIter_enum he ?_
 refine(_,[s1.heap.objs.size+1,s1.heap.objs.size],_,_,H1,U,P.kept hk,DC _ _ l (λz=>absurd (show @Eq Nat _ _ from z) (by lia)),((_,he),hi),λc V=>?_,q)
 let g:s1.heap.objs.size<=c:=by
  simp only[kf,xH,or_false]at V;obtain rfl|rfl:=V <;> first|exact Nat.le_add_right _ _|exact mW _
 exact P.Ir g (P.hok.fresh g)
end L2
namespace PySem
open Sem (wp)
def F8:mroOf (.type "reversed")=pure [.type "reversed",.type "object"]:=by kernel_rfl
def Ow:typeLookup (.type "reversed") "__new__"=pure (Z (.builtin "reversed.__new__")):=by kernel_rfl
def vN:Slot "reversed" "__init__" "object.__init__" :=
 .of (owner:="object") (n:="__init__") (by kernel_rfl) (by decide +kernel) (by decide +kernel) (by decide +kernel) (by exact .inl (by decide +kernel)) (by kernel_rfl)
def F6:isSubtype (.type "reversed") (.type "reversed")=pure true:=by kernel_rfl
def DQ:TypeCalled "reversed" "reversed.__new__" "object.__init__" :=
 (by decide +kernel,by decide +kernel,(_,_,F8),madeBy_type F8 Ow (by decide +kernel),by decide +kernel,by kernel_rfl,vN)
def yb(a:B):checkTypeCall "reversed" ([a],[])=pure ():=by kernel_rfl
def As(a:B):checkBuiltinCall "reversed.__new__" ([.type "reversed",a],[])=pure ():=by kernel_rfl
def vO:entryFor table "reversed.__new__"=Z Builtin.«reversed.__new__»:=entryFor_of_tree (by kernel_rfl)
def F7:Manifest.owners.lookup (String.ofList ['d','e','s','r','e','v','e','r'].reverse)=Z Manifest.sig_reversed:=by kernel_rfl
def dZ:Slot "reversed" "__next__" "reversed.__next__" :=
 .of (owner:="reversed") (n:="__next__") (by kernel_rfl) (by decide +kernel) (by decide +kernel) (by decide +kernel) (by exact .inl (by decide +kernel)) (by kernel_rfl)
def kF:entryFor table "reversed.__next__"=Z Builtin.«reversed.__next__»:=entryFor_of_tree (by kernel_rfl)
def lU(a:B):argsOk "reversed.__next__" ([a],[]):=by
 kernel_rfl
def lT:Slot "reversed" "__iter__" "reversed.__iter__" :=
 .of (owner:="reversed") (n:="__iter__") (by kernel_rfl) (by decide +kernel) (by decide +kernel) (by decide +kernel) (by exact .inl (by decide +kernel)) (by kernel_rfl)
def vP(a:B):argsOk "reversed.__iter__" ([a],[]):=by
 unfold argsOk;rw[signature?_of (n:=['_','_','r','e','t','i','_','_']) (by kernel_rfl) F7]
 kernel_rfl
def tI:entryFor table "reversed.__iter__"=Z Builtin.«dict_keyiterator.__iter__» :=
 entryFor_alias (id':="dict_keyiterator.__iter__") (by kernel_rfl) (by rfl) (by decide +kernel) (by kernel_rfl)
def iG:Slot "reversed" "__length_hint__" "reversed.__length_hint__" :=
 .of (owner:="reversed") (n:="__length_hint__") (by kernel_rfl) (by decide +kernel) (by decide +kernel) (by decide +kernel) (by exact .inr (by decide +kernel)) (by kernel_rfl)
def tJ:entryFor table "reversed.__length_hint__"=Z Builtin.«reversed.__length_hint__»:=entryFor_of_tree (by kernel_rfl)
def vQ(a:B):argsOk "reversed.__length_hint__" ([a],[]):=by
 kernel_rfl
def DP:typeLookup (.type "reversed") "__len__"=pure none:=by kernel_rfl
def z8:typeLookup (.type "tuple") "__reversed__"=pure none:=by kernel_rfl
def vo:isSubtype (.type "tuple") (.type "dict")=pure false:=by kernel_rfl
section
variable{prog:Da}{w:Cl}{A:Db}{E:B->ϋ->Prop}{s:ϋ}
def Ga(l:J)(i:Int):Obj:={cls:=.type "reversed",data:=.fields #[.ref l,rawInt i]}
abbrev E5(h:Do)(a l:J)(i:Int):Prop:=h.get? a=Z {cls:=.type "reversed",dict:=Y,data:=.fields #[.ref l,rawInt i],slots:=#[]}
theorem F9(l:J)(items:Array B)(z:(items.size:Int)<2 ^ 63):
  Meets (Builtin.«reversed.__new__» ([.type "reversed",.ref l],[])) (λ_ R s=>s.heap.IsTuple l items /\
   R (.ok (.ret (.ref s.heap.objs.size))) {s with heap:=s.heap.push (Ga l ((items.size:Int) - 1)),toks:=s.toks+1+1}) :=
 .of_wp λprog w A R s h=>by
  let(hp,g,d,tk,os):=s;let(hl,h):=h;let hT:((hp,g,d,tk,os):ϋ).TypeIs (.ref l) "tuple":=by let(o,ho,q,_):=id hl;exact(o,ho,q)
  refine cO (Wc (a:=(B.type "reversed",[B.ref l])) ?_ ?_)
  ·unfold Builtin.SmallTypes.newClass;simp only[isType,F6,pure_bind,Bool.not_true,Wu,if_false]
  refine cO (Wc (a:=()) (by first|rfl|kernel_rfl) (cO (Wc (a:=()) (by first|rfl|kernel_rfl) (cO (Rv hT z8 (cO ?_))))))
  refine cO (VM hT vo ?_);refine cO (Rv hT F.slot_tuple_getitem.lookup ?_);show wpAny _ _ (if(_:List String).contains "tuple.__getitem__"=O then _ else _) _ _ _
  refine k4 ?_;refine cO (PyProof.Rows.len_tuple hl (by omega) ?_)
  refine cO (Wc U ?_);refine cO ?_;unfold Builtin.SmallTypes.newRecord;exact VQ (k4 (_,U,h))
theorem Kj{items:Array B}{Q:B->ϋ->Prop}(g:(items.size:Int)<2 ^ 63)(hl:s.heap.IsTuple l items)
  (h:Q (.ref s.heap.objs.size) {s with heap:=s.heap.push (Ga l ((items.size:Int) - 1)),toks:=s.toks+1+1}):wpAny (model prog w) A (call (.type "reversed") [.ref l]) Q E s :=
 callType_new DQ (by decide) (yb _) (As _) (λobj=>F.args_object_init_2 obj _) vO (F9 l items g) (hl,(_,pB _ U,U),h)
theorem Kh{i:Nat}{items:Array B}{x:B}{Q:Option B->ϋ->Prop}(ub:(items.size:Int)<2 ^ 63)(hr:E5 s.heap a l (i:Int))(hl:s.heap.IsTuple l items)(hx:items[i]?=Z x)
  (V:∀h',E5 h' a l ((i:Int) - 1)->Wf a s.heap h'->Q (Z x) {s with heap:=h',toks:=s.toks+1}):wpAny (model prog w) A (pyNext (.ref a)) Q E s:=by
 let hT:s.TypeIs (.ref a) "reversed":=(_,hr,U);let z:s.TypeIs (.ref l) "tuple":=by let(o,ho,P,_):=id hl;exact(o,ho,P)
 let K:=(Array.getElem?_eq_some_iff.mp hx).1;refine cO (VO (wpAny_callSpecial?_slot hT dZ (Es dZ hT kF ?_ (lU _))));show wpAny _ _ (field (.ref a) 0 >>= _) _ _ _;refine cO (wpAny_field hr U U ?_);refine cO (wpAny_field hr U U ?_);show wpAny _ _ (if(i:Int)<0 then _ else _) _ _ s
 refine cO (Rv z F.slot_tuple_getitem.lookup ?_);refine cO (wpAny_mkInt (cO (VO (PyProof.Rows.getItem_tuple (j:=i) (x:=x) hl (by omega) (by omega) ?_ hx ?_))))
 ·unfold seqIndex?;simp
  lia
 refine cO (wpAny_field hr U U ?_);exact cO (wpAny_setField_rec hr (by simp) λh' q g=>(k4 (_,U,k4 (V h' q g))))
def Ox{Q:Option B->ϋ->Prop}(V:A.handled=Y)(hr:E5 s.heap a l (-1))(hQ:∀h',Xo a s.heap h'->Q Y {s with heap:=h'}):wpAny (model prog w) A (pyNext (.ref a)) Q E s:=by
 let hT:s.TypeIs (.ref a) "reversed":=(_,hr,U);refine cO (VO (wpAny_callSpecial?_slot hT dZ (Es dZ hT kF ?_ (lU _))));show wpAny _ _ (field (.ref a) 0 >>= _) _ _ _;refine cO (wpAny_field hr U (x:=.ref l) U ?_);refine cO (wpAny_field hr U U ?_);show wpAny _ _ (if(-1)<0 then _ else _) _ _ s
 refine cO (VL (cO ?_));refine cO (wpAny_setField_rec hr (by simp) λh1 z q=>?_)
 refine wpAny_setField_rec z (by simp) λh2 P g=>(cO ?_)
 refine cO ?_;refine cO (m:=firstArgMember _ _) (Wc (by rfl) ?_)
 refine VQ ?_ (by size_fits)
 refine cO (wpAny_handled ?_);rw[V];refine cO (k4 (wpAny_throw ?_));refine cO (VM (_,pB _ U,U) isSubtype_stop ?_);exact k4 (hQ _ (λb o K e=>ja _ (ja _ (g.extBut b o K (q.extBut b o K e)))))
def Kg{Q:B->ϋ->Prop}(hr:E5 s.heap a l i)(h:Q (.ref a) s):wpAny (model prog w) A (pyIter (.ref a)) Q E s:=by
 let hT:s.TypeIs (.ref a) "reversed":=(_,hr,U);refine wpAny_pyIter_slot hT lT (Es lT hT tI ?_ (vP _));exact k4 (_,U,"reversed",_,hT,dZ.lookup,h)
end
section
variable{prog:Da}{w:Cl}{A:Db}{E:B->ϋ->Prop}{s:ϋ}
def Ki{items:Array B}{i:Nat}{Q:Bool->ϋ->Prop}(V:items.size<=mV)(P:(items.size:Int)<2 ^ 63)(hi:i<=items.size)(hr:E5 s.heap I l ((i:Int) - 1))(hl:s.heap.IsTuple l items)(z:∀b tk,s.toks<=tk->Q b {s with toks:=tk}):
  wpAny (model prog w) A (Builtin.List.listLengthHint (.ref I)) Q E s:=by
 let hT:s.TypeIs (.ref I) "reversed":=(_,hr,U);refine cO (Rv hT DP ?_);refine cO (Rv hT iG.lookup ?_)
 generalize g:("reversed.__length_hint__")=q
 subst g;refine cO (VM hT F6 ?_);refine cO (VL (cO (Wc (iG.bind _) (cO (VO (Es iG hT tJ ?_ (vQ _)))))));show wpAny _ _ (field (.ref I) 0 >>= _) _ _ _;refine cO (wpAny_field hr U U ?_);refine cO (PyProof.Rows.len_tuple hl (by omega) ?_)
 show wpAny _ _ (field (.ref I) 1 >>= _) _ _ _;refine cO (wpAny_field hr U U ?_);show wpAny _ _ (if(items.size:Int)<(i:Int) - 1+1 then _ else _) _ _ _
 rw[if_neg (by omega)]
 refine cO (wpAny_mkInt (k4 (_,U,?_)));refine cO (Wc U ?_);let f1:Builtin.List.listFitsIndex ((i:Int) - 1+1)=true:=by unfold Builtin.List.listFitsIndex;simp;omega
 let f2:¬((i:Int) - 1+1)<0:=by omega
 let K:Builtin.List.listTooLong ((i:Int) - 1+1).toNat=false:=by unfold Builtin.List.listTooLong;simp;omega
 dsimp only;rw[if_neg (by rw[f1];decide),if_neg f2,if_neg (by rw[K];decide)]
 exact k4 (z _ _ (by omega))
def Walks.rv(hh:A.handled=Y)(I l:J)(K:l≠I)(items:Array B)(ub:(items.size:Int)<2 ^ 63):
  Walks prog w A I [I,l] [I] items.size (λi v=>items[items.size - 1 - i]?=Z v) (λi h=>i<=items.size/\E5 h I l (((items.size - i:Nat):Int) - 1)/\h.IsTuple l items) where
 sub:=λb g=>by simp at g;simp[g]
 frame:=λ_ _ _ x hk=>(x.1,hk I (by simp) _ x.2.1,let(o,ho,r):=x.2.2;(o,hk l (by simp) o ho,r))
 item:=λi s Q E hi x z=>by
  let e:((items.size - i:Nat):Int) - 1=((items.size - 1 - i:Nat)):=by lia
  let hit:=x.2.1;rw[e]at hit;let hx:items[items.size - 1 - i]?=Z (items[items.size - 1 - i]'(by omega)):=VJ (by omega)
  refine Kh ub hit x.2.2 hx λh' S8 q=>?_
  let e2:((items.size - 1 - i:Nat):Int) - 1=((items.size - (i+1):Nat)) - 1:=by lia
  rw[e2]at S8;exact z _ h' _ hx (hi,S8,let(o,ho,r):=x.2.2;(o,q.extBut _ _ K ho,r)) λb o g V=>q.extBut b o (λh=>g (by simp[h])) V
 done:=λs Q E x z=>by
  let hit:=x.2.1;rw[Wg]at hit;exact Ox hh hit λh' P=>z h' s.toks λb o g V=>P b o (λh=>g (by simp[h])) V
 self:=λ_ _ _ _ x z=>Kg x.2.1 z
theorem zg{I:J}{fp wr:List J}{n:Nat}{P:Nat->B->Prop}{St:Nat->Do->Prop}{ty:String}(W:Walks prog w A.in1 I fp wr n P St)(hT:∀i (s:ϋ),St i s.heap->s.TypeIs (.ref I) ty)
  (aH:(B.type ty == .type "list" || Value.type ty == .type "tuple")=ϊ) (aE:∀x ∈ ["set","frozenset","dict","dict_keys","dict_values","dict_items"],(B.type ty == .type x)=ϊ)
  (hint:∀(s:ϋ)(Q:Bool->ϋ->Prop)(E:B->ϋ->Prop),St 0 s.heap->(∀b tk,s.toks<=tk->Q b {s with toks:=tk})->wpAny (model prog w) A.in1 (Builtin.List.listLengthHint (.ref I)) Q E s)
  (S:J) (res:B) (c₀:Nat) (q:St 0 s.heap) (av:S ∉ fp) (hI:I∈fp) (hS:s.heap.get? S=Z {cls:=.type "list",data:=.seq #[] c₀})
  (hR:∀s' eV K,Moved (S::wr) (λg g'=>g'=g) s s'->s'.heap.get? S=Z {cls:=.type "list",dict:=Y,data:=.seq eV K,slots:=#[]}->ItemsOf P eV n->R (.ok (.ret res)) s') (hn:n<=mV):
  wpAny (model prog w) A.in1 (Builtin.List.listExtendWith (.ref S) (.ref I) res)
   (λfin s'=>match fin with|.done f=>R (.ok f) s' |.again K=>K.quiet=O/\codeAny (model prog w) A K R s') (λe s'=>R (.error e) s') s:=by
 let aI:S≠I:=λe=>av (e▸hI)
 let h1:Builtin.List.listSameRef (.ref S) (.ref I)=false:=by simp[Builtin.List.listSameRef,aI]
 refine cO (Vx (hT 0 _ q) ?_);rw[if_neg (by rw[Bool.or_assoc,h1,aH];decide)]
 refine cO (W.self 0 _ _ _ q (cO (E7 (hint _ _ _ q λb tk htk=>?_))))
 let tail:∀h' V c,s.toks<=V->(∀b o,b≠S->s.heap.get? b=Z o->h'.get? b=Z o)->h'.get? S=Z {cls:=.type "list",dict:=Y,data:=.seq #[] c,slots:=#[]} ->
   wpAny (model prog w) A.in1 (again (.builtin "list.extend.loop" ([.ref S,.ref I,res],[]))) (λfin s'=>match fin with|.done f=>R (.ok f) s' |.again K=>K.quiet=O/\codeAny (model prog w) A K R s') (λe s'=>R (.error e) s') {s with heap:=h',toks:=V}:=by
  intro h' V c ht hk aQ;exact k4 (QY F.plain_extend_loop _,codeAny_extend_loopS W.toS hn _ av _ n 0 _ _ _ U (Jf _) (W.frame 0 s.heap _ q λb hb o e=>hk b o (λz=>av (z▸hb)) e) aQ (ItemsOf.nil P) λs' eV K hm Bi fB=>hR s' eV K (λb o hb e=>hm.heap b o hb (hk b o (λz=>hb (by rw[z];exact g5)) e),hm.gens,hm.drawn,hm.os,u4 ht hm.toks) Bi fB)
 cases b with
 |false =>
  rw[if_neg ?_]
  ·exact tail _ _ _ htk (λ_ _ _ e=>e) hS
  ·intro z;rw[Xw,VY]at z;let(x,hx,hz):=z;rw[aE x hx]at hz;cases hz
 |true =>
  refine cO (VL (cO ?_));refine cO (TH hS U ?_);let aD:=BW (QH (·.push B.none)) hS U;refine TH aD U ?_;let aM:=BW (QH (·.pop)) aD U;exact tail _ _ _ htk (λb o hb e=>(zK _ _ (Ne.symm hb)).trans ((zK _ _ (Ne.symm hb)).trans e)) aM
theorem sy{I:J}{fp wr:List J}{n:Nat}{P:Nat->B->Prop}{St:Nat->Do->Prop}{ty:String}(W:Walks prog w A.in1.in1 I fp wr n P St)(hT:∀i (s:ϋ),St i s.heap->s.TypeIs (.ref I) ty)
  (aD:(B.type ty == .type "list" || Value.type ty == .type "tuple")=ϊ) (av:∀x ∈ ["set","frozenset","dict","dict_keys","dict_values","dict_items"],(B.type ty == .type x)=ϊ)
  (hint:∀(s:ϋ)(Q:Bool->ϋ->Prop)(E:B->ϋ->Prop),St 0 s.heap->(∀b tk,s.toks<=tk->Q b {s with toks:=tk})->wpAny (model prog w) A.in1.in1 (Builtin.List.listLengthHint (.ref I)) Q E s)
  (aE:St 0 s.heap) (aH:∀b∈fp,b<s.heap.objs.size) (hI:I∈fp)
  (hQ:∀s' eV c',Moved (s.heap.objs.size::wr) (λg g'=>g'=g) {s with heap:=s.heap.push {cls:=.type "list",data:=.seq #[]}} s' ->
   s'.heap.get? s.heap.objs.size=Z {cls:=.type "list",dict:=Y,data:=.seq eV c',slots:=#[]}->ItemsOf P eV n->Q (.ref s.heap.objs.size) s') (hn:n<=mV):
  wpAny (model prog w) A (call (.type "list") [.ref I]) Q E s:=by
 let V:=λhm=>V3 _ (aH _ hm)
 refine callType_codes (Q₁:=λobj q=>obj=.ref s.heap.objs.size/\q={s with heap:=s.heap.push {cls:=.type "list",data:=.seq #[]}}) F.called_list (F.typeCall_list_1 _) F.entry_list_init (code_list_new _ (U,U)) λobj q h₁=>?_
 let(U,U):=h₁;let hS:(s.heap.push {cls:=.type "list",data:=.seq #[]}).get? s.heap.objs.size=Z {cls:=.type "list",data:=.seq #[]}:=pB _ U;refine((_,hS,U),F.args_list_init_2 _ _,?_);refine cO ?_;refine cO (wpAny_seqItems hS U (k4 ?_));refine cO (TH hS U ?_);let aI:=BW (QH (λ_=>(#[]))) hS U
 let oth:∀b o,b≠s.heap.objs.size->(s.heap.push {cls:=.type "list",data:=.seq #[]}).get? b=Z o->((s.heap.push {cls:=.type "list",data:=.seq #[]}).update s.heap.objs.size (QH (λ_=>(#[])))).get? b=Z o :=
  λb o K e=>(zK _ _ (Ne.symm K)).trans e
 exact zg (hn:=hn) W hT aD av hint s.heap.objs.size .none _ (W.frame 0 s.heap _ aE λb K o e=>oth b o (λz=>V (z▸K)) (ja _ e)) V hI aI λs' eV c' hm aM fB=>((U,hQ s' eV c' (λb o K e=>hm.heap b o K (oth b o (λz=>K (by rw[z];exact g5)) e),hm.gens,hm.drawn,hm.os,hm.toks) aM fB))
end
end PySem
namespace L2
open PySem PySem.Spec PyProof.Rows
def m8(K:BT)(te:TE):TE:=λσ H Q=>te σ H λx H1=>∃l ys,x=.ref l/\SqT K H1 l ys/\∀q,H1 q=Y->Q (.ref q) (upd H1 q (.lst ys.reverse))
variable{X:Cx}{e:Ev}{te:TE}
def yC{p1 p2 cq pos:Pos}(hc:X.calm=O)(aI:Gl X "list")(aE:X.mg "list"=Y)(aH:Gl X "reversed")(aD:X.mg "reversed"=Y)(he:PE X e te)
  (g:AD X e:=by rfl) (av:kz [.Call (.Name "reversed" p2) [e] [] cq] X.env=[(ϊ,eval (.Call (.Name "reversed" p2) [e] [] cq) X.env)]:=by rfl):
  PE X (.Call (.Name "list" p1) [.Call (.Name "reversed" p2) [e] [] cq] [] pos) (m8 X.K te):=by
 intro gV s σ H Q I h;refine QR (dM I aI aE boot_list (PyProof.Rows.callWith_type1 ?_ av U));refine Calls.spliced_cons (QR (dM I aH aD boot_reversed (PyProof.Rows.callWith_type1 ?_ g U)));rw[g];refine Calls.spliced_cons (thn (he gV s σ H _ I h) λu s1 aQ=>?_)
 let(x,H1,I1,r1,l,ys,ex,hl,q):=aQ;subst ex;cases r1;refine Calls.spliced_nil ?_;let(its,rv,pl,hz):=I1.tuple hl;let hlen:=rv.length;let aS:=iS;let ub:(its.toArray.size:Int)<2 ^ 63:=by rw[p5];lia
 let P:l<s1.heap.objs.size:=by let(_,e,_):=id pl;exact kE e
 refine Kj ub pl (Calls.spliced_nil ?_);let W:=Walks.rv (prog:=X.prog) (w:=X.w) (A:=X.A.in1.in1) (I.ok.hd hc) s1.heap.objs.size l (sR P) its.toArray ub;refine sy W (λi s' st=>(_,st.2.1,U)) (by decide) (by decide)
  (λs' Q' E' st hq=>Ki (by rw[p5];omega) ub (mW _) (by simpa using st.2.1) st.2.2 hq)
  (Jf _,by exact pB _ U,let(o,ho,r):=pl;(o,ja _ ho,r)) (λb V=>?_) (by simp) (λs' eV c' hm aM fB=>?_) ?_
 ·rw[zM];obtain z|z:=kf.mp V
  ·rw[z];exact VA _
  ·rw[ej.mp z];exact V2 P
 ·rw[Moved.eq_with hm];let kp:=λb o e=>hm.heap b o (λz=>by
   let V:@LT.lt Nat _ b s1.heap.objs.size:=kE e;obtain z|z:=kf.mp z
   ·rw[z]at V;simp only[zM]at V
    lia
   ·rw[ej.mp z]at V
    lia) (ja _ (ja _ e))
  let hv:=xV (by simpa using rv) fB
  let hf:H1 ((s1.heap.push (Ga l ((its.toArray.size) - 1))).objs.size)=none:=I1.hok.fresh (by rw[zM];omega)
  refine(.ref _,_,I1.laid (o:=.lst ys.reverse) kp (by rw[zM];omega) (by rw[UR];exact hz,eV.toList,c',hv,by simpa using aM),U,q _ hf)
 ·rw[p5];omega
variable{kvs:List (Key×V)}
section
variable{gV:List (J×Obj)}{σ:St}{H:Hp}{s:ϋ}{a:J}{u u':HO}
def Inv.B5(I:Inv X gV σ H s)(ha:H a=Z u)(h1:∀xs,u ≠ .tup xs)(h2:∀c,u ≠ .own c)(h3:∀ps,u ≠ .tbl ps)(K:∀o v,X.H₀ a≠Z (.frz o v))(new:da X.prog X.w (upd H a u') s.heap a u'):Inv X gV σ (upd H a u') s:=by
 let ne:∀{b:J},H b=Y->b≠a:=λ{b} e z=>by rw[z,ha]at e;cases e
 refine(I.ok,I.os,I.bare,(I.base.keep,I.base.slot,λb o e n hx=>?_,I.base.there,λb xs e=>?_,λb o v e=>?_,λb ps e=>?_),I.loc,I.cell,?_,λx c e=>?_,λp hp=>?_,λb o e=>?_,I.len)
 ·have:=I.base.free b o e n hx
  rw[ak (ne this)];exact this
 ·have:=I.base.qj b xs e
  rw[ak λz=>by rw[z,ha]at this;exact h1 xs (Option.some.inj this)]
  exact this
 ·have:=I.base.k9 b o v e
  rw[ak λz=>by rw[z]at e;exact K o v e]
  exact this
 ·let(more,this):=I.base.qm b ps e;refine(more,?_);rw[ak λz=>by rw[z,ha]at this;exact h3 _ (Option.some.inj this)]
  exact this
 ·rw[ak (ne I.free)];exact I.free
 ·rw[ak (ne (I.gx x c e))];exact I.gx x c e
 ·let(p1,p2,p3):=I.pin p hp;exact(p1,by rw[ak (ne p2)];exact p2,p3)
 ·by_cases g:b=a
  ·subst g;rw[ax]at e;cases e;exact new
  ·rw[ak g]at e;refine(I.hok b o e).cA (λ_ _ _ q=>q) (λc q=>?_) λc xs q=>?_
   ·rw[ak λz=>by rw[z,ha]at q;exact h2 _ (Option.some.inj q)];exact q
   ·rw[ak λz=>by rw[z,ha]at q;exact h1 _ (Option.some.inj q)];exact q
def Inv.freeze(I:Inv X gV σ H s)(ha:H a=Z (.dK kvs)):(∀o v,X.H₀ a≠Z (.frz o v))/\∃o,Inv X gV σ (upd H a (.frz o (.dK kvs))) s:=by
 let g:∀o v,X.H₀ a≠Z (.frz o v):=λo v e=>by
  have:=I.base.k9 a o v e
  rw[ha]at this;cases this
 let(z,hs,vs,r,o,es,q,e,c):=(I.hok a _ ha);exact(g,o,I.B5 ha (λ_ z=>nomatch z) (λ_ z=>nomatch z) (λ_ z=>nomatch z) g (e,z,hs,vs,r,o,es,q,e,c))
end
end L2
namespace PySem
open Sem (wp)
end PySem
namespace PySem
open Sem (wp)
open Builtin Builtin.ObjectAttr
section
variable{nm q:Str}{C N x:J}{bs bm bmB:List B}{sn:List Str}{sub:List B}{ab Qd:Bool}{col:Option Bool}{dd:Option J}{k0 k1 k2 k3 k5:Option B}{Yb newId sa owner:String}
 {mN mA:Str->Option B} {name:Str} {v:B} {S:List Str}
end
end PySem
namespace PySem
open Sem (wp)
open Builtin Builtin.ObjectAttr
section
variable{nm q:Str}{C N x:J}{bs bm bmB:List B}{sn:List Str}{sub:List B}{ab Qd:Bool}{col:Option Bool}{dd:Option J}{k0 k1 k2 k3 k5:Option B}{Yb newId:String}
 {mN mA:Str->Option B} {name:Str} {v:B} {S:List Str} {o:Obj}
end
end PySem
namespace PySem
open Sem (wp)
def QZ(h:Do)(e:J)(cls:B)(dx:Option J)(y:B):Prop :=
 ∃o vs a0,h.get? e=Z o/\o.cls=cls/\o.dict=dx/\o.data=.fields vs/\vs[0]?=Z a0/\vs[1]?=Z y
end PySem
namespace L2
open PySem PySem.Spec PyProof.Rows
def any_some{o:Option α}{f:α->Bool}(h:o.any f=O):∃a,o=Z a/\f a=true:=by
 cases o with
 |none=>cases h
 |some a=>exact(a,U,h)
def XAt(a C:J)(dx:Option J)(b:Bool)(h:Do):Prop:=∃y,QZ h a (.ref C) dx y/\(b=O->y=.none)
def XD(dx:J)(fs:List (Str×V))(h:Do):Prop:=∃mA,h.Ns1 dx mA/\(∀f,iz (fs.lookup f) (mA f))/\PySem.Within mA (fs.map (·.1))
def ExH(H:Hp)(a C:J)(b:Bool)(fs:List (Str×V)):Prop:=(fs=[]/\H a=Z (.ext (XAt a C Y b)))\/∃dx,dx≠a/\H a=Z (.ext (XAt a C (Z dx) b))/\H dx=Z (.ext (XD dx fs))
section
variable{P:Da}{w:Cl}{H:Hp}{h:Do}{d:J}{fs:List (Str×V)}
def XD.ok(x:XD d fs h):da P w H h d (.ext (XD d fs)):=by
 refine(x,?_,λh1 h2 (mA,(o,es,g,e,r),z) k=>(mA,(o,es,g,k o e,r),z))
 let(mA,(o,es,g,e,r),z):=x;exact(o,e)
end
end L2
namespace PySem
open Sem (wp)
end PySem
namespace L2
open PySem PySem.Spec PyProof.Rows
def len0{P:List B->Prop}(h:P [])(us:List B)(e:us.length=0):P us:=by rw[Nh.mp e];exact h
def SR{P:List B->Prop}(h:∀a,P [a])(us:List B)(e:us.length=1):P us:=by
 cases us with
 |nil=>cases e
 |cons a r=>exact len0 (P:=λr=>P (a::r)) (h a) r (Nat.succ.inj e)
def SQ{P:List B->Prop}(h:∀a b,P [a,b])(us:List B)(e:us.length=2):P us:=by
 cases us with
 |nil=>cases e
 |cons a r=>exact SR (P:=λr=>P (a::r)) (h a) r (Nat.succ.inj e)
def SO{P:List B->Prop}(h:∀a b c,P [a,b,c])(us:List B)(e:us.length=3):P us:=by
 cases us with
 |nil=>cases e
 |cons a r=>exact SQ (P:=λr=>P (a::r)) (h a) r (Nat.succ.inj e)
def SN{P:List B->Prop}(h:∀a b c d,P [a,b,c,d])(us:List B)(e:us.length=4):P us:=by
 cases us with
 |nil=>cases e
 |cons a r=>exact SO (P:=λr=>P (a::r)) (h a) r (Nat.succ.inj e)
def UG{P:List B->Prop}(h:∀a b c d e,P [a,b,c,d,e])(us:List B)(e:us.length=5):P us:=by
 cases us with
 |nil=>cases e
 |cons a r=>exact SN (P:=λr=>P (a::r)) (h a) r (Nat.succ.inj e)
inductive T where
 |n|b (x:Bool)|i (x:Int)|s (x:Str)|t (xs:List T)|l (xs:List T)|d (ks:List (Key×T))|cY|z (ns:List Int)|ty (x:String)|k (ws:List Str)|q|fd (o:Obj) (vs:List (Key×V)) (ks:List (Key×T))|xc (C:J) (ns:List Str) (ts:List T)|rm (u:Int)|ob (C:J) (ns:List Str) (ts:List T)|dp (a:J) (ks:List (Key×T))|lp (a:J) (xs:List T)|zl (xs:List T)|rf (a:J)|om (a C:J) (ns:List Str) (ts:List T)
abbrev Dl:=List (J×J)
def FzL(K:BT)(H:Hp)(a:J)(xs:List V):Prop:=(∃o,H a=Z (.frz o (.lst xs))) \/
  ∃(o:Obj)(its:Array B)(n:Nat),K.lookup a=Z o/\o.cls=.type "list" /\ o.dict=Y/\o.data=.seq its n/\its.size<=mV/\Vals xs its.toList
variable{H:Hp}{a:J}
theorem FzL.sq{K:BT}(h:FzL K H a xs):SqL K H a xs:=by
 obtain h|h:=h
 ·exact .inl (.inr h)
 ·exact .inr h
def xA(a C dx:J)(h:Do):Prop:=h.get? a=Z (W.instObj C dx)
inductive ObH(H:Hp)(a C:J)(fs:List (Str×V)):Prop
 |mk(dx)(h1:dx≠a)(h2:H a=Z (.ext (xA a C dx)))(h3:H dx=Z (.ext (XD dx fs)))
mutual
inductive ay(K:BT)(dl:Dl)(H:Hp):V->T->List J->Prop where
 |n:ay K dl H .non .n []
 |b(x:Bool):ay K dl H (.bl x) (.b x) []
 |i(x:Int):ay K dl H (.int x) (.i x) []
 |s(x:Str):ay K dl H (.str x) (.s x) []
 |ty(x:String):ay K dl H (.ty x) (.ty x) []
 |t{a:J}{vs:List V}{ts:List T}{F:List J}:H a=Z (.tup vs)->aq K dl H vs ts F->ay K dl H (.ref a) (.t ts) F
 |l{a:J}{vs:List V}{ts:List T}{F:List J}:H a=Z (.lst vs)->aq K dl H vs ts F->ay K dl H (.ref a) (.l ts) (a::F)
 |d{a:J}{vs:List (Key×V)}{ts:List (Key×T)}{F:List J}:H a=Z (.dK vs)->aN K dl H vs ts F->ay K dl H (.ref a) (.d ts) (a::F)
 |x{a l:J}:(a,l)∈dl->ay K dl H (.ref a) .cY []
 |z{a:J}{ns:List Int}:FzL K H a (ns.map V.int)->ay K dl H (.ref a) (.z ns) []
 |q{a:J}{xs:List V}:H a=Z (.lst xs)->ay K dl H (.ref a) .q []
 |fd{a:J}{o:Obj}{vs:List (Key×V)}{ts:List (Key×T)}:H a=Z (.frz o (.dK vs))->aN K dl H vs ts []->ay K dl H (.ref a) (.fd o vs ts) []
 |k{a:J}{ws:List Str}:(∀H':Hp,SqT K H' a (ws.map V.str))->ay K dl H (.ref a) (.k ws) []
 |e{a C:J}{b:Bool}{ns:List Str}{vs:List V}{ts:List T}:ExH H a C b (ns.zip vs)->aq K dl H vs ts []->ay K dl H (.ref a) (.xc C ns ts) []
 |rm{a:J}{x u:Int}:H a=Z (.room x)->x<=u->ay K dl H (.ref a) (.rm u) []
 |ob{a C:J}{ns:List Str}{vs:List V}{ts:List T}:ObH H a C (ns.zip vs)->aq K dl H vs ts []->ay K dl H (.ref a) (.ob C ns ts) []
 |dp{a:J}{vs:List (Key×V)}{ts:List (Key×T)}{F:List J}:H a=Z (.dK vs)->aN K dl H vs ts F->ay K dl H (.ref a) (.dp a ts) (a::F)
 |lp{a:J}{vs:List V}{ts:List T}{F:List J}:H a=Z (.lst vs)->aq K dl H vs ts F->ay K dl H (.ref a) (.lp a ts) (a::F)
 |zl{a:J}{o:Obj}{vs:List V}{ts:List T}:H a=Z (.frz o (.lst vs))->aq K dl H vs ts []->ay K dl H (.ref a) (.zl ts) []
 |rf(a:J):ay K dl H (.ref a) (.rf a) []
 |om{a C dx:J}{ns:List Str}{vs:List V}{ts:List T}{F:List J}:H a=Z (.ins C dx (ns.zip vs))->H dx=Z (.own a)->ns.length=ts.length->aq K dl H vs ts F->ay K dl H (.ref a) (.om a C ns ts) (a::dx::F)
inductive aq(K:BT)(dl:Dl)(H:Hp):List V->List T->List J->Prop where
 |nil:aq K dl H [] [] []
 |cons{v:V}{x:T}{vs:List V}{ts:List T}{F G:List J}:ay K dl H v x F->aq K dl H vs ts G->aq K dl H (v::vs) (x::ts) (F++G)
inductive aN(K:BT)(dl:Dl)(H:Hp):List (Key×V)->List (Key×T)->List J->Prop where
 |nil:aN K dl H [] [] []
 |cons{k:Key}{v:V}{x:T}{vs:List (Key×V)}{ts:List (Key×T)}{F G:List J}:ay K dl H v x F->aN K dl H vs ts G->aN K dl H ((k,v)::vs) ((k,x)::ts) (F++G)
end
def HO.mt:HO->Bool
 |.lst _=>O
 |.dK _=>O
 |.ins _ _ _=>O
 |.own _=>O
 |_=>ϊ
inductive fE(H:Hp)(b:J):Prop
 |mk(o)(h1:H b=Z o)(h2:o.mt=O)
def fE.no(h:fE H b)(e:H b=Y):False:=by
 let(_,h,_):=h;rw[e]at h;cases h
structure TF(H H':Hp):Prop where
 t:∀a vs,H a=Z (.tup vs)->H' a=Z (.tup vs)
 f:∀a o u,H a=Z (.frz o u)->H' a=Z (.frz o u)
 x:∀a φ,H a=Z (.ext φ)->H' a=Z (.ext φ)
 q:∀a xs,H a=Z (.lst xs)->∃ys,H' a=Z (.lst ys)
 r:∀a x,H a=Z (.room x)->∃y,y<=x/\H' a=Z (.room y)
variable{H':Hp}{C:J}
def ObH.tf(h:ObH H a C fs)(k:TF H H'):ObH H' a C fs:=by
 let(d,h1,h2,h3):=h;exact(d,h1,k.x _ _ h2,k.x _ _ h3)
def ExH.tf(h:ExH H a C b fs)(k:TF H H'):ExH H' a C b fs:=by
 obtain⟨h1,h2⟩|⟨d,h1,h2,h3⟩:=h
 ·exact .inl (h1,k.x _ _ h2)
 ·exact .inr (d,h1,k.x _ _ h2,k.x _ _ h3)
theorem FzL.tf{K:BT}(h:FzL K H a vs)(k:TF H H'):FzL K H' a vs:=by
 obtain⟨o,h⟩|h:=h
 ·exact .inl (o,k.f _ _ _ h)
 ·exact .inr h
def bY{α:Type}{p:α->Prop}:∀b∈([]:List α),p b:=λ_ h=>absurd h xH
variable{dl':Dl}
theorem ay.cA{K:BT}{dl:Dl}(k:TF H H')(hd:∀p∈dl,p∈dl'){t:T}(h:ay K dl H v t F):(∀b∈F,∀o,H b=Z o->H' b=Z o)->ay K dl' H' v t F :=
 ay.rec (motive_2:=λv t F _=>(∀b∈F,∀o,H b=Z o->H' b=Z o)->aq K dl' H' v t F) (motive_3:=λv t F _=>(∀b∈F,∀o,H b=Z o->H' b=Z o)->aN K dl' H' v t F)
  (λ_=>.n) (λx _=>.b x) (λx _=>.i x) (λx _=>.s x) (λx _=>.ty x) (λh _ g q=>.t (k.t _ _ h) (g q))
  (λh _ g q=>.l (q _ g5 _ h) (g λb P=>q b (j0 _ P))) (λh _ g q=>.d (q _ g5 _ h) (g λb P=>q b (j0 _ P)))
  (λh _=>.x (hd _ h)) (λh _=>.z (h.tf k)) (λh _=>Exists.elim (k.q _ _ h) λ_ e=>.q e) (λh _ g _=>.fd (k.f _ _ _ h) (g bY)) (λh _=>.k h) (λh _ g _=>.e (h.tf k) (g bY))
  (λh hx _=>Exists.elim (k.r _ _ h) λ_ e=>.rm e.2 (VN e.1 hx)) (λh _ g _=>.ob (h.tf k) (g bY)) (λh _ g q=>.dp (q _ g5 _ h) (g λb P=>q b (j0 _ P))) (λh _ g q=>.lp (q _ g5 _ h) (g λb P=>q b (j0 _ P))) (λh _ g _=>.zl (k.f _ _ _ h) (g bY)) (λa _=>.rf a) (λh1 h2 h3 _ g q=>.om (q _ g5 _ h1) (q _ (j0 _ g5) _ h2) h3 (g λb P=>q b (j0 _ (j0 _ P))))
  (λ_=>.nil) (λ_ _ i1 i2 q=>.cons (i1 λb P=>q b (qr _ P)) (i2 λb P=>q b (p6 _ P)))
  (λ_=>.nil) (λ_ _ i1 i2 q=>.cons (i1 λb P=>q b (qr _ P)) (i2 λb P=>q b (p6 _ P))) h
@[elab_as_elim]
theorem aq.ind{K:BT}{dl:Dl}{M:List V->List T->List J->Prop}(nil:M [] [] [])(cons:∀v x vs ts F G,ay K dl H v x F->aq K dl H vs ts G->M vs ts G->M (v::vs) (x::ts) (F++G)){vs:List V}{ts:List T}{F:List J}(h:aq K dl H vs ts F):M vs ts F :=
 aq.rec (motive_1:=λ_ _ _ _=>True) (motive_3:=λ_ _ _ _=>True) trivial (λ_=>trivial) (λ_=>trivial) (λ_=>trivial) (λ_=>trivial) (λ_ _ _=>trivial) (λ_ _ _=>trivial) (λ_ _ _=>trivial)
  (λ_=>trivial) (λ_=>trivial) (λ_=>trivial) (λ_ _ _=>trivial) (λ_=>trivial) (λ_ _ _=>trivial) (λ_ _=>trivial) (λ_ _ _=>trivial) (λ_ _ _=>trivial) (λ_ _ _=>trivial) (λ_ _ _=>trivial) (λ_=>trivial) (λ_ _ _ _ _=>trivial) nil (λh r _ g=>cons _ _ _ _ _ _ h r g) trivial (λ_ _ _ _=>trivial) h
@[elab_as_elim]
theorem aN.ind{K:BT}{dl:Dl}{M:List (Key×V)->List (Key×T)->List J->Prop}(nil:M [] [] [])(cons:∀k v x vs ts F G,ay K dl H v x F->aN K dl H vs ts G->M vs ts G->M ((k,v)::vs) ((k,x)::ts) (F++G)){vs:List (Key×V)}{ts:List (Key×T)}{F:List J}(h:aN K dl H vs ts F):M vs ts F :=
 aN.rec (motive_1:=λ_ _ _ _=>True) (motive_2:=λ_ _ _ _=>True) trivial (λ_=>trivial) (λ_=>trivial) (λ_=>trivial) (λ_=>trivial) (λ_ _ _=>trivial) (λ_ _ _=>trivial) (λ_ _ _=>trivial)
  (λ_=>trivial) (λ_=>trivial) (λ_=>trivial) (λ_ _ _=>trivial) (λ_=>trivial) (λ_ _ _=>trivial) (λ_ _=>trivial) (λ_ _ _=>trivial) (λ_ _ _=>trivial) (λ_ _ _=>trivial) (λ_ _ _=>trivial) (λ_=>trivial) (λ_ _ _ _ _=>trivial) trivial (λ_ _ _ _=>trivial) nil (λh r _ g=>cons _ _ _ _ _ _ _ h r g) h
theorem aq.cA{K:BT}{dl dl':Dl}(k:TF H H')(hd:∀p∈dl,p∈dl')(h:aq K dl H vs ts F):(∀b∈F,∀o,H b=Z o->H' b=Z o)->aq K dl' H' vs ts F :=
 h.ind (λ_=>.nil) (λ_ _ _ _ _ _ h _ z q=>.cons (h.cA k hd λb g=>q b (qr _ g)) (z λb g=>q b (p6 _ g)))
theorem aN.cA{K:BT}{dl dl':Dl}(k:TF H H')(hd:∀p∈dl,p∈dl')(h:aN K dl H vs ts F):(∀b∈F,∀o,H b=Z o->H' b=Z o)->aN K dl' H' vs ts F :=
 h.ind (λ_=>.nil) (λ_ _ _ _ _ _ _ h _ z q=>.cons (h.cA k hd λb g=>q b (qr _ g)) (z λb g=>q b (p6 _ g)))
variable{G:List J}
def m7(h:∀b∈F,fE H b)(r:∀b∈G,fE H b):∀b∈F++G,fE H b:=λb g=>(p7.mp g).elim (h b) (r b)
theorem ay.there{K:BT}{dl:Dl}{t:T}(h:ay K dl H v t F):∀b∈F,fE H b :=
 ay.rec
  bY (λ_=>bY) (λ_=>bY) (λ_=>bY) (λ_=>bY) (λ_ _ g=>g)
  (λh _ g b q=>(kf.mp q).elim (λe=>by rw[e];exact(_,h,U)) (g b)) (λh _ g b q=>(kf.mp q).elim (λe=>by rw[e];exact(_,h,U)) (g b))
  (λ_=>bY) (λ_=>bY) (λ_=>bY) (λ_ _ _=>bY) (λ_=>bY) (λ_ _ _=>bY)
  (λ_ _=>bY) (λ_ _ _=>bY) (λh _ g b q=>(kf.mp q).elim (λe=>by rw[e];exact(_,h,U)) (g b)) (λh _ g b q=>(kf.mp q).elim (λe=>by rw[e];exact(_,h,U)) (g b)) (λ_ _ _=>bY) (λ_=>bY) (λh1 h2 _ _ g b q=>(kf.mp q).elim (λe=>by rw[e];exact(_,h1,U)) λq=>(kf.mp q).elim (λe=>by rw[e];exact(_,h2,U)) (g b))
  bY (λ_ _ i1 i2=>m7 i1 i2) bY (λ_ _ i1 i2=>m7 i1 i2) h
theorem aq.there{K:BT}{dl:Dl}(h:aq K dl H vs ts F):∀b∈F,fE H b:=h.ind bY (λ_ _ _ _ _ _ h _ g=>m7 h.there g)
def Nd(dl:Dl)(b:J):Prop:=∀p∈dl,b≠p.1/\b≠p.2
def Dls(dl:Dl)(H:Hp):Prop:=∀p∈dl,mX H p.1 p.2
def Dls.nd{dl:Dl}(D:Dls dl H)(h:H b=Z o)(h1:∀xs,o ≠ .lst xs)(h2:∀ks,o ≠ .dK ks):Nd dl b:=λp hp=>by
 let(s,n,ls,Q):=D p hp;exact(ij h Q.hd (h2 _),ij h Q.hl (h1 _))
def Dls.nd0{dl:Dl}(D:Dls dl H)(h:H b=Y):Nd dl b:=λp hp=>by
 let(s,n,ls,Q):=D p hp;exact((bj Q.hd h).symm,(bj Q.hl h).symm)
def NR(o:HO):Prop:=∀x,o ≠ .room x
structure Evo(dl:Dl)(H H':Hp):Prop where
 k:∀b o,H b=Z o->Nd dl b->NR o->H' b=Z o
 d:Dls dl H'
 r:∀a x,H a=Z (.room x)->∃y,y<=x/\H' a=Z (.room y)
def NR.of(h:fE H b)(e:H b=Z o):NR o:=λx z=>by
 let(_,h,m):=h;rw[e,z]at h;cases h;cases m
def Evo.refl{dl:Dl}(D:Dls dl H):Evo dl H H:=(λ_ _ h _ _=>h,D,λ_ x h=>(x,E6 _,h))
variable{H1:Hp}{H2:Hp}
def Evo.trans{dl:Dl}(a:Evo dl H H1)(b:Evo dl H1 H2):Evo dl H H2:=(λc o h n r=>b.k c o (a.k c o h n r) n r,b.d,λc x h=>let(y,q,e):=a.r c x h;let(z,g,e'):=b.r c y e;(z,VN g q,e'))
def Evo.tf{dl:Dl}(e:Evo dl H H')(D:Dls dl H):TF H H' :=
 (λa vs h=>e.k a _ h (D.nd h (λ_ z=>nomatch z) λ_ z=>nomatch z) (λ_ z=>nomatch z),λa o u h=>e.k a _ h (D.nd h (λ_ z=>nomatch z) λ_ z=>nomatch z) (λ_ z=>nomatch z),λa φ h=>e.k a _ h (D.nd h (λ_ z=>nomatch z) λ_ z=>nomatch z) (λ_ z=>nomatch z),λa xs h=>(by
  by_cases hn:Nd dl a
  ·exact(xs,e.k a _ h hn (λ_ z=>nomatch z))
  ·obtain⟨p,hp,z⟩:∃p∈dl,¬(a≠p.1/\a≠p.2):=Classical.byContradiction λc=>hn λp hp=>Classical.byContradiction λz=>c (p,hp,z)
   let(s,n,ls,Q):=D p hp;let(s',n',ls',Q'):=e.d p hp;let h1:=ij h Q.hd (λz=>nomatch z)
   let h2:=Classical.byContradiction λg=>z (h1,g)
   exact(_,by rw[h2];exact Q'.hl)),e.r)
theorem Evo.new{dl:Dl}(e:Evo dl H H1)(hp:H1 p=Y):Evo dl H (upd H1 p o) :=
 (λc u h n r=>by rw[ak (bj (e.k c u h n r) hp)];exact e.k c u h n r,λq hq=>(e.d q hq).new hp,λc x h=>let(y,g,e'):=e.r c x h;(y,g,by rw[ak (bj e' hp)];exact e'))
def Evo.free{dl:Dl}(e:Evo dl H H')(hp:H' p=Y):H p=none:=by
 cases q:H p with
 |none=>rfl
 |some o =>
  by_cases hn:NR o
  ·rw[e.k p o q (e.d.nd0 hp) hn]at hp;cases hp
  ·obtain⟨x,hx⟩:∃x,o=.room x:=Classical.byContradiction λc=>hn λx z=>c (x,z)
   subst hx;let(y,_,e'):=e.r p x q;rw[e']at hp;cases hp
structure Rp(K:BT)(dl:Dl)(H:Hp)(v:V)(t:T)(F:List J):Prop where
 r:ay K dl H v t F
 n:∀b∈F,Nd dl b
structure Rps(K:BT)(dl:Dl)(H:Hp)(vs:List V)(ts:List T)(F:List J):Prop where
 r:aq K dl H vs ts F
 n:∀b∈F,Nd dl b
theorem Rp.evo{K:BT}{dl:Dl}(h:Rp K dl H v t F)(D:Dls dl H)(e:Evo dl H H'):Rp K dl H' v t F :=
 (h.r.cA (e.tf D) (λ_ q=>q) λb g o q=>e.k b o q (h.n b g) (.of (h.r.there b g) q),h.n)
theorem Rps.evo{K:BT}{dl:Dl}(h:Rps K dl H v t F)(D:Dls dl H)(e:Evo dl H H'):Rps K dl H' v t F :=
 (h.r.cA (e.tf D) (λ_ q=>q) λb g o q=>e.k b o q (h.n b g) (.of (h.r.there b g) q),h.n)
inductive Sl where
 |no|o (t:T)|r (t:T)
abbrev Sq:=List Sl
def Sl.get:Sl->Option T
 |.no=>Y
 |.o t=>Z t
 |.r t=>Z t
structure RdR(K:BT)(dl:Dl)(H:Hp)(σ:St)(q:Sq):Prop where
 d:Dls dl H
 g:∀(i:Nat)(x:Sl)(t:T),q[i]?=Z x->x.get=Z t->∃v F,σ[i]?=Z (Z v)/\Rp K dl H v t F
theorem RdR.evo{K:BT}{dl:Dl}(h:RdR K dl H σ q)(e:Evo dl H H'):RdR K dl H' σ q :=
 (e.d,λi x t h1 h2=>let(v,F,h3,h4):=h.g i x t h1 h2;(v,F,h3,h4.evo h.d e))
abbrev QE:=Sq->(T->Prop)->Prop
abbrev QT:=Sq->(Bool->Prop)->Prop
abbrev QA:=Sq->(List T->Prop)->Prop
def iy(K:BT)(te:TE)(tq:QE):Prop:=∀(dl:Dl)(H:Hp)(σ:St)(q:Sq)(Q:T->Prop)(R:V->Hp->Prop),RdR K dl H σ q->tq q Q ->
 (∀v t F H',Evo dl H H'->Rp K dl H' v t F->Q t->R v H')->te σ H R
def mT(K:BT)(te:TE)(tq:QE):Prop:=∀(dl:Dl)(H:Hp)(σ:St)(q:Sq)(Q:T->Prop)(R:V->Hp->Prop),RdR K dl H σ q->tq q Q ->
 (∀v t F H',Evo dl H H'->Rp K dl H' v t F->(∀b∈F,H b=Y)->F.Nodup->Q t->R v H')->te σ H R
def lr(K:BT)(te:TT)(tq:QT):Prop:=∀(dl:Dl)(H:Hp)(σ:St)(q:Sq)(Q:Bool->Prop)(R:Bool->Hp->Prop),RdR K dl H σ q->tq q Q ->
 (∀b H',Evo dl H H'->Q b->R b H')->te σ H R
def zG(K:BT)(n:Nat)(te:TA)(tq:QA):Prop:=∀(dl:Dl)(H:Hp)(σ:St)(q:Sq)(Q:List T->Prop)(R:List V->Hp->Prop),RdR K dl H σ q->tq q Q ->
 (∀vs ts F H',Evo dl H H'->Rps K dl H' vs ts F->vs.length=n->Q ts->R vs H')->te σ H R
def TX(K:BT)(n:Nat)(te:TA)(tq:QA):Prop:=∀(dl:Dl)(H:Hp)(σ:St)(q:Sq)(Q:List T->Prop)(R:List V->Hp->Prop),RdR K dl H σ q->tq q Q ->
 (∀vs ts F H',Evo dl H H'->Rps K dl H' vs ts F->vs.length=n->(∀b∈F,H b=Y)->F.Nodup->Q ts->R vs H')->te σ H R
structure QPE(X:Cx)(K:BT)(e:Ev)(te:TE)(tq:QE):Prop where
 h:PE X e te
 s:iy K te tq
structure QPF(X:Cx)(K:BT)(e:Ev)(te:TE)(tq:QE):Prop where
 h:PE X e te
 s:mT K te tq
structure QPT(X:Cx)(K:BT)(e:Ev)(te:TT)(tq:QT):Prop where
 h:PT X e te
 s:lr K te tq
structure QPW(X:Cx)(K:BT)(e:Ev)(te:TT)(tq:QT):Prop where
 h:PW X e te
 s:lr K te tq
structure QPA(X:Cx)(K:BT)(es:List Ev)(te:TA)(tq:QA):Prop where
 h:PA X es te
 s:zG K es.length te tq
structure xx(X:Cx)(K:BT)(es:List Ev)(te:TA)(tq:QA):Prop where
 h:PA X es te
 s:TX K es.length te tq
variable{q:Sq}{x:Str}
section
variable{X:Cx}{K:BT}{a b e:Ev}{ta tb te:TE}{qa qb qe:QE}{pos:Pos}
def QPF.w(h:QPF X K e te qe):QPE X K e te qe:=(h.h,λdl H σ q Q R rd hq k=>h.s dl H σ q Q R rd hq λv t F H' e r _ _ z=>k v t F H' e r z)
mutual
def T.im:T->Bool
 |.t xs=>T.ims xs
 |.l _=>ϊ
 |.d _=>ϊ
 |.dp _ _=>ϊ
 |.lp _ _=>ϊ
 |.om _ _ _ _=>ϊ
 |_=>O
def T.ims:List T->Bool
 |[]=>O
 |x::r=>x.im&&T.ims r
end
def rW{x y:Bool}(h:x=O->F=[])(r:y=O->G=[])(q:(x&&y)=O):F++G=[]:=by rw[h (sO _ _▸q).1,r (sO _ _▸q).2];rfl
theorem ay.im{dl:Dl}{t:T}(h:ay K dl H v t F):t.im=O->F=[] :=
 ay.rec (motive_3:=λ_ _ _ _=>True)
  (λ_=>rfl) (λ_ _=>rfl) (λ_ _=>rfl) (λ_ _=>rfl) (λ_ _=>rfl) (λ_ _ g=>g) (λ_ _ _ h=>absurd h qf) (λ_ _ _ h=>absurd h qf)
  (λ_ _=>rfl) (λ_ _=>rfl) (λ_ _=>rfl) (λ_ _ _ _=>rfl) (λ_ _=>rfl) (λ_ _ _ _=>rfl) (λ_ _ _=>rfl) (λ_ _ _ _=>rfl) (λ_ _ _ h=>absurd h qf) (λ_ _ _ h=>absurd h qf) (λ_ _ _ _=>rfl) (λ_ _=>rfl) (λ_ _ _ _ _ h=>absurd h qf) (λ_=>rfl) (λ_ _ i1 i2=>rW i1 i2) trivial (λ_ _ _ _=>trivial) h
theorem aq.im{dl:Dl}(h:aq K dl H v t F):T.ims t=O->F=[]:=h.ind (λ_=>rfl) (λ_ _ _ _ _ _ h _ g=>rW h.im g)
inductive Ex2{α:Type}(p:α->Prop)(Q:α->Prop):Prop
 |mk(x:α)(h:p x)(k:Q x)
inductive Ex3{α β:Type}(p:α->Prop)(g:α->β)(Q:β->Prop):Prop
 |mk(x:α)(h:p x)(k:Q (g x))
inductive Ex4{α β:Type}(p r:α->Prop)(g:α->β)(Q:β->Prop):Prop
 |mk(x:α)(h:p x)(h2:r x)(k:Q (g x))
def onO(q:Sq)(i:Nat)(P:T->Prop):Prop:=match q[i]? with|some (.o t)=>P t|_=>False
def onO.inv(h:onO q i P):∃t,q[i]?=Z (.o t)/\P t:=by
 unfold onO at h
 split at h
 ·exact(_,‹_›,h)
 ·exact h.elim
def on1(ts:List T)(P:T->Prop):Prop:=match ts with|[t]=>P t|_=>False
def on1.inv(h:on1 ts P):∃t,ts=[t]/\P t:=by
 cases ts with
 |nil=>exact h.elim
 |cons t r=>cases r with
  |nil=>exact(t,U,h)
  |cons=>exact h.elim
def on2(ts:List T)(P:T->T->Prop):Prop:=match ts with|[t,u]=>P t u|_=>False
def on2.inv(h:on2 ts P):∃t u,ts=[t,u]/\P t u:=by
 cases ts with
 |nil=>exact h.elim
 |cons t r=>cases r with
  |nil=>exact h.elim
  |cons u r=>cases r with
   |nil=>exact(t,u,U,h)
   |cons=>exact h.elim
def qIm(qe:QE):QE:=λq Q=>qe q λt=>t.im=O/\Q t
theorem QPE.f(h:QPE X K e te qe):QPF X K e te (qIm qe):=(h.h,λdl H σ q Q R rd hq k=>h.s dl H σ q _ R rd hq λv t F H' e r (P,g)=>by
 let f:=r.r.im P;subst f;exact k v t [] H' e r bY mu g)
def bp(i:Nat):QE:=λq Q=>match q[i]? with
 |some (.o t)=>Q t
 |some (.r t)=>Q t
 |_=>False
def JV(i:Nat):iy K (bK i) (bp i):=by
 intro dl H σ q Q R rd hq k;unfold bp at hq
 split at hq
 ·rename_i t e;let(v,F,h1,h2):=rd.g i _ t e U;exact(v,h1,k v t F H (.refl rd.d) h2 hq)
 ·rename_i t e;let(v,F,h1,h2):=rd.g i _ t e U;exact(v,h1,k v t F H (.refl rd.d) h2 hq)
 ·exact hq.elim
def qv(i:Nat)(q:X.N[i]?=Z x:=by rfl)(hv:Vis X.env.scope x:=by first|exact Or.inl rfl|exact Or.inr (Or.inl U)|exact Or.inr (Or.inr U))(hd:AS x:=by decide)
  (g:(x ==("__classdict__":Str))=false:=by decide):QPE X K (.Name x pos) (bK i) (bp i):=(wq q hv hd g,JV i)
def qC(t:T):QE:=λ_ Q=>Q t
def uB(h:∀dl H,ay K dl H v t []):mT K (tC v) (qC t):=λdl H σ q Q R rd hq k=>k v t [] H (.refl rd.d) (h dl H,bY) bY mu hq
def bO:QPF X K (.Constant (.int i) j pos) (tC (.int i)) (qC (.i i)):=(bG,uB λ_ _=>.i i)
def GB{b j pos}:QPF X K (.Constant (.bool b) j pos) (tC (.bl b)) (qC (.b b)):=(Sw,uB λ_ _=>.b b)
def cS:QPF X K (.Constant .none j pos) (tC .non) (qC .n):=(Pg,uB λ_ _=>.n)
def az:QPF X K (.Constant (.str x) j pos) (tC (.str x)) (qC (.s x)):=(dJ,uB λ_ _=>.s x)
def RR(hg:Gl X x)(hm:X.mg x=Y)(hv:bootBuiltins x=Z (.type n))(hn:x ≠ "__name__":=by decide)(hd:AS x:=by decide):QPF X K (.Name x pos) (tC (.ty n)) (qC (.ty n)) :=
 (Lz hg hm hv U hn hd,uB λ_ _=>.ty n)
def yn(hg:Gl X x)(hm:∃t,X.mg x=Z (.int y t))(hd:AS x:=by decide):QPF X K (.Name x pos) (tC (.int y)) (qC (.i y)):=(Hc hg hm hd,uB λ_ _=>.i y)
theorem kT{dl:Dl}:∀(ws:List Str),aq K dl H (ws.map V.str) (ws.map T.s) []
 |[]=>.nil
 |w::r=>.cons (.s w) (kT r)
theorem qR{dl:Dl}:∀(ws:List Int),aq K dl H (ws.map V.int) (ws.map T.i) []
 |[]=>.nil
 |w::r=>.cons (.i w) (qR r)
abbrev Q2:=T->T->(T->Prop)->Prop
def EX(K:BT)(r:R2)(rq:Q2):Prop:=∀(dl:Dl)(H:Hp)(x y:V)(t u:T)(F G:List J)(Q:T->Prop)(R:V->Hp->Prop),Dls dl H->Rp K dl H x t F->Rp K dl H y u G->rq t u Q ->
 (∀v z F' H',Evo dl H H'->Rp K dl H' v z F'->Q z->R v H')->r x y H R
def c9(K:BT)(r:R2)(rq:Q2):Prop:=∀(dl:Dl)(H:Hp)(x y:V)(t u:T)(F G:List J)(Q:T->Prop)(R:V->Hp->Prop),Dls dl H->Rp K dl H x t F->Rp K dl H y u G->rq t u Q ->
 (∀v z F' H',Evo dl H H'->Rp K dl H' v z F'->(∀b∈F',H b=Y)->F'.Nodup->Q z->R v H')->r x y H R
variable{rq:Q2}
def c9.w(h:c9 K r rq):EX K r rq:=λdl H x y t u F G Q R d a b hq k=>h dl H x y t u F G Q R d a b hq λv z F' H' e r _ _ g=>k v z F' H' e r g
def qOp(rq:Q2)(qa qb:QE):QE:=λq Q=>qa q λt=>qb q λu=>rq t u Q
def qF(ho:EX K r rq)(ha:iy K ta qa)(hb:iy K tb qb):iy K (tOp r ta tb) (qOp rq qa qb):=by
 intro dl H σ q Q R rd hq k;exact ha dl H σ q _ _ rd hq λv t F H1 e1 r1 P=>(hb dl H1 σ q _ _ (rd.evo e1) P λw u G H2 V r2 g=>(ho dl H2 v w t u F G Q R V.d (r1.evo e1.d V) r2 g λv' z F' H3 e3 r3 hz=>k v' z F' H3 ((e1.trans V).trans e3) r3 hz))
def vy(ho:c9 K r rq)(ha:iy K ta qa)(hb:iy K tb qb):mT K (tOp r ta tb) (qOp rq qa qb):=by
 intro dl H σ q Q R rd hq k;exact ha dl H σ q _ _ rd hq λv t F H1 P r1 av=>(hb dl H1 σ q _ _ (rd.evo P) av λw u G H2 g r2 V=>(ho dl H2 v w t u F G Q R g.d (r1.evo P.d g) r2 V λv' z F' H3 e3 r3 f3 n3 hz=>k v' z F' H3 ((P.trans g).trans e3) r3 (λb hb=>(P.trans g).free (f3 b hb)) n3 hz))
def nA(ho:OpR X (binaryOp op) r)(hs:c9 K r rq)(ha:QPE X K a ta qa)(g:QPE X K b tb qb):QPF X K (.BinOp a op b pos) (tOp r ta tb) (qOp rq qa qb):=(cJ ho ha.h g.h,vy hs ha.s g.s)
end
end L2
namespace L2
open PySem PySem.Spec PyProof.Rows
variable{x:Str}{C:J}{a:J}{ns:List Int}{ws:List Str}{G:List J}
section
variable{X:Cx}{K:BT}{dl:Dl}{H:Hp}{v:V}{F:List J}
def Vu(K:BT)(dl:Dl)(H:Hp)(v:V)(F:List J):T->Prop
 |.n=>v=.non/\F=[]
 |.b x=>v=.bl x/\F=[]
 |.i x=>v=.int x/\F=[]
 |.s x=>v=.str x/\F=[]
 |.ty x=>v=.ty x
 |.t ts=>∃a vs,v=.ref a/\H a=Z (.tup vs)/\aq K dl H vs ts F
 |.l ts=>∃a vs G,v=.ref a/\F=a::G/\H a=Z (.lst vs)/\aq K dl H vs ts G
 |.d ts=>∃a vs G,v=.ref a/\F=a::G/\H a=Z (.dK vs)/\aN K dl H vs ts G
 |.cY=>∃a l,v=.ref a/\(a,l)∈dl/\F=[]
 |.z ns=>∃a,v=.ref a/\FzL K H a (ns.map V.int)/\F=[]
 |.k ws=>∃a,v=.ref a/\(∀H',SqT K H' a (ws.map V.str))/\F=[]
 |.xc C ns ts=>∃a b vs,v=.ref a/\F=[]/\ExH H a C b (ns.zip vs)/\aq K dl H vs ts []
 |.q=>True
 |.fd _ _ _=>True
 |.rm u=>∃a x,v=.ref a/\H a=Z (.room x)/\x<=u/\F=[]
 |.ob C ns ts=>∃a vs,v=.ref a/\F=[]/\ObH H a C (ns.zip vs)/\aq K dl H vs ts []
 |.dp a ts=>∃vs G,v=.ref a/\F=a::G/\H a=Z (.dK vs)/\aN K dl H vs ts G
 |.lp a ts=>∃vs G,v=.ref a/\F=a::G/\H a=Z (.lst vs)/\aq K dl H vs ts G
 |.zl ts=>∃a o vs,v=.ref a/\F=[]/\H a=Z (.frz o (.lst vs))/\aq K dl H vs ts []
 |.rf a=>v=.ref a/\F=[]
 |.om a C ns ts=>∃dx vs G,v=.ref a/\F=a::dx::G/\H a=Z (.ins C dx (ns.zip vs))/\H dx=Z (.own a)/\ns.length=ts.length/\aq K dl H vs ts G
def ay.inv{t:T}(h:ay K dl H v t F):Vu K dl H v F t :=
 ay.rec (motive_2:=λ_ _ _ _=>True) (motive_3:=λ_ _ _ _=>True) (U,U) (λ_=>(U,U)) (λ_=>(U,U)) (λ_=>(U,U)) (λ_=>rfl)
  (λh r _=>(_,_,U,h,r)) (λh r _=>(_,_,_,U,U,h,r)) (λh r _=>(_,_,_,U,U,h,r)) (λh=>(_,_,U,h,U)) (λh=>(_,U,h,U)) (λ_=>trivial) (λ_ _ _=>trivial) (λh=>(_,U,h,U)) (λh r _=>(_,_,_,U,U,h,r)) (λh hx=>(_,_,U,h,hx,U)) (λh r _=>(_,_,U,U,h,r)) (λh r _=>(_,_,U,U,h,r)) (λh r _=>(_,_,U,U,h,r)) (λh r _=>(_,_,_,U,U,h,r)) (λ_=>(U,U)) (λh1 h2 h3 r _=>(_,_,_,U,U,h1,h2,h3,r))
  trivial (λ_ _ _ _=>trivial) trivial (λ_ _ _ _=>trivial) h
theorem ay.int{x:Int}(h:ay K dl H v (.i x) F):v=.int x/\F=[]:=h.inv
theorem ay.str(h:ay K dl H v (.s x) F):v=.str x/\F=[]:=h.inv
theorem ay.bl{x:Bool}(h:ay K dl H v (.b x) F):v=.bl x/\F=[]:=h.inv
theorem ay.non(h:ay K dl H v .n F):v=.non/\F=[]:=h.inv
def ay.tyy{x:String}(h:ay K dl H v (.ty x) F):v=.ty x:=h.inv
theorem ay.tup(h:ay K dl H v (.t ts) F):∃a vs,v=.ref a/\H a=Z (.tup vs)/\aq K dl H vs ts F:=h.inv
theorem ay.lst(h:ay K dl H v (.l ts) F):∃a vs G,v=.ref a/\F=a::G/\H a=Z (.lst vs)/\aq K dl H vs ts G:=h.inv
def ay.dic(h:ay K dl H v (.d ts) F):∃a vs G,v=.ref a/\F=a::G/\H a=Z (.dK vs)/\aN K dl H vs ts G:=h.inv
def ay.roo(h:ay K dl H v (.rm u) F):∃a x,v=.ref a/\H a=Z (.room x)/\x<=u/\F=[]:=h.inv
def ay.obj{ns:List Str}(h:ay K dl H v (.ob C ns ts) F):∃a vs,v=.ref a/\F=[]/\ObH H a C (ns.zip vs)/\aq K dl H vs ts []:=h.inv
def ay.dpp(h:ay K dl H v (.dp a ts) F):∃vs G,v=.ref a/\F=a::G/\H a=Z (.dK vs)/\aN K dl H vs ts G:=h.inv
def ay.lpp(h:ay K dl H v (.lp a ts) F):∃vs G,v=.ref a/\F=a::G/\H a=Z (.lst vs)/\aq K dl H vs ts G:=h.inv
def ay.zls(h:ay K dl H v (.zl ts) F):∃a o vs,v=.ref a/\F=[]/\H a=Z (.frz o (.lst vs))/\aq K dl H vs ts []:=h.inv
def ay.rff(h:ay K dl H v (.rf a) F):v=.ref a/\F=[]:=h.inv
def ay.omm{ns:List Str}(h:ay K dl H v (.om a C ns ts) F):∃dx vs G,v=.ref a/\F=a::dx::G/\H a=Z (.ins C dx (ns.zip vs))/\H dx=Z (.own a)/\ns.length=ts.length/\aq K dl H vs ts G:=h.inv
def ay.dea(h:ay K dl H v .cY F):∃a l,v=.ref a/\(a,l)∈dl/\F=[]:=h.inv
def ay.scr(h:ay K dl H v (.z ns) F):∃a,v=.ref a/\FzL K H a (ns.map V.int)/\F=[]:=h.inv
def ay.kst(h:ay K dl H v (.k ws) F):∃a,v=.ref a/\(∀H',SqT K H' a (ws.map V.str))/\F=[]:=h.inv
def aq.len(h:aq K dl H vs ts F):vs.length=ts.length:=h.ind U λ_ _ _ _ _ _ _ _ g=>congrArg (· + 1) g
def aN.len(h:aN K dl H vs ts F):vs.length=ts.length:=h.ind U λ_ _ _ _ _ _ _ _ _ g=>congrArg (· + 1) g
def aq.Qg{i:Nat}(h:aq K dl H vs ts F)(e:ts[i]?=Z t):∃v G,vs[i]?=Z v/\ay K dl H v t G/\G.Sublist F :=
 h.ind (λ_ _ e=>nomatch e) (λv x vs ts F G h _ g i t e=>by
  cases i with
  |zero=>cases e;exact(v,F,U,h,List.sublist_append_left _ _)
  |succ i =>
   let(w,q,h1,h2,h3):=g i t e;exact(w,q,h1,h2,h3.trans (W3 _ _))) i t e
def aq.get{i:Nat}(h:aq K dl H vs ts F)(e:ts[i]?=Z t):∃v G,vs[i]?=Z v/\ay K dl H v t G/\∀b∈G,b∈F :=
 Exists.elim (h.Qg e) λv z=>Exists.elim z λG z=>(v,G,z.1,z.2.1,λ_ g=>z.2.2.subset g)
def aq.append{vs ws:List V}(h:aq K dl H vs ts F)(h2:aq K dl H ws us G):aq K dl H (vs++ws) (ts++us) (F++G) :=
 h.ind h2 λ_ _ _ _ _ _ h _ g=>by rw[Nj];exact .cons h g
def aq.iQ(h:aq K dl H vs ts F):vs=[] ↔ ts=[]:=by
 cases h with
 |nil=>simp
 |cons _ _=>simp
theorem aq.drop:∀{vs:List V}{ts:List T}{F:List J}(n:Nat),aq K dl H vs ts F->∃G,aq K dl H (vs.drop n) (ts.drop n) G/\G.Sublist F
 |_,_,F,0,h=>(F,h,List.Sublist.refl _)
 |_,_,_,_+1,.nil=>([],.nil,List.Sublist.refl _)
 |_,_,_,n+1,.cons h r=>by
  let(G,h1,h2):=aq.drop n r;exact(G,h1,h2.trans (W3 _ _))
theorem aq.take:∀{vs:List V}{ts:List T}{F:List J}(n:Nat),aq K dl H vs ts F->∃G,aq K dl H (vs.take n) (ts.take n) G/\G.Sublist F
 |_,_,F,0,h=>([],.nil,List.nil_sublist _)
 |_,_,_,_+1,.nil=>([],.nil,List.Sublist.refl _)
 |_,_,_,n+1,.cons h r=>by
  let(G,h1,h2):=aq.take n r;exact(_,.cons h h1,h2.append_left _)
def Rp.sub(r:ay K dl H v t G)(n:∀b∈F,Nd dl b)(h:∀b∈G,b∈F):Rp K dl H v t G:=(r,λb g=>n b (h b g))
def Rp.c(r:ay K dl H v t []):Rp K dl H v t []:=(r,bY)
theorem Rps.tup(h:Rps K dl H vs ts F)(D:Dls dl H)(hp:H p=Y):Rp K dl (upd H p (.tup vs)) (.ref p) (.t ts) F :=
 let h2:=h.evo D ((Evo.refl D).new hp)
 (.t ax h2.r,h2.n)
theorem Rps.lst(h:Rps K dl H vs ts F)(D:Dls dl H)(hp:H p=Y):Rp K dl (upd H p (.lst vs)) (.ref p) (.l ts) (p::F) :=
 let h2:=h.evo D ((Evo.refl D).new hp)
 (.l ax h2.r,λb g=>by
  obtain e|g:=kf.mp g
  ·rw[e];exact D.nd0 hp
  ·exact h2.n b g)
theorem Rps.fresh(h:Rps K dl H vs ts F)(hp:H p=Y)(hn:F.Nodup):(p::F).Nodup:=sP.mpr (λz=>(h.r.there p z).no hp,hn)
def qII(C:Int->Int->Prop)(g:Int->Int->T):Q2:=λt u Q=>match t with
 |.i a=>match u with|.i b=>C a b/\Q (g a b)|_=>False
 |_=>False
def FW{C:Int->Int->Prop}(hg:∀a b dl H,ay K dl H (g a b) (g' a b) []):c9 K (rI C g) (qII C g'):=by
 intro dl H x y t u F G Q R D P q hq k;unfold qII at hq
 split at hq
 ·split at hq
  ·let(U,U):=P.r.int;let(U,U):=q.r.int;exact(_,_,U,U,hq.1,k _ _ [] H (.refl D) (.c (hg _ _ _ _)) bY mu hq.2)
  ·exact hq.elim
 ·exact hq.elim
def qI0(g:Int->Int->T):Q2:=λt u Q=>match t with
 |.i a=>match u with|.i b=>Q (g a b)|_=>False
 |_=>False
def qH(hg:∀a b dl H,ay K dl H (g a b) (g' a b) []):c9 K (rI0 g) (qI0 g'):=by
 intro dl H x y t u F G Q R D P q hq k;unfold qI0 at hq
 split at hq
 ·split at hq
  ·let(U,U):=P.r.int;let(U,U):=q.r.int;exact(_,_,U,U,k _ _ [] H (.refl D) (.c (hg _ _ _ _)) bY mu hq)
  ·exact hq.elim
 ·exact hq.elim
def LU:OpR X (binaryOp .Add) (λx y H Q=>∃a b xs ys,x=.ref a/\y=.ref b/\SqT X.K H a xs/\SqT X.K H b ys/\xs.length+ys.length<=mV /\
  (xs=[]->Q (.ref b) H)/\(xs ≠ []->ys=[]->Q (.ref a) H)/\(xs ≠ []->ys ≠ []->∀p,H p=Y->Q (.ref p) (upd H p (.tup (xs++ys))))):=by
 intro gV s σ H x y v u Q I rx V h;let(a,b,xs,ys,U,U,ha,hb,hz,q0,q1,q2):=h;by_cases hx:xs=[]
 ·cases rx;cases V;let(its,r1,p1,_):=I.tuple ha;let(bD,r2,p2,_):=I.tuple hb;let e:=r1.iQ.mpr hx;subst e;let((cls,dd,data,sl),ho,hc,n,hd):=id p1;let((Vg,P,data2,q),g,z,n2,hd2):=id p2;subst hc hd z hd2;exact concat_meets (_,ho,U) (_,g,U) noFill_tuple_add seq_tuple_add PySem.F.slot_tuple_add PySem.F.entry_tuple_add (PySem.F.args_tuple_add_2 _ _)
   (tuple_addW0 a b ([]).toArray bD.toArray n n2 dd P sl q (by simp)) (ho,g,(.ref b,H,I,U,q0 hx))
 ·exact LV gV s σ H _ _ v u Q I rx V (a,b,xs,ys,U,U,ha,hb,hx,hz,q1 hx,q2 hx)
def Gq(K:BT):R2:=λx y H Q=>rI0 (λi j=>.int (i+j)) x y H Q\/(∃i j,x=.str i/\y=.str j/\i.length+j.length<=mV/\Q (.str (i++j)) H)\/RN x y H Q \/
 (∃a b xs ys,x=.ref a/\y=.ref b/\SqT K H a xs/\SqT K H b ys/\xs.length+ys.length<=mV /\
  (xs=[]->Q (.ref b) H)/\(xs ≠ []->ys=[]->Q (.ref a) H)/\(xs ≠ []->ys ≠ []->∀p,H p=Y->Q (.ref p) (upd H p (.tup (xs++ys)))))
def LX(g:X.K=K):OpR X (binaryOp .Add) (Gq K):=by subst g;exact nI.or (AY.or (Pm.or LU))
def tL:Q2:=λt u Q=>match t with
 |.i a=>match u with|.i b=>Q (.i (a+b))|_=>False
 |.s a=>match u with|.s b=>a.length+b.length<=mV/\Q (.s (a++b))|_=>False
 |.l a=>match u with|.l b=>a.length+b.length<=mV/\T.ims a=O/\T.ims b=O/\Q (.l (a++b))|_=>False
 |.t a=>match u with|.t b=>a.length+b.length<=mV/\T.ims a=O/\T.ims b=O/\Q (.t (a++b))|_=>False
 |_=>False
def Ka:c9 K (Gq K) tL:=by
 intro dl H x y t u F G Q R D q g hq k;let no:∀b,b∈([])->H b=none:=bY
 cases t with
 |i a =>
  dsimp only[tL]at hq
  split at hq
  ·let(U,U):=q.r.int;let(U,U):=g.r.int;exact .inl (_,_,U,U,k _ _ [] H (.refl D) (.c (.i _)) no mu hq)
  ·exact hq.elim
 |s a =>
  dsimp only[tL]at hq
  split at hq
  ·let(U,U):=q.r.str;let(U,U):=g.r.str;exact .inr (.inl (_,_,U,U,hq.1,k _ _ [] H (.refl D) (.c (.s _)) no mu hq.2))
  ·exact hq.elim
 |l a =>
  dsimp only[tL]at hq
  split at hq
  ·let(a,vs,F1,U,U,h1,s1):=q.r.lst;let(b,ws,G1,U,U,h2,s2):=g.r.lst;obtain rfl:=s1.im hq.2.1;obtain rfl:=s2.im hq.2.2.1;refine .inr (.inr (.inl (a,b,vs,ws,U,U,h1,h2,by rw[s1.len,s2.len];exact hq.1,λp hp=>?_)))
   let rs:Rps K dl H (vs++ws) _ ([] ++ []):=(s1.append s2,λc V=>nomatch V)
   exact k _ _ _ _ ((Evo.refl D).new hp) (rs.lst D hp) (λb hb=>by rw[ej.mp hb];exact hp) (by simp) hq.2.2.2
  ·exact hq.elim
 |t a =>
  dsimp only[tL]at hq
  split at hq
  ·let(a,vs,U,h1,s1):=q.r.tup;let(b,ws,U,h2,s2):=g.r.tup;obtain rfl:=s1.im hq.2.1;obtain rfl:=s2.im hq.2.2.1;refine .inr (.inr (.inr (a,b,vs,ws,U,U,SqT.of h1,SqT.of h2,by rw[s1.len,s2.len];exact hq.1,λe=>?_,λe1 e2=>?_,λ_ _ p hp=>?_)))
   ·refine k _ _ [] H (.refl D) g no mu ?_;let z:=s1.iQ.mp e;subst z;exact hq.2.2.2
   ·refine k _ _ [] H (.refl D) q no mu ?_;let z:=s2.iQ.mp e2;subst z;let P:=hq.2.2.2;rw[sQ]at P;exact P
   ·let rs:Rps K dl H (vs++ws) _ ([] ++ []):=(s1.append s2,λc V=>nomatch V)
    exact k _ _ _ _ ((Evo.refl D).new hp) (rs.tup D hp) no mu hq.2.2.2
  ·exact hq.elim
 |_=>exact hq.elim
def K3:Q2:=λt u Q=>match t with
 |.i a=>match u with|.i b=>Ju a b/\Q (.i (a*b))|_=>False
 |.s a=>match u with|.i b=>0<=b/\b<=1000/\a.length<=1000/\Q (.s (jk a b.toNat))|_=>False
 |_=>False
def Gi:R2:=λx y H Q=>rI Ju (λi j=>.int (i*j)) x y H Q\/(∃z n,x=.str z/\y=.int n/\0<=n/\n<=1000/\z.length<=1000/\Q (.str (jk z n.toNat)) H)
def LS:OpR X (binaryOp .Mult) Gi:=kZ.or AX
def J2:c9 K Gi K3:=by
 intro dl H x y t u F G Q R D q g hq k;cases t with
 |i a =>
  dsimp only[K3]at hq
  split at hq
  ·let(U,U):=q.r.int;let(U,U):=g.r.int;exact .inl (_,_,U,U,hq.1,k _ _ [] H (.refl D) (.c (.i _)) bY mu hq.2)
  ·exact hq.elim
 |s a =>
  dsimp only[K3]at hq
  split at hq
  ·let(U,U):=q.r.str;let(U,U):=g.r.int;exact .inr (_,_,U,U,hq.1,hq.2.1,hq.2.2.1,k _ _ [] H (.refl D) (.c (.s _)) bY mu hq.2.2.2)
  ·exact hq.elim
 |_=>exact hq.elim
end
section
variable{X:Cx}{K:BT}{a b:Ev}{ta tb:TE}{qa qb:QE}{pos:Pos}
def aO(ha:QPE X K a ta qa)(g:QPE X K b tb qb)(q:X.K=K:=by rfl):QPF X K (.BinOp a .Add b pos) (tOp (Gq K) ta tb) (qOp tL qa qb):=nA (LX q) Ka ha g
def nt(ha:QPE X K a ta qa)(g:QPE X K b tb qb):QPF X K (.BinOp a .Sub b pos) (tOp (rI0 λi j=>.int (i - j)) ta tb) (qOp (qI0 λi j=>.i (i - j)) qa qb):=nA AW (qH λ_ _ _ _=>.i _) ha g
def nB(ha:QPE X K a ta qa)(g:QPE X K b tb qb):QPF X K (.BinOp a .Mult b pos) (tOp Gi ta tb) (qOp K3 qa qb):=nA LS J2 ha g
def Gy(ha:QPE X K a ta qa)(g:QPE X K b tb qb):QPF X K (.BinOp a .Mod b pos) (tOp (rI (λ_ j=>0<j) λi j=>.int (i % j)) ta tb) (qOp (qII (λ_ j=>0<j) λi j=>.i (i % j)) qa qb):=nA iP (FW λ_ _ _ _=>.i _) ha g
def Cb(ha:QPE X K a ta qa)(g:QPE X K b tb qb):QPF X K (.BinOp a .FloorDiv b pos) (tOp (rI Jv λi j=>.int (i / j)) ta tb) (qOp (qII Jv λi j=>.i (i / j)) qa qb):=nA yH (FW λ_ _ _ _=>.i _) ha g
def OL(ha:QPE X K a ta qa)(g:QPE X K b tb qb):QPF X K (.BinOp a .Pow b pos) (tOp (rI Q5 λi j=>.int (i ^ j.toNat)) ta tb) (qOp (qII Q5 λi j=>.i (i ^ j.toNat)) qa qb):=nA Ho (FW λ_ _ _ _=>.i _) ha g
end
variable{H:Hp}{neg:Bool}{op:CmpOp}{rq:Q2}{j:Nat}
section
variable{X:Cx}{K:BT}{a b c e:Ev}{es rest:List Ev}{ta tb te:TE}{qa qb qe:QE}{tA tB:TT}{qA qB:QT}{tl:TA}{ql:QA}{pos:Pos}
def T.v:T->V
 |.n=>.non|.b x=>.bl x|.i x=>.int x|.s x=>.str x|_=>.ty ""
def T.fl:T->Bool
 |.n=>O|.b _=>O|.i _=>O|.s _=>O|_=>ϊ
theorem ay.v{dl:Dl}{v:V}{t:T}(h:ay K dl H v t F)(f:t.fl=O):v=t.v/\F=[]:=by
 cases h <;> first|exact(U,U)|exact absurd (f) qf
def qEq:Q2:=λt u Q=>(t.fl&&u.fl&&Kc t.v u.v)=O/\Q (.b (decide (t.v=u.v)))
def qNe:Q2:=λt u Q=>(t.fl&&u.fl&&Kc t.v u.v)=O/\Q (.b (!decide (t.v=u.v)))
def Ou:c9 K rEq qEq:=by
 intro dl H x y t u F G Q R D q g hq k;let(h,hq):=hq;rw[sO,sO]at h;let(U,U):=q.r.v h.1.1;let(U,U):=g.r.v h.1.2;exact(h.2,k _ _ [] H (.refl D) (.c (.b _)) bY mu hq)
def FL:c9 K rNe qNe:=by
 intro dl H x y t u F G Q R D q g hq k;let(h,hq):=hq;rw[sO,sO]at h;let(U,U):=q.r.v h.1.1;let(U,U):=g.r.v h.1.2;exact(h.2,k _ _ [] H (.refl D) (.c (.b _)) bY mu hq)
def D3(neg:Bool):Q2:=λt u Q=>match u with
 |.n=>Q (.b (match t with|.n=>!neg|_=>neg))
 |_=>False
def ay.Ux{dl:Dl}{v:V}{t:T}(h:ay K dl H v t F):decide (v=.non)=match(generalizing:=false) t with|.n=>!false|_=>false:=by cases h <;> rfl
def ay.Uy{dl:Dl}{v:V}{t:T}(h:ay K dl H v t F):(!decide (v=.non))=match(generalizing:=false) t with|.n=>!true|_=>true:=by cases h <;> rfl
def j9:c9 K (λx y H Q=>y=.non/\Q (.bl (decide (x=.non))) H) (D3 ϊ):=by
 intro dl H x y t u F G Q R D q g hq k;unfold D3 at hq
 split at hq
 ·let(U,U):=g.r.non;refine(U,k _ _ [] H (.refl D) (.c (.b _)) bY mu ?_)
  rw[q.r.Ux];exact hq
 ·exact hq.elim
def lN:c9 K (λx y H Q=>y=.non/\Q (.bl (!decide (x=.non))) H) (D3 O):=by
 intro dl H x y t u F G Q R D q g hq k;unfold D3 at hq
 split at hq
 ·let(U,U):=g.r.non;refine(U,k _ _ [] H (.refl D) (.c (.b _)) bY mu ?_)
  rw[q.r.Uy];exact hq
 ·exact hq.elim
def inT(x:T)(xs:List T):Bool:=xs.any λy=>eqV y.v x.v
def fls(xs:List T):Bool:=xs.all T.fl
theorem aq.vs{dl:Dl}{vs:List V}(h:aq K dl H vs ts F):fls ts=O->vs=ts.map T.v/\F=[] :=
 h.ind (λ_=>(U,U)) λ_ _ _ _ _ _ h _ g f=>by
  let f:(_&&_)=true:=f;rw[sO]at f;let(U,U):=h.v f.1;let(U,U):=g f.2;exact(U,U)
def se(f:fls ts=O):(ts.map T.v).all eB=true:=by
 rw[Fq];intro x hx;let(t,g,U):=ui.mp hx
 have:=Fq.mp f t g
 cases t <;> first|rfl|exact absurd this qf
def wZ{t:T}(f:t.fl=O):eB t.v=true:=by cases t <;> first|rfl|exact absurd f qf
def Kq(K:BT)(neg:Bool):R2:=λx y H Q=>rIn K neg x y H Q\/∃i j,x=.str i/\y=.str j/\Q (.bl (if neg then !(!(Builtin.Str.occurrences j i 0 j.length 1).isEmpty)else !(Builtin.Str.occurrences j i 0 j.length 1).isEmpty)) H
def Hr(g:X.K=K):OpR X (compareOp .In) (Kq K ϊ):=by subst g;exact Ed.or Ec
def Eb(g:X.K=K):OpR X (compareOp .NotIn) (Kq K O):=by subst g;exact wA.or wz
def qIn(neg:Bool):Q2:=λt u Q=>match u with
 |.l xs=>(t.fl&&fls xs)=O/\Q (.b (if neg then !inT t xs else inT t xs))
 |.t xs=>(t.fl&&fls xs)=O/\Q (.b (if neg then !inT t xs else inT t xs))
 |.k ws=>match t with
  |.s y=>Q (.b (if neg then !inT (.s y) (ws.map T.s)else inT (.s y) (ws.map T.s)))
  |_=>False
 |.s z=>match t with
  |.s y=>Q (.b (if neg then !(!(Builtin.Str.occurrences z y 0 z.length 1).isEmpty)else !(Builtin.Str.occurrences z y 0 z.length 1).isEmpty))
  |_=>False
 |_=>False
def Af:c9 K (Kq K neg) (qIn neg):=by
 intro dl H x y t u F G Q R D q g hq k;let go:∀xs p vs,y=.ref p->(SqL K H p vs\/SqT K H p vs)->(∃G,aq K dl H vs xs G)->(t.fl&&fls xs)=O/\Q (.b (if neg then !inT t xs else inT t xs))->Kq K neg x y H R:=by
  rintro xs p vs rfl hs ⟨G,rs⟩ ⟨f,hq⟩
  rw[sO]at f;let(U,U):=q.r.v f.1;let(U,_):=rs.vs f.2;refine .inl (p,_,U,hs,wZ f.1,se f.2,k _ (.b _) [] H (.refl D) (.c (.b _)) bY mu ?_)
  let e:inV t.v (xs.map T.v)=inT t xs:=by unfold inV inT;rw[Xe];rfl
  rw[e];exact hq
 cases u with
 |l xs =>
  let(p,vs,G,U,_,h1,h2):=g.r.lst;exact go _ p vs U (.inl (SqL.of h1)) (_,h2) hq
 |t xs =>
  let(p,vs,U,h1,h2):=g.r.tup;exact go _ p vs U (.inr (SqT.of h1)) (_,h2) hq
 |k ws =>
  dsimp only[qIn]at hq
  split at hq
  ·let(p,U,h1,_):=g.r.kst;refine go _ p _ U (.inr (h1 H)) (_,kT _) (?_,hq);rw[sO];refine(U,?_);unfold fls;rw[WU,Fq];exact λ_ _=>rfl
  ·exact hq.elim
 |s z =>
  dsimp only[qIn]at hq
  split at hq
  ·let(U,U):=q.r.str;let(U,U):=g.r.str;exact .inr (_,_,U,U,k _ _ [] H (.refl D) (.c (.b _)) bY mu hq)
  ·exact hq.elim
 |_=>exact hq.elim
def kW(ho:OpR X (compareOp op) r)(hs:c9 K r rq)(hm:behindInMarks op b=ϊ)(ha:QPE X K a ta qa)(g:QPE X K b tb qb):QPF X K (.Compare a [op] [b] pos) (tOp r ta tb) (qOp rq qa qb) :=
 (Ly ho ha.h g.h hm,vy hs ha.s g.s)
def uJ(qe:QE):QT:=λq Q=>qe q λt=>match t with
 |.b x=>Q x
 |_=>False
def FI(h:iy K te qe):lr K (BM te) (uJ qe):=by
 intro dl H σ q Q R rd hq k;refine h dl H σ q _ _ rd hq λv t F H' e r g=>?_
 split at g
 ·let(U,U):=r.r.bl;exact(_,U,k _ H' e g)
 ·exact g.elim
def bW(ho:OpR X (compareOp op) r)(hs:c9 K r rq)(hm:behindInMarks op b=ϊ)(ha:QPE X K a ta qa)(g:QPE X K b tb qb):QPT X K (.Compare a [op] [b] pos) (BM (tOp r ta tb)) (uJ (qOp rq qa qb)) :=
 (l5 ho ha.h g.h hm,FI (qF hs.w ha.s g.s))
def RT(qe:QE):QT:=λq Q=>qe q λt=>match t with
 |.b x=>Q x
 |.n=>Q ϊ
 |.i x=>Q (x != 0)
 |.s x=>x.length<=mV/\Q ((x.length:Int) != 0)
 |.l xs=>Q (!xs.isEmpty)
 |.t xs=>Q (!xs.isEmpty)
 |.d xs=>Q (!xs.isEmpty)
 |_=>False
def JX(h:iy K te qe):lr K (λσ H Q=>te σ H λx H'=>∃k,Nb K x H' k/\Q k H') (RT qe):=by
 intro dl H σ q Q R rd hq k;refine h dl H σ q _ _ rd hq λv t F H' e r g=>?_
 let emp:∀{α β:Type}{xs:List α}{ys:List β},xs.length=ys.length->(!xs.isEmpty) = !ys.isEmpty:=λ{α β xs ys} h=>by
  cases xs <;> cases ys <;> first|rfl|(simp at h)
 cases t with
 |b x =>
  let(U,U):=r.r.bl;exact(_,U,k _ H' e g)
 |n =>
  let(U,U):=r.r.non;exact(_,U,k _ H' e g)
 |i x =>
  let(U,U):=r.r.int;exact(_,U,k _ H' e g)
 |s x =>
  let(U,U):=r.r.str;exact(_,(g.1,U),k _ H' e g.2)
 |l xs =>
  let(p,vs,G,U,_,h1,h2):=r.r.lst;exact(_,.inl (vs,SqL.of h1,U),k _ H' e (by rw[emp h2.len];exact g))
 |t xs =>
  let(p,vs,U,h1,h2):=r.r.tup;exact(_,.inr (.inl (vs,SqT.of h1,U)),k _ H' e (by rw[emp h2.len];exact g))
 |d xs =>
  let(p,vs,G,U,_,h1,h2):=r.r.dic;exact(_,.inr (.inr (vs,h1,U)),k _ H' e (by rw[emp h2.len];exact g))
 |_=>exact g.elim
def fu(h:QPE X K e te qe)(he:∀whole,isTrue e X.env whole=(do let v <- whole;standAt e.pos;holding [v] (truthy v)):=by intro _;rfl)(g:X.K=K:=by rfl):
  QPT X K e (λσ H Q=>te σ H λx H'=>∃k,Nb K x H' k/\Q k H') (RT qe):=(by subst g;exact GQ h.h he,JX h.s)
def R0(t:QT):QT:=λq Q=>t q λc=>Q (!c)
def Sj(t u:QT):QT:=λq Q=>t q λc=>if c=O then u q Q else Q ϊ
def qOr(t u:QT):QT:=λq Q=>t q λc=>if c=O then Q O else u q Q
def J1(h:lr K tA qA):lr K (Oh tA) (R0 qA):=λdl H σ q _ R rd hq k=>h dl H σ q _ _ rd hq λb H' e g=>k _ H' e g
def J9(h:lr K tA qA)(h2:lr K tB qB):lr K (JN tA tB) (Sj qA qB):=λdl H σ q Q R rd hq k=>h dl H σ q _ _ rd hq λb H' e g=>by
 cases b with
 |false=>exact k _ H' e g
 |true=>exact h2 dl H' σ q Q R (rd.evo e) g λc H2 P z=>k c H2 (e.trans P) z
def Ot(h:lr K tA qA)(h2:lr K tB qB):lr K (tOr tA tB) (qOr qA qB):=λdl H σ q Q R rd hq k=>h dl H σ q _ _ rd hq λb H' e g=>by
 cases b with
 |true=>exact k _ H' e g
 |false=>exact h2 dl H' σ q Q R (rd.evo e) g λc H2 P z=>k c H2 (e.trans P) z
def Gs(h:QPT X K a tA qA):QPT X K (.UnaryOp .Not a pos) (Oh tA) (R0 qA):=(OZ h.h,J1 h.s)
def iH(h:QPT X K a tA qA):QPW X K (.BoolOp .And [a] pos) tA qA:=(v5 h.h,h.s)
def vT(h:QPT X K a tA qA):QPW X K (.BoolOp .Or [a] pos) tA qA:=(OV h.h,h.s)
def kU(h:QPT X K a tA qA)(h2:QPW X K (.BoolOp .And (b::rest) pos) tB qB):QPW X K (.BoolOp .And (a::b::rest) pos) (JN tA tB) (Sj qA qB):=(AE h.h h2.h,J9 h.s h2.s)
def uG(h:QPT X K a tA qA)(h2:QPW X K (.BoolOp .Or (b::rest) pos) tB qB):QPW X K (.BoolOp .Or (a::b::rest) pos) (tOr tA tB) (qOr qA qB):=(Sk h.h h2.h,Ot h.s h2.s)
theorem QPW.pt(h:QPW X K e tA qA):QPT X K e tA qA:=(h.h.pt,h.s)
def qIf(t:QT)(qa qb:QE):QE:=λq Q=>t q λc=>if c=O then qa q Q else qb q Q
def Nz(hc:QPT X K c tA qA)(ha:QPF X K a ta qa)(g:QPF X K b tb qb):QPF X K (.IfExp c a b pos) (tIf tA ta tb) (qIf qA qa qb):=(Hb hc.h ha.h g.h,λdl H σ q Q R rd hq k=>hc.s dl H σ q _ _ rd hq λd H' e hz=>by
 cases d with
 |true=>exact ha.s dl H' σ q Q R (rd.evo e) hz λw u G H2 e2 P f2 V z=>k w u G H2 (e.trans e2) P (λb g=>e.free (f2 b g)) V z
 |false=>exact g.s dl H' σ q Q R (rd.evo e) hz λw u G H2 e2 P f2 V z=>k w u G H2 (e.trans e2) P (λb g=>e.free (f2 b g)) V z)
def gW(ha:QPE X K a ta qa):QPF X K (.UnaryOp .USub a pos) (tUn (rU λi=>.int (-i)) ta) (λq Q=>qa q λt=>match t with|.i x=>Q (.i (-x))|_=>False):=(G8 zZ ha.h,λdl H σ q Q R rd hq k=>ha.s dl H σ q _ _ rd hq λv t F H' e r g=>by
 split at g
 ·let(U,U):=r.r.int;exact(_,U,k _ _ [] H' e (.c (.i _)) bY mu g)
 ·exact g.elim)
def fb:QA:=λ_ Q=>Q []
def aJ(qa:QE)(ql:QA):QA:=λq Q=>qa q λt=>ql q λts=>Q (t::ts)
def aj:xx X K [] fY fb:=(eu,λdl H σ q Q R rd hq k=>k [] [] [] H (.refl rd.d) (.nil,bY) U bY mu hq)
def xx.w(h:xx X K es tl ql):QPA X K es tl ql:=(h.h,λdl H σ q Q R rd hq k=>h.s dl H σ q Q R rd hq λvs ts F H' e r l _ _ z=>k vs ts F H' e r l z)
theorem Rps.cons{dl:Dl}(h:Rp K dl H v t F)(r:Rps K dl H vs ts G):Rps K dl H (v::vs) (t::ts) (F++G):=(.cons h.r r.r,λb g=>(p7.mp g).elim (h.n b) (r.n b))
def ae(ha:QPE X K e te qe)(hr:QPA X K es tl ql)(hs:AC X e es:=by rfl):QPA X K (e::es) (di te tl) (aJ qe ql) :=
 (bL ha.h hr.h hs,λdl H σ q Q R rd hq k=>ha.s dl H σ q _ _ rd hq λv t F H1 g r1 hz=>hr.s dl H1 σ q _ _ (rd.evo g) hz λvs ts G H2 P V l2 z=>k _ _ _ H2 (g.trans P) (.cons (r1.evo g.d P) V) (by simp[l2]) z)
def af(ha:QPF X K e te qe)(hr:xx X K es tl ql)(hs:AC X e es:=by rfl):xx X K (e::es) (di te tl) (aJ qe ql) :=
 (bL ha.h hr.h hs,λdl H σ q Q R rd hq k=>ha.s dl H σ q _ _ rd hq λv t F H1 g r1 f1 n1 hz=>hr.s dl H1 σ q _ _ (rd.evo g) hz λvs ts G H2 e2 r2 l2 f2 n2 z =>
  k _ _ _ H2 (g.trans e2) (.cons (r1.evo g.d e2) r2) (by simp[l2]) (λb P=>(p7.mp P).elim (f1 b) λP=>g.free (f2 b P)) (Dc.mpr (n1,n2,λx hx y hy V=>by
   subst V;exact(r1.r.there x hx).no (f2 x hy))) z)
def yo(ql:QA):QE:=λq Q=>ql q λts=>Q (.t ts)
def K4(ql:QA):QE:=λq Q=>ql q λts=>Q (.l ts)
def ar(h:xx X K es tl ql)(hz:es.length<=1000:=by decide):QPF X K (.Tuple es P pos) (Oe tl) (yo ql):=(G9 h.h,λdl H σ q Q R rd hq k=>h.s dl H σ q _ _ rd hq λvs ts F H1 g V l1 f1 n1 z =>
 (P1 (aF (by lia)),λp hp=>k _ _ F _ (g.new hp) (V.tup g.d hp) f1 n1 z))
def KP(h:QPA X K es tl ql)(hz:es.length<=1000:=by decide):QPE X K (.Tuple es P pos) (Oe tl) (yo ql):=(G9 h.h,λdl H σ q Q R rd hq k=>h.s dl H σ q _ _ rd hq λvs ts F H1 g V l1 z =>
 (P1 (aF (by omega)),λp hp=>k _ _ F _ (g.new hp) (V.tup g.d hp) z))
def aG(h:xx X K es tl ql)(hz:es.length<=1000:=by decide):QPF X K (.List es pos) (Rn tl) (K4 ql):=(Ph h.h,λdl H σ q Q R rd hq k=>h.s dl H σ q _ _ rd hq λvs ts F H1 P V l1 f1 n1 z =>
 (P1 (aF (by omega)),λp hp=>k _ _ (p::F) _ (P.new hp) (V.lst P.d hp) (λb g=>by
  obtain e|g:=kf.mp g
  ·rw[e];exact P.free hp
  ·exact f1 b g) (V.fresh hp n1) z))
def gE(h:strsOf es=Z ws)(hl:es.length=ws.length:=by rfl):xx X K es (λ_ H Q=>Q (ws.map V.str) H) (λ_ Q=>Q (ws.map T.s)) :=
 (LA h,λdl H σ q Q R rd hq k=>k _ _ [] H (.refl rd.d) (kT ws,bY) (by rw[dz];exact hl.symm) bY mu hq)
def qIx:Q2:=λt u Q=>match u with
 |.i k=>match t with
  |.l xs=>Ex2 (λx=>atI xs k=Z x) Q
  |.t xs=>Ex2 (λx=>atI xs k=Z x) Q
  |.z ns=>Ex3 (λx=>atI ns k=Z x) (λx=>(.i x)) Q
  |.zl xs=>Ex2 (λx=>atI xs k=Z x) Q
  |.s z=>z.length<=mV/\Ex3 (λc=>atI z.cps.toList k=Z c) (λc=>(.s ⟨#[c]⟩)) Q
  |_=>False
 |_=>False
def mQ{ys:List β}{x:α}(h:atI xs k=Z x)(hl:xs.length=ys.length):∃j:Nat,xs[j]?=Z x/\ixN ys.length k=Z j:=by
 unfold atI at h;cases e:ixN xs.length k with
 |none=>rw[e]at h;cases h
 |some j=>rw[e]at h;exact(j,h,by rw[<- hl];exact e)
def nZ{xs:List α}{x:α}(h:ixN xs.length k=Z j)(hx:xs[j]?=Z x):atI xs k=Z x:=by unfold atI;rw[h];exact hx
def FP:EX K (rIx K) qIx:=by
 intro dl H x y t u F G Q R D g r2 hq k;unfold qIx at hq
 split at hq
 ·rename_i k0;let(U,U):=r2.r.int;cases t with
  |l xs =>
   let(p,vs,G,U,U,h1,h2):=g.r.lst;let(z,q,hq):=hq;let(j,P,hi):=mQ q h2.len.symm;let(v,G',hv,rv,hs):=h2.get P;exact .inl (p,vs,k0,v,U,U,SqL.of h1,nZ hi hv,k v z G' H (.refl D) (Rp.sub rv g.n λb hb=>j0 _ (hs b hb)) hq)
  |t xs =>
   let(p,vs,U,h1,h2):=g.r.tup;let(z,q,hq):=hq;let(j,P,hi):=mQ q h2.len.symm;let(v,G',hv,rv,hs):=h2.get P;exact .inr (.inl (p,vs,k0,v,U,U,SqT.of h1,nZ hi hv,k v z G' H (.refl D) (Rp.sub rv g.n hs) hq))
  |z ns =>
   let(p,U,h1,_):=g.r.scr;let(z,q,hq):=hq;refine .inl (p,_,k0,.int z,U,U,h1.sq,?_,k _ _ [] H (.refl D) (.c (.i _)) hq);let(j,P,hi):=mQ (ys:=(_:List Int).map V.int) q (by rw[dz])
   exact nZ hi (by rw[j5,P];rfl)
  |zl xs =>
   let(p,o,vs,U,U,h1,h2):=g.r.zls;let(z,q,hq):=hq;let(j,P,hi):=mQ q h2.len.symm;let(v,G',hv,rv,hs):=h2.get P;exact .inl (p,vs,k0,v,U,U,.inl (.inr (o,h1)),nZ hi hv,k v z G' H (.refl D) (Rp.sub rv g.n hs) hq)
  |s z =>
   let(U,U):=g.r.str;let(hl,c,hc,hq):=hq;exact .inr (.inr (_,k0,c,U,U,hl,hc,k _ _ [] H (.refl D) (.c (.s _)) hq))
  |_=>exact hq.elim
 ·exact hq.elim
def au(ha:QPE X K a ta qa)(g:QPE X K b tb qb)(hs:i7 b:=by intro _ _;rfl)(q:X.K=K:=by rfl):QPE X K (.Subscript a b pos) (tOp (rIx K) ta tb) (qOp qIx qa qb):=(by subst q;exact rD wQ ha.h g.h hs,qF FP ha.s g.s)
end
variable{prog:Da}{A:Db}{E:B->ϋ->Prop}{items:Array B}{Q:B->ϋ->Prop}{p2:Pos}{n:Nat}{r:List V->Hp->VK->Prop}{us:List B}
section
variable{X:Cx}{K:BT}{a b c e:Ev}{es:List Ev}{te:TE}{qe:QE}{tl:TA}{ql:QA}{pos p:Pos}
abbrev QO:=Sq->(Option Int->Prop)->Prop
def Vr(K:BT)(t:TO)(tq:QO):Prop:=∀(dl:Dl)(H:Hp)(σ:St)(q:Sq)(Q:Option Int->Prop)(R:Option Int->Hp->Prop),RdR K dl H σ q->tq q Q->(∀o H',Evo dl H H'->Q o->R o H')->t σ H R
structure QPO(X:Cx)(K:BT)(e:Option Ev)(t:TO)(tq:QO):Prop where
 h:PO X e t
 s:Vr K t tq
def iK:QPO X K Y BN (λ_ Q=>Q Y):=(Ll,λ_ _ _ _ _ _ rd hq k=>k Y _ (.refl rd.d) hq)
def iJ(h:QPE X K e te qe):QPO X K (Z e) (Nn te) (λq Q=>qe q λt=>match t with|.i x=>Q (Z x)|_=>False):=(wc h.h,λdl H σ q Q R rd hq k=>h.s dl H σ q _ _ rd hq λv t F H' e r g=>by
 split at g
 ·let(U,U):=r.r.int;exact(_,U,k _ H' e g)
 ·exact g.elim)
def eU{α:Type}(xs:List α)(lo hi:Option Int):List α:=(xs.drop (HT.sIx xs.length 0 lo)).take (HT.sIx xs.length xs.length hi - HT.sIx xs.length 0 lo)
def aq.cut{dl:Dl}{vs:List V}(lo hi:Option Int)(h:aq K dl H vs ts F):∃G,aq K dl H (mJ vs lo hi) (eU ts lo hi) G/\G.Sublist F:=by
 unfold mJ eU;rw[h.len];let(G,h1,s1):=h.drop (HT.sIx ts.length 0 lo);let(g,h2,s2):=h1.take (HT.sIx ts.length ts.length hi - HT.sIx ts.length 0 lo);exact(g,h2,s2.trans s1)
def ku{s:ϋ}{t sl:J}{V P:B}{lo hi:Option Int}(g:IsTup s.heap t items)(hs:s.heap.IsSliceOf sl V P .none)(pl:IsPart V lo)(pu:IsPart P hi)
  (hw:HT.sIx items.size 0 lo=0/\HT.sIx items.size items.size hi=items.size)
  (h:Q (.ref t) s):wpAny (model prog w) A (getItem (.ref t) (.ref sl)) Q E s:=by
 let(os,q,z,av):=id hs;let K:s.TypeIs (.ref sl) "slice":=(os,q,z);let hT:=g.typeIs;unfold getItem
 try with_reducible refine E7 ?_
 refine cO (wpAny_sequenceKey g.typeIs (by decide) ?_)
 refine cO (wpAny_callSpecial?_slot g.typeIs PyProof.Rows.slot_tuple_getitem
  (Es PyProof.Rows.slot_tuple_getitem g.typeIs entry_tuple_getitem ?_ (args_tuple_getitem _ _)))
 show wpAny _ _ (Builtin.Tuple.tupleItemsOf (.ref t) >>= _) _ _ s;refine cO (tupleItemsOf_ g (cO (Vx K ?_)));refine cO (HT.ia hs pl pu ?_);let hy:(((HT.sIx items.size 0 lo):Int)==0&&(1:Int)==1&&(HT.sIx items.size items.size hi - HT.sIx items.size 0 lo)==items.size)=true:=by
  rw[hw.1,hw.2];simp
 show wpAny _ _ (if(((HT.sIx items.size 0 lo):Int)==0&&(1)==1&&(HT.sIx items.size items.size hi - HT.sIx items.size 0 lo)==items.size)=O then _ else _) _ _ s
 rw[if_pos hy];exact cO (cO (Vx hT (k4 (by rw[if_pos (by decide)];exact cO (VL (k4 (_,U,k4 h)))))))
inductive RA(K:BT)(x:V)(lo:Option Int)(hi:Option Int)(H:Hp)(Q:VK):Prop
 |mk(a xs)(h1:x=.ref a)(h2:SqT K H a xs)(h3:((HT.sIx xs.length 0 lo=0/\HT.sIx xs.length xs.length hi=xs.length)->Q (.ref a) H))(h4:(¬(HT.sIx xs.length 0 lo=0/\HT.sIx xs.length xs.length hi=xs.length)->∀p,H p=Y->Q (.ref p) (upd H p (.tup (mJ xs lo hi)))))
def JU:SlR X (RA X.K):=by
 intro gV s σ H x v P z lo hi sl Q I g hs pl pu h;let(a,xs,U,hx,q1,V):=h;by_cases hw:HT.sIx xs.length 0 lo=0/\HT.sIx xs.length xs.length hi=xs.length
 ·cases g;let(its,r,q,hz):=I.tuple hx;let hlen:its.toArray.size=xs.length:=by exact r.length.symm
  exact("tuple",_,PyProof.Rows.slot_tuple_getitem.lookup,q.typeIs,ku q hs pl pu (by rw[hlen];exact hw) (.ref a,H,I,U,q1 hw))
 ·exact Oo gV s σ H _ v P z lo hi sl Q I g hs pl pu (a,xs,U,hx,hw,V hw)
def EJ{xs:List α}{lo hi:Option Int}(h:HT.sIx xs.length 0 lo=0/\HT.sIx xs.length xs.length hi=xs.length):eU xs lo hi=xs:=by
 unfold eU;rw[h.1,h.2];simp
def RD(K:BT):V->Option Int->Option Int->Hp->VK->Prop:=λx lo hi H Q=>RC K x lo hi H Q\/RA K x lo hi H Q\/RB x lo hi H Q
def Ua(g:X.K=K):SlR X (RD K):=by subst g;exact BX.or (JU.or Oq)
def qSl(qe:QE)(l u:QO):QE:=λq Q=>qe q λt=>l q λlo=>u q λhi=>match t with
 |.l xs=>T.ims xs=O/\Q (.l (eU xs lo hi))
 |.t xs=>T.ims xs=O/\Q (.t (eU xs lo hi))
 |.z ns=>Q (.l ((eU ns lo hi).map T.i))
 |.zl xs=>Q (.l (eU xs lo hi))
 |.s z=>z.length<=mV/\Q (.s (Txt.slice z lo hi))
 |_=>False
def f7(he:QPE X K e te qe)(hl:QPO X K l av aE)(hu:QPO X K u aD aH)(hK:X.K=K:=by rfl):QPF X K (.Subscript e (.Slice l u Y p2) pos) (tSl (RD K) te av aD) (qSl qe aE aH) :=
 (yB (Ua hK) he.h hl.h hu.h,λdl H σ q Q R rd hq k=>he.s dl H σ q _ _ rd hq λv t F H1 e1 r1 g=>hl.s dl H1 σ q _ _ (rd.evo e1) g λlo H2 e2 g=>hu.s dl H2 σ q _ _ ((rd.evo e1).evo e2) g λhi H3 e3 g=>by
  let r3:=(r1.evo e1.d e2).evo e2.d e3;let P:=(e1.trans e2).trans e3;let no:∀b,b∈([])->H b=none:=bY
  cases t with
  |l xs =>
   let(p,vs,G,U,U,h1,h2):=r3.r.lst;obtain rfl:=h2.im g.1;let(G,h3,s3):=h2.cut lo hi;obtain rfl:=WE.mp s3;refine .inl (p,vs,U,SqL.of h1,λp hp=>?_)
   let rs:Rps K dl H3 (mJ vs lo hi) _ []:=(h3,λc hc=>nomatch hc)
   exact k _ _ _ _ (P.new hp) (rs.lst e3.d hp) (λb hb=>by rw[ej.mp hb];exact P.free hp) (by simp) g.2
  |t xs =>
   let(p,vs,U,h1,h2):=r3.r.tup;obtain rfl:=h2.im g.1;let(G,h3,s3):=h2.cut lo hi;obtain rfl:=WE.mp s3;refine .inr (.inl (p,vs,U,SqT.of h1,λhw=>?_,λ_ p hp=>?_))
   ·refine k _ _ _ _ P r3 no mu ?_;rw[h2.len]at hw;let aI:=g.2;rw[EJ hw]at aI;exact aI
   ·let rs:Rps K dl H3 (mJ vs lo hi) _ []:=(h3,λc hc=>nomatch hc)
    exact k _ _ _ _ (P.new hp) (rs.tup e3.d hp) no mu g.2
  |z ns =>
   let(p,U,h1,_):=r3.r.scr;refine .inl (p,_,U,h1.sq,λp hp=>?_)
   let e:mJ (ns.map V.int) lo hi=(eU ns lo hi).map V.int:=by unfold mJ eU;rw[dz,<- W8,<- WI]
   rw[e];let rs:Rps K dl H3 ((eU ns lo hi).map V.int) ((eU ns lo hi).map T.i) []:=(qR _,λc hc=>nomatch hc)
   exact k _ _ _ _ (P.new hp) (rs.lst e3.d hp) (λb hb=>by rw[ej.mp hb];exact P.free hp) (by simp) g
  |zl xs =>
   let(p,o,vs,U,U,h1,h2):=r3.r.zls;let(G,h3,s3):=h2.cut lo hi;obtain rfl:=WE.mp s3;refine .inl (p,vs,U,.inl (.inr (o,h1)),λp hp=>?_)
   let rs:Rps K dl H3 (mJ vs lo hi) _ []:=(h3,λc hc=>nomatch hc)
   exact k _ _ _ _ (P.new hp) (rs.lst e3.d hp) (λb hb=>by rw[ej.mp hb];exact P.free hp) (by simp) g
  |s z =>
   let(U,U):=r3.r.str;exact .inr (.inr (_,U,g.1,k _ _ [] H3 P (.c (.s _)) no mu g.2))
  |_=>exact g.elim)
abbrev QC:=List T->(T->Prop)->Prop
def n8(K:BT)(r:List V->Hp->VK->Prop)(rq:QC):Prop:=∀(dl:Dl)(H:Hp)(vs:List V)(ts:List T)(F:List J)(Q:T->Prop)(R:V->Hp->Prop),Dls dl H->Rps K dl H vs ts F->rq ts Q ->
 (∀v z F' H',Evo dl H H'->Rp K dl H' v z F'->(∀b∈F',H b=Y)->F'.Nodup->Q z->R v H')->r vs H R
def qCB(rq:QC)(ql:QA):QE:=λq Q=>ql q λts=>rq ts Q
def FT{rq:QC}(h:n8 K r rq)(hl:zG K n tl ql):mT K (tCB r tl) (qCB rq ql):=λdl H σ q Q R rd hq k=>hl dl H σ q _ _ rd hq λvs ts F H1 P r1 _ g =>
 h dl H1 vs ts F Q R P.d r1 g λv z F' H2 e2 V f2 n2 g=>k v z F' H2 (P.trans e2) V (λb hb=>P.free (f2 b hb)) n2 g
def cn{id:String}{rq:QC}(z:cF X (.builtin id) r)(hs:n8 K r rq)(hg:Gl X x)(hm:X.mg x=Y)(hv:bootBuiltins x=Z (.builtin id))(ha:QPA X K (e::es) tl ql)(hn:x ≠ "__name__":=by decide)(q:AS x:=by decide)
  (he:AC X e es:=by rfl) (g:AM X pos es:=by rfl):QPF X K (.Call (.Name x p) (e::es) [] pos) (tCB r tl) (qCB rq ql):=(rE z hg hm hv ha.h hn q he g,FT hs ha.s)
def bh{id:String}{rq:QC}(z:cF X (.type id) r)(hs:n8 K r rq)(hg:Gl X x)(hm:X.mg x=Y)(hv:bootBuiltins x=Z (.type id))(ha:QPA X K (e::es) tl ql)(hn:x ≠ "__name__":=by decide)(q:AS x:=by decide)
  (he:AC X e es:=by rfl) (g:AM X pos es:=by rfl):QPF X K (.Call (.Name x p) (e::es) [] pos) (tCB r tl) (qCB rq ql):=(Ea z hg hm hv ha.h hn q he g,FT hs ha.s)
def Rps.one{dl:Dl}(h:Rps K dl H vs [t] F):∃v,vs=[v]/\Rp K dl H v t F:=by
 let(r,n):=h;cases r with
 |cons q g =>
  cases g;rw[sQ]at n;rw[sQ];exact(_,U,q,n)
def Rps.two{dl:Dl}(h:Rps K dl H vs [t,u] F):∃v w Q P,vs=[v,w]/\Rp K dl H v t Q/\Rp K dl H w u P:=by
 let(r,n):=h;cases r with
 |cons z q =>
  let(w,U,h2):=Rps.one (q,λb g=>n b (p6 _ g))
  exact(_,w,_,_,U,(z,λb g=>n b (qr _ g)),h2)
def Gj(K:BT):List V->Hp->VK->Prop:=λxs H Q=>(∃p ys,xs=[.ref p]/\(SqL K H p ys\/SqT K H p ys)/\Q (.int ys.length) H)\/(∃z,xs=[.str z]/\z.length<=mV/\Q (.int z.length) H)\/∃a kvs,xs=[V.ref a]/\H a=Z (.dK kvs)/\Q (.int kvs.length) H
def ES(g:X.K=K):cF X (.builtin "len") (Gj K):=by subst g;exact mM.or (xn.or ER)
def DZ:QC:=λts Q=>on1 ts λt=>match t with
 |.l xs=>Q (.i xs.length)
 |.t xs=>Q (.i xs.length)
 |.z xs=>Q (.i xs.length)
 |.zl xs=>Q (.i xs.length)
 |.d xs=>Q (.i xs.length)
 |.s x=>x.length<=mV/\Q (.i x.length)
 |_=>False
def J3:n8 K (Gj K) DZ:=by
 intro dl H vs ts F Q R D r hq k;let fin:∀n,Q (.i n)->R (.int n) H:=λn hq=>k _ _ [] H (.refl D) (.c (.i _)) bY mu hq
 replace hq:=on1.inv hq
 let(t,U,hq):=hq;let(v,U,g):=r.one;cases t with
 |l xs =>
  let(p,vs,G,U,_,h1,h2):=g.r.lst;exact .inl (p,vs,U,.inl (SqL.of h1),fin _ (by rw[h2.len];exact hq))
 |t xs =>
  let(p,vs,U,h1,h2):=g.r.tup;exact .inl (p,vs,U,.inr (SqT.of h1),fin _ (by rw[h2.len];exact hq))
 |z xs =>
  let(p,U,h1,_):=g.r.scr;exact .inl (p,_,U,.inl h1.sq,fin _ (by rw[dz];exact hq))
 |zl xs =>
  let(p,o,vs,U,_,h1,h2):=g.r.zls;exact .inl (p,vs,U,.inl (.inl (.inr (o,h1))),fin _ (by rw[h2.len];exact hq))
 |d xs =>
  let(p,vs,G,U,_,h1,h2):=g.r.dic;exact .inr (.inr (p,vs,U,h1,fin _ (by rw[h2.len];exact hq)))
 |s x =>
  let(U,_):=g.r.str;exact .inr (.inl (_,U,hq.1,fin _ hq.2))
 |_=>exact hq.elim
def qI2(g:Int->Int->Int):QC:=λts Q=>on2 ts λt u=>match t with
 |.i a=>match u with
  |.i b=>Q (.i (g a b))
  |_=>False
 |_=>False
def nc:n8 K (λxs H Q=>∃i j,xs=[.int i,.int j]/\Q (.int (g i j)) H) (qI2 g):=by
 intro dl H vs ts F Q R D r hq k
 replace hq:=on2.inv hq
 let(t,u,U,hq):=hq
 split at hq
 ·split at hq
  ·let(v,w,F1,V,U,P,q):=r.two;let(U,_):=P.r.int;let(U,_):=q.r.int;exact(_,_,U,k _ _ [] H (.refl D) (.c (.i _)) bY mu hq)
  ·exact hq.elim
 ·exact hq.elim
def Uj:QC:=λts Q=>on1 ts λt=>match t with
 |.i a=>Q (.i a)
 |.b k=>Q (.i (if k then 1 else 0))
 |_=>False
def vz:n8 K (λxs H Q=>(∃i,xs=[.int i]/\Q (.int i) H)\/∃k,xs=[.bl k]/\Q (.int (if k then 1 else 0)) H) Uj:=by
 intro dl H vs ts F Q R D r hq k
 replace hq:=on1.inv hq
 let(t,U,hq):=hq;cases t with
 |i a =>
  let(v,U,g):=r.one;let(U,_):=g.r.int;exact .inl (_,U,k _ _ [] H (.refl D) (.c (.i _)) bY mu hq)
 |b c =>
  let(v,U,g):=r.one;let(U,_):=g.r.bl;exact .inr (_,U,k _ _ [] H (.refl D) (.c (.i _)) bY mu hq)
 |_=>exact hq.elim
def OO:QC:=λts Q=>on1 ts λt=>match t with
 |.l xs=>T.ims xs=O/\Q (.t xs)
 |.t xs=>T.ims xs=O/\Q (.t xs)
 |_=>False
def bT(g:X.K=K):cF X (.type "tuple") (λxs H Q=>∃p ys,xs=[.ref p]/\((SqL K H p ys/\∀l,H l=Y->Q (.ref l) (upd H l (.tup ys)))\/(SqT K H p ys/\Q (.ref p) H))):=by subst g;exact uf
def bS:n8 K (λxs H Q=>∃p ys,xs=[.ref p]/\((SqL K H p ys/\∀l,H l=Y->Q (.ref l) (upd H l (.tup ys)))\/(SqT K H p ys/\Q (.ref p) H))) OO:=by
 intro dl H vs ts F Q R D r hq k;let no:∀b,b∈([])->H b=none:=bY
 replace hq:=on1.inv hq
 let(t,U,hq):=hq;cases t with
 |l xs =>
  let(v,U,g):=r.one;let(p,vs,G,U,U,h1,h2):=g.r.lst;obtain rfl:=h2.im hq.1;refine(p,vs,U,.inl (SqL.of h1,λl hl=>?_))
  let rs:Rps K dl H vs _ []:=(h2,λc q=>nomatch q)
  exact k _ _ _ _ ((Evo.refl D).new hl) (rs.tup D hl) no mu hq.2
 |t xs =>
  let(v,U,g):=r.one;let(p,vs,U,h1,h2):=g.r.tup;obtain rfl:=h2.im hq.1;exact(p,vs,U,.inr (SqT.of h1,k _ _ [] H (.refl D) g no mu hq.2))
 |_=>exact hq.elim
def OP:QC:=λts Q=>on1 ts λt=>match t with
 |.l xs=>T.ims xs=O/\Q (.l xs)
 |.t xs=>T.ims xs=O/\Q (.l xs)
 |_=>False
def EO(g:X.K=K):cF X (.type "list") (λxs H Q=>∃p ys,xs=[.ref p]/\(SqL K H p ys\/SqT K H p ys)/\∀l,H l=Y->Q (.ref l) (upd H l (.lst ys))):=by subst g;exact xm
def DH:n8 K (λxs H Q=>∃p ys,xs=[.ref p]/\(SqL K H p ys\/SqT K H p ys)/\∀l,H l=Y->Q (.ref l) (upd H l (.lst ys))) OP:=by
 intro dl H vs ts F Q R D r hq k
 replace hq:=on1.inv hq
 let(t,U,hq):=hq;cases t with
 |l xs =>
  let(v,U,g):=r.one;let(p,vs,G,U,U,h1,h2):=g.r.lst;obtain rfl:=h2.im hq.1;refine(p,vs,U,.inl (SqL.of h1),λl hl=>?_)
  let rs:Rps K dl H vs _ []:=(h2,λc q=>nomatch q)
  exact k _ _ _ _ ((Evo.refl D).new hl) (rs.lst D hl) (λb z=>by rw[ej.mp z];exact hl) (by simp) hq.2
 |t xs =>
  let(v,U,g):=r.one;let(p,vs,U,h1,h2):=g.r.tup;obtain rfl:=h2.im hq.1;refine(p,vs,U,.inr (SqT.of h1),λl hl=>?_)
  let rs:Rps K dl H vs _ []:=(h2,λc q=>nomatch q)
  exact k _ _ _ _ ((Evo.refl D).new hl) (rs.lst D hl) (λb z=>by rw[ej.mp z];exact hl) (by simp) hq.2
 |_=>exact hq.elim
def picks{α:Type}(f:T->Option α):List T->Option (List α)
 |[]=>Z []
 |t::r=>(f t).bind λa=>(picks f r).map (a :: ·)
theorem aq.picks{dl:Dl}{f:T->Option α}{g:α->V}(hf:∀(v:V)(t:T)(F:List J)(a:α),ay K dl H v t F->f t=Z a->v=g a){vs:List V}(h:aq K dl H vs ts F):∀{bs:List α},L2.picks f ts=Z bs->vs=bs.map g :=
 h.ind (M:=λvs ts F=>∀{bs:List α},L2.picks f ts=Z bs->vs=bs.map g) (λe=>by cases e;rfl) λv t vs ts F G h _ q bs e=>by
  let(a,Q,P):=Xb.mp e;let(as,z,U):=j7.mp P;rw[hf v t F a h Q,q z];rfl
def asB:T->Option Bool
 |.b x=>Z x
 |_=>Y
def asI:T->Option Int
 |.i x=>Z x
 |_=>Y
abbrev bls:List T->Option (List Bool):=picks asB
theorem aq.bls{dl:Dl}{vs:List V}(h:aq K dl H vs ts F)(e:L2.bls ts=Z bs):vs=bs.map V.bl :=
 h.picks (λv t F a h e=>by cases t <;> first|(cases e;exact h.bl.1)|cases e) e
def Uo:QC:=λts Q=>on1 ts λt=>match t with
 |.l xs=>Ex3 (λbs=>bls xs=Z bs) (λbs=>(.b (bs.all id))) Q
 |_=>False
def u6(q:X.K=K)(g:X.calm=O):cF X (.builtin "all") (λxs H Q=>∃(l:J)(bs:List Bool),xs=[.ref l]/\SqL K H l (bs.map V.bl)/\Q (.bl (bs.all id)) H):=by subst q;exact IU g
def B1:n8 K (λxs H Q=>∃(l:J)(bs:List Bool),xs=[.ref l]/\SqL K H l (bs.map V.bl)/\Q (.bl (bs.all id)) H) Uo:=by
 intro dl H vs ts F Q R D r hq k
 replace hq:=on1.inv hq
 let(t,U,hq):=hq
 split at hq
 ·let(v,U,g):=r.one;let(p,vs,G,U,U,h1,h2):=g.r.lst;let(bs,q,hq):=hq;let e:=h2.bls q;subst e;exact(p,bs,U,SqL.of h1,k _ _ [] H (.refl D) (.c (.b _)) bY mu hq)
 ·exact hq.elim
def T.tyN:T->Option String
 |.n=>Z "NoneType" |.b _=>Z "bool" |.i _=>Z "int" |.s _=>Z "str" |.l _=>Z "list" |.q=>Z "list" |.t _=>Z "tuple" |.d _=>Z "dict" |_=>Y
def ay.T8{dl:Dl}{v:V}{t:T}{n:String}(h:ay K dl H v t F)(e:t.tyN=Z n):kA K H v (.type n):=by
 cases h <;> first|(cases e;constructor;assumption)|(cases e;constructor)|(cases e)
theorem ET(g:X.K=K):cF X (.builtin "isinstance") (λxs H Q=>∃x T t b,xs=[x,.ty T]/\kA K H x t/\W.kitOne K t (.type T)=Z b/\Q (.bl b) H):=by subst g;exact IT
def SX(a b:String):Bool:=a==b ||(a == "bool" && b == "int")
def R8:QC:=λts Q=>match ts with
 |[t,.ty n]=>match t.tyN with
  |some m=>(n == "tuple" || n == "list" || n == "str" || n == "int" || n == "bool" || n == "dict")=O/\Q (.b (SX m n))
  |none=>False
 |_=>False
theorem Mz{n m:String}(h:(n == "tuple" || n == "list" || n == "str" || n == "int" || n == "bool" || n == "dict")=O)(hm:m ∈ ["NoneType","bool","int","str","list","tuple","dict"]):W.kitOne K (.type m) (.type n)=Z (SX m n):=by
 simp only[Bool.or_eq_true,beq_iff_eq]at h;simp only[kf,xH,or_false]at hm;obtain((((rfl|rfl)|rfl)|rfl)|rfl)|rfl:=h <;> obtain rfl|rfl|rfl|rfl|rfl|rfl|rfl:=hm <;> rfl
def JJ{t:T}(h:t.tyN=Z m):m ∈ ["NoneType","bool","int","str","list","tuple","dict"]:=by
 cases t <;> cases h <;> decide
theorem J6:n8 K (λxs H Q=>∃x T t b,xs=[x,.ty T]/\kA K H x t/\W.kitOne K t (.type T)=Z b/\Q (.bl b) H) R8:=by
 intro dl H vs ts F Q R D r hq k;unfold R8 at hq
 split at hq
 ·let(v,w,V,P,U,q,g):=r.two;let e:=g.r.tyy;subst e
  split at hq
  ·rename_i m em;exact(v,_,_,_,U,q.r.T8 em,Mz hq.1 (JJ em),k _ _ [] H (.refl D) (.c (.b _)) bY mu hq.2)
  ·exact hq.elim
 ·exact hq.elim
def JR(ns:List Int):preSum (λi=>ns.getD i 0) ns.length=ns.sum:=by
 let h:∀n,n<=ns.length->preSum (λi=>ns.getD i 0) n=(ns.take n).sum:=λn=>by
  induction n with
  |zero=>simp[preSum]
  |succ n q =>
   intro hn;let g:=by omega
   show preSum _ n+ns.getD n 0=_;rw[q (by lia),u3,VZ,eO g]
   simp only[XI,List.sum_append,VB,List.sum_nil,X3,VT]
 rw[h _ (mW _),uj]
def Fb{v:B}(r:Vals (ns.map V.int) us)(h:us[i]?=Z v):∃t,v=.int (ns.getD i 0) t:=by
 let hl:=r.length;rw[dz]at hl;let hi:i<ns.length:=by have:=(j3.mp h).1;lia
 let(u,h1,t,h2):=r.get (i:=i) (x:=.int ns[i]) (by simp[hi])
 rw[h]at h1;cases h1;exact(t,by rw[h2];simp[hi])
def kl(hK:X.K=K)(hc:X.calm=O):cF X (.builtin "sum") (λxs H Q=>∃(l:J)(ns:List Int),xs=[.ref l]/\SqL K H l (ns.map V.int)/\Q (.int ns.sum) H):=by
 subst hK;intro gV s σ H xs us Q I r h;let(l,ns,U,hl,q):=h;let(u,U,ru):=vals1 r;cases ru;let(its,rv,pl,hz):=I.list hl;let g:l<s.heap.objs.size:=by let(_,e,_):=pl.isList;exact kE e
 let hlen:its.toArray.size=ns.length:=by
  let e:=rv.length;rw[dz]at e;simp[e]
 refine call_sum_walkG (wpAny_pyIter_list pl.isList ((s.heap.objs.size,[s.heap.objs.size,l],[s.heap.objs.size],its.toArray.size,_,_,λi=>ns.getD i 0,U,Walks.list (show X.A.in1.handled=Y from I.ok.hd hc) s.heap.objs.size l (sR g) its.toArray,((_,pB _ U,U,U),pl.isList.push _),?_,?_,λh' tk t' P=>?_)))
 ·intro b z;rw[zM];obtain e|z:=kf.mp z
  ·rw[e];exact VA _
  ·rw[ej.mp z];exact V2 g
 ·intro i v hP;exact Fb rv (by simpa using hP)
 ·refine(.int ns.sum,H,I.kept λb o e=>P b o (by simpa using sR (kE e)) (ja _ e),(t',?_),q)
  rw[hlen,JR]
abbrev ins:List T->Option (List Int):=picks asI
theorem aq.ins{dl:Dl}{vs:List V}(h:aq K dl H vs ts F)(e:L2.ins ts=Z bs):vs=bs.map V.int :=
 h.picks (λv t F a h e=>by cases t <;> first|(cases e;exact h.int.1)|cases e) e
def ins_map(bs:List Int):ins (bs.map T.i)=Z bs:=by
 induction bs with
 |nil=>rfl
 |cons b r g=>show(ins (r.map T.i)).map (b :: ·)=_;rw[g];rfl
def Ue:QC:=λts Q=>on1 ts λt=>match t with
 |.l xs=>Ex3 (λbs=>ins xs=Z bs) (λbs=>(.i bs.sum)) Q
 |_=>False
def pF:n8 K (λxs H Q=>∃(l:J)(ns:List Int),xs=[.ref l]/\SqL K H l (ns.map V.int)/\Q (.int ns.sum) H) Ue:=by
 intro dl H vs ts F Q R D r hq k
 replace hq:=on1.inv hq
 let(t,U,hq):=hq
 split at hq
 ·let(v,U,g):=r.one;let(p,vs,G,U,U,h1,h2):=g.r.lst;let(bs,q,hq):=hq;let e:=h2.ins q;subst e;exact(p,bs,U,SqL.of h1,k _ _ [] H (.refl D) (.c (.i _)) bY mu hq)
 ·exact hq.elim
end
structure dW where
 nx:Sq->Prop
 rt:T->Prop
 bk:Sq->Prop:=λ_=>False
 ct:Sq->Prop:=λ_=>False
 ru:Sq->T->Prop:=λ_ _=>False
abbrev QS:=dW->Sq->Prop
def dW.lp(D:dW)(N:Sq->Prop):dW:={D with nx:=N,ct:=N,bk:=D.nx}
def dW.fn(Q:T->Prop):dW:={nx:=λ_=>Q .n,rt:=Q}
structure Frm(dl:Dl)(H₀ H:Hp):Prop where
 k:∀b o,H₀ b=Z o->Nd dl b->NR o->H b=Z o
 r:∀a x,H₀ a=Z (.room x)->∃y,y<=x/\H a=Z (.room y)
variable{H₀:Hp}
def Frm.evo{dl:Dl}(f:Frm dl H₀ H)(D:Dls dl H):Evo dl H₀ H:=(f.k,D,f.r)
def Frm.refl{dl:Dl}:Frm dl H H:=(λ_ _ h _ _=>h,λ_ x h=>(x,E6 _,h))
variable{H':Hp}
def Frm.trans{dl:Dl}(f:Frm dl H₀ H)(e:Evo dl H H'):Frm dl H₀ H':=(λb o h n r=>e.k b o (f.k b o h n r) n r,λa x h=>let(y,q,h1):=f.r a x h;let(z,g,h2):=e.r a y h1;(z,VN g q,h2))
structure Rel(K:BT)(dl:Dl)(H₀:Hp)(hs:List (V×T))(H:Hp)(σ:St)(q:Sq)(F:Nat->List J):Prop where
 d:Dls dl H
 g:∀(i:Nat)(x:Sl)(t:T),q[i]?=Z x->x.get=Z t->∃v,σ[i]?=Z (Z v)/\Rp K dl H v t (F i)
 n:∀(i:Nat)(x:Sl),q[i]?=Z x->x.get=Y->F i=[]
 z:∀(i:Nat),q.length<=i->F i=[]
 o:∀(i:Nat)(t:T),q[i]?=Z (.o t)->(F i).Nodup/\(∀b∈F i,H₀ b=Y)/\(∀j,j≠i->∀b∈F i,b ∉ F j)
 h:∀p∈hs,∃Fp,Rp K dl H p.1 p.2 Fp/\∀(i:Nat)(t:T),q[i]?=Z (.o t)->∀b∈F i,b ∉ Fp
 f:Frm dl H₀ H
 l:q.length=σ.length
def fF(K:BT)(dl:Dl)(H₀:Hp)(hs:List (V×T))(H:Hp)(σ:St)(q:Sq):Prop:=∃F,Rel K dl H₀ hs H σ q F
variable{F':List J}
section
variable{K:BT}{dl:Dl}{hs:List (V×T)}{σ:St}{q:Sq}{F:Nat->List J}
def Rel.rd(r:Rel K dl H₀ hs H σ q F):RdR K dl H σ q:=(r.d,λi x t h1 h2=>let(v,e,p):=r.g i x t h1 h2;(v,F i,e,p))
def Rel.fz(r:Rel K dl H₀ hs H σ q F)(h:H b=Y):H₀ b=none:=(r.f.evo r.d).free h
def Rel.dX(r:Rel K dl H₀ hs H σ q F)(P:b∈F i):fE H b:=by
 by_cases hi:i<q.length
 ·let e:q[i]?=Z q[i]:=by simp[hi]
  cases ex:q[i].get with
  |none=>rw[r.n i _ e ex]at P;cases P
  |some t =>
   let(v,_,p):=r.g i _ t e ex;exact p.r.there b P
 ·rw[r.z i (by lia)]at P;cases P
theorem Rel.evo(r:Rel K dl H₀ hs H σ q F)(e:Evo dl H H'):Rel K dl H₀ hs H' σ q F where
 d:=e.d
 g:=λi x t h1 h2=>let(v,P,p):=r.g i x t h1 h2;(v,P,p.evo r.d e)
 n:=r.n
 z:=r.z
 o:=r.o
 h:=λp hp=>let(Fp,h1,h2):=r.h p hp;(Fp,h1.evo r.d e,h2)
 f:=r.f.trans e
 l:=r.l
def qJ(F:Nat->List J)(i:Nat)(x:List J):Nat->List Addr:=λj=>if j=i then x else F j
def aT{x:List J}:qJ F i x i=x:=if_pos U
def aC{x:List J}(h:j≠i):qJ F i x j=F j:=if_neg h
def get_set{xs:List α}{x y:α}(h:(xs.set i x)[j]?=Z y):(j=i/\y=x/\i<xs.length)\/(j≠i/\xs[j]?=Z y):=by
 by_cases e:j=i
 ·subst e;rw[List.getElem?_set_self']at h;by_cases hl:j<xs.length
  ·rw[eO hl]at h;exact .inl (U,(Option.some.inj h).symm,hl)
  ·rw[Vt (by lia)]at h;cases h
 ·rw[Nk (λz=>e z.symm)]at h
  exact .inr (e,h)
def Rel.put(r:Rel K dl H₀ hs H σ q F)(hi:i<q.length)(e:Evo dl H H')(hv:Rp K dl H' v t F')(hf:∀b∈F',H b=Y)(hn:F'.Nodup):Rel K dl H₀ hs H' (σ.set i (Z v)) (q.set i (.o t)) (qJ F i F'):=by
 let r':=r.evo e;let out:∀j,∀b∈F',b ∉ F j:=λj b P Q=>(r.dX Q).no (hf b P)
 refine(e.d,λj x u h1 h2=>?_,λj x h1 h2=>?_,λj Q=>?_,λj u h1=>?_,λp hp=>?_,r'.f,by simp[r.l])
 ·obtain⟨rfl,rfl,_⟩|⟨ne,h1⟩:=get_set h1
  ·cases h2;exact(v,by rw[UA (by rw[<- r.l];exact hi)],by rw[aT];exact hv)
  ·let(w,h3,h4):=r'.g j x u h1 h2;exact(w,by rw[Nk (λz=>ne z.symm)];exact h3,by rw[aC ne];exact h4)
 ·obtain⟨rfl,rfl,_⟩|⟨ne,h1⟩:=get_set h1
  ·cases h2
  ·rw[aC ne];exact r.n j x h1 h2
 ·rw[QX]at Q;rw[aC (by lia)]
  exact r.z j Q
 ·obtain⟨rfl,_,_⟩|⟨ne,h1⟩:=get_set h1
  ·rw[aT];exact(hn,λb P=>r.fz (hf b P),λk hk b P=>by rw[aC hk];exact out k b P)
  ·rw[aC ne];let(o1,o2,o3):=r.o j u h1;refine(o1,o2,λk hk b P=>?_)
   by_cases ek:k=i
   ·subst ek;rw[aT];exact λz=>out j b z P
   ·rw[aC ek];exact o3 k hk b P
 ·let(Fp,h1,h2):=r.h p hp;refine(Fp,h1.evo r.d e,λj u Q b P z=>?_)
  obtain⟨rfl,_,_⟩|⟨ne,Q⟩:=get_set Q
  ·rw[aT]at P;exact fE.no (h1.r.there b z) (hf b P)
  ·rw[aC ne]at P;exact h2 j u Q b P z
def Rel.OX(r:Rel K dl H₀ hs H σ q F)(hi:i<q.length)(hv:Rp K dl H v t F')(hf:∀(j:Nat)(u:T),q[j]?=Z (.o u)->j≠i->∀b∈F j,b ∉ F'):Rel K dl H₀ hs H (σ.set i (Z v)) (q.set i (.r t)) (qJ F i F'):=by
 refine(r.d,λj x u h1 h2=>?_,λj x h1 h2=>?_,λj P=>?_,λj u h1=>?_,λp hp=>?_,r.f,by simp[r.l])
 ·obtain⟨rfl,rfl,_⟩|⟨ne,h1⟩:=get_set h1
  ·cases h2;exact(v,by rw[UA (by rw[<- r.l];exact hi)],by rw[aT];exact hv)
  ·let(w,h3,h4):=r.g j x u h1 h2;exact(w,by rw[Nk (λz=>ne z.symm)];exact h3,by rw[aC ne];exact h4)
 ·obtain⟨rfl,rfl,_⟩|⟨ne,h1⟩:=get_set h1
  ·cases h2
  ·rw[aC ne];exact r.n j x h1 h2
 ·rw[QX]at P;rw[aC (by omega)]
  exact r.z j P
 ·obtain⟨rfl,e,_⟩|⟨ne,h1⟩:=get_set h1
  ·cases e
  ·rw[aC ne];let(o1,o2,o3):=r.o j u h1;refine(o1,o2,λk hk b Q=>?_)
   let z:=hf j u h1 ne b Q;by_cases ek:k=i
   ·subst ek;rw[aT];exact z
   ·rw[aC ek];exact o3 k hk b Q
 ·let(Fp,h1,h2):=r.h p hp;refine(Fp,h1,λj u P b Q z=>?_)
  obtain⟨rfl,e,_⟩|⟨ne,P⟩:=get_set P
  ·cases e
  ·rw[aC ne]at Q;exact h2 j u P b Q z
def Rel.hold(r:Rel K dl H₀ hs H σ q F)(hv:Rp K dl H v t F')(hf:∀(j:Nat)(u:T),q[j]?=Z (.o u)->∀b∈F j,b ∉ F'):Rel K dl H₀ ((v,t)::hs) H σ q F :=
 (r.d,r.g,r.n,r.z,r.o,λp hp=>by
  obtain e|hp:=kf.mp hp
  ·subst e;exact(F',hv,hf)
  ·exact r.h p hp,r.f,r.l)
def Rel.down(r:Rel K dl H₀ hs H σ q F)(hi:q[i]?=Z (.o t)):Rel K dl H₀ hs H σ (q.set i (.r t)) F:=by
 refine(r.d,λj x u h1 h2=>?_,λj x h1 h2=>?_,λj P=>r.z j (by rw[QX]at P;exact P),λj u h1=>?_,λp hp=>?_,r.f,by simp[r.l])
 ·obtain⟨rfl,rfl,_⟩|⟨ne,h1⟩:=get_set h1
  ·cases h2;exact r.g j _ t hi U
  ·exact r.g j x u h1 h2
 ·obtain⟨rfl,rfl,_⟩|⟨ne,h1⟩:=get_set h1
  ·cases h2
  ·exact r.n j x h1 h2
 ·obtain⟨rfl,e,_⟩|⟨ne,h1⟩:=get_set h1
  ·cases e
  ·exact r.o j u h1
 ·let(Fp,h1,h2):=r.h p hp;refine(Fp,h1,λj u P=>?_)
  obtain⟨rfl,e,_⟩|⟨ne,P⟩:=get_set P
  ·cases e
  ·exact h2 j u P
def Rel.write{o:HO}(r:Rel K dl H₀ hs H σ q F)(hi:q[i]?=Z (.o t))(hv:σ[i]?=Z (Z v))(hp:p∈F i)(ho:∀xs,H p=Z (.lst xs)->∃ys,o=.lst ys)(hr:Rp K dl (upd H p o) v t' F')(hn:F'.Nodup)
  (hf:∀b∈F',b∈F i\/(H₀ b=Y/\(∀j,b ∉ F j)/\∀w u Fp,Rp K dl H w u Fp->(w,u)∈hs->b ∉ Fp)):Rel K dl H₀ hs (upd H p o) σ (q.set i (.o t')) (qJ F i F'):=by
 let(o1,o2,o3):=r.o i t hi;let aD:=(j3.mp hi).1;let(v',av,rp):=r.g i _ t hi U;let pn:=rp.n p hp;let Q:=r.dX hp;let tf:TF H (upd H p o):=(λa vs h=>(by
  rw[ak];exact h;intro z;subst z;let(_,e,m):=Q;rw[h]at e;cases e;cases m),λa ob u h=>(by
  rw[ak];exact h;intro z;subst z;let(_,e,m):=Q;rw[h]at e;cases e;cases m),λa φ h=>(by
  rw[ak];exact h;intro z;subst z;let(_,e,m):=Q;rw[h]at e;cases e;cases m),λa xs h=>(by
  by_cases z:a=p
  ·subst z;let(ys,e):=ho xs h;exact(ys,by rw[ax,e])
  ·exact(xs,by rw[ak z];exact h)),λa x h=>(x,E6 _,by
  rw[ak];exact h;intro z;subst z;let(_,e,m):=Q;rw[h]at e;cases e;cases m))
 let st:∀{w:V}{u:T}{Fw:List J},Rp K dl H w u Fw->p ∉ Fw->Rp K dl (upd H p o) w u Fw:=λ{w u Fw} h np =>
  (h.r.cA tf (λ_ z=>z) λb P ob e=>(by
   let ne:b≠p:=by
    intro z;subst z;exact np P
   rw[ak ne];exact e),h.n)
 refine(λd hd=>(r.d d hd).other (pn d hd).1 (pn d hd).2,λj x u h1 h2=>?_,λj x h1 h2=>?_,λj hj=>?_,λj u h1=>?_,λw hw=>?_,(λb ob P nb nr=>?_,λb x P=>?_),by simp[r.l])
 ·obtain⟨rfl,rfl,_⟩|⟨ne,h1⟩:=get_set h1
  ·cases h2;exact(v,hv,by rw[aT];exact hr)
  ·let(w,h3,h4):=r.g j x u h1 h2;exact(w,h3,by rw[aC ne];exact st h4 (o3 j ne p hp))
 ·obtain⟨rfl,rfl,_⟩|⟨ne,h1⟩:=get_set h1
  ·cases h2
  ·rw[aC ne];exact r.n j x h1 h2
 ·rw[QX]at hj;rw[aC (by omega)]
  exact r.z j hj
 ·obtain⟨rfl,e,_⟩|⟨ne,h1⟩:=get_set h1
  ·rw[aT];refine(hn,λb P=>?_,λk hk b P=>?_)
   ·obtain z|z:=hf b P
    ·exact o2 b z
    ·exact z.1
   ·rw[aC hk];obtain z|z:=hf b P
    ·exact o3 k hk b z
    ·exact z.2.1 k
  ·rw[aC ne];let(p1,p2,p3):=r.o j u h1;refine(p1,p2,λk hk b P=>?_)
   by_cases ek:k=i
   ·subst ek;rw[aT];intro z;obtain z|z:=hf b z
    ·exact o3 j ne b z P
    ·exact z.2.1 j P
   ·rw[aC ek];exact p3 k hk b P
 ·let(Fp,h1,h2):=r.h w hw;refine(Fp,st h1 (h2 i t hi p hp),λj u hj b P z=>?_)
  obtain⟨rfl,e,_⟩|⟨ne,hj⟩:=get_set hj
  ·rw[aT]at P;obtain y|y:=hf b P
   ·exact h2 j t hi b y z
   ·exact y.2.2 w.1 w.2 Fp h1 hw z
  ·rw[aC ne]at P;exact h2 j u hj b P z
 ·rw[ak]
  ·exact r.f.k b ob P nb nr
  ·intro z;subst z;rw[o2 b hp]at P;cases P
 ·let(y,hy,e):=r.f.r b x P;refine(y,hy,?_);rw[ak]
  ·exact e
  ·intro z;subst z;rw[o2 b hp]at P;cases P
end
structure Q0(K:BT)(dl:Dl)(H₀:Hp)(hs:List (V×T))(Dq:dW)(D:Ends):Prop where
 nx:∀H σ q,fF K dl H₀ hs H σ q->Dq.nx q->D.nx σ H
 bk:∀H σ q,fF K dl H₀ hs H σ q->Dq.bk q->D.bk σ H
 ct:∀H σ q,fF K dl H₀ hs H σ q->Dq.ct q->D.ct σ H
 rt:∀v t F H,Dls dl H->Rp K dl H v t F->(∀b∈F,H₀ b=Y)->F.Nodup->Frm dl H₀ H->Dq.rt t->D.rt v H
 ru:∀H σ q F0 v t F,Rel K dl H₀ hs H σ q F0->Rp K dl H v t F->(∀b∈F,H₀ b=Y)->F.Nodup->(∀j,∀b∈F,b ∉ F0 j)->Dq.ru q t->D.rt v H
def kB(K:BT)(ts:TS)(qs:QS):Prop:=∀(dl:Dl)(H₀:Hp)(hs:List (V×T))(H:Hp)(σ:St)(q:Sq)(Dq:dW)(D:Ends),fF K dl H₀ hs H σ q->qs Dq q->Q0 K dl H₀ hs Dq D->ts D σ H
structure QPS(X:Cx)(K:BT)(st:EQ)(ts:TS)(qs:QS):Prop where
 h:PS X st ts
 s:kB K ts qs
structure oh(X:Cx)(K:BT)(st:List EQ)(ts:TS)(qs:QS):Prop where
 h:PSs X st ts
 s:kB K ts qs
variable{q:Sq}{pos':Pos}
section
variable{X:Cx}{K:BT}{st:EQ}{rest sa sb:List EQ}{t u:TS}{qt qu:QS}{e c:Ev}{te:TE}{qe:QE}{tc:TT}{qc:QT}{pos:Pos}
def uK:QS:=λD q=>D.nx q
def dW.seq(D:dW)(u:QS):dW:={D with nx:=u D}
def vW(t u:QS):QS:=λD q=>t (D.seq u) q
def aW:oh X K [] BO uK:=(Ci,λ_ _ _ H σ q _ _ r hq E=>E.nx H σ q r hq)
def ag(h1:QPS X K st t qt)(h2:oh X K rest u qu):oh X K (st::rest) (Rm t u) (vW qt qu):=(cp h1.h h2.h,λdl H₀ hs H σ q Dq D r hq E =>
 h1.s dl H₀ hs H σ q _ _ r hq (λH σ q z g=>h2.s dl H₀ hs H σ q _ _ z g E,E.bk,E.ct,E.rt,E.ru))
def ai(h1:QPS X K st t qt):oh X K [st] t qt:=(iL h1.h,h1.s)
def Kz:QPS X K (.Pass pos) BO uK:=(K9,λ_ _ _ H σ q _ _ r hq E=>E.nx H σ q r hq)
def aV(he:QPF X K e te qe):QPS X K (.Return (Z e) pos) (JL te) (λD q=>qe q D.rt):=(nC he.h,λdl H₀ hs H σ q Dq D (F,r) hq E =>
 he.s dl H σ q _ _ r.rd hq λv t F' H' g z f1 P Q=>E.rt v t F' H' g.d z (λb V=>r.fz (f1 b V)) P (r.evo g).f Q)
def ka(he:PE X e (bK i)):QPS X K (.Return (Z e) pos) (JL (bK i)) (λD q=>match q[i]? with|some (.o t)=>D.rt t|_=>False):=(nC he,λdl H₀ hs H σ q Dq D (F,r) hq E=>by
 split at hq
 ·rename_i t z;let(v,hv,P):=r.g i _ t z U;let(Q,o2,V):=r.o i t z;exact(v,hv,E.rt v t (F i) H r.d P o2 Q r.f hq)
 ·exact hq.elim)
def K5(c:QT)(t u:QS):QS:=λD q=>c q λb=>if b=O then t D q else u D q
def bc(z:QPT X K c tc qc)(ha:oh X K sa t qt)(P:oh X K sb u qu):QPS X K (.If c sa sb pos) (Ro tc t u) (K5 qc qt qu):=(NH z.h ha.h P.h,λdl H₀ hs H σ q Dq D (F,r) hq E =>
 z.s dl H σ q _ _ r.rd hq λb H' Q g=>by
  cases b with
  |true=>exact ha.s dl H₀ hs H' σ q Dq D (F,r.evo Q) g E
  |false=>exact P.s dl H₀ hs H' σ q Dq D (F,r.evo Q) g E)
def Az(i:Nat)(qe:QE):QS:=λD q=>qe q λt=>D.nx (q.set i (.o t))
def Rel.fc{dl:Dl}{t:T}(r:Rel K dl H₀ hs H σ q F)(e:Evo dl H H')(hv:Rp K dl H' v t F')(hf:∀b∈F',H b=Y)(hn:F'.Nodup):fF K dl H₀ hs H' (σ.set i (Z v)) (q.set i (.o t)):=by
 by_cases hi:i<q.length
 ·exact(_,r.put hi e hv hf hn)
 ·let hl:=r.l;rw[W9 (by lia),W9 (by lia)]
  exact(F,r.evo e)
def BY(he:mT K te qe):kB K (jj te (gw i)) (Az i qe):=λdl H₀ hs H σ q Dq D (F,r) hq E=>he dl H σ q _ _ r.rd hq λv t F' H' Q g f1 z P=>E.nx H' _ _ (r.fc Q g f1 z) P
def OG(g:X.N.Nodup)(hi:X.N[i]?=Z x)(hx:Loc X.env.scope x)(he:QPF X K e te qe)(hs:swapsWith e (Z (.Name x pos')) pos.line X.env=pure false:=by rfl)(hf:AT X x:=by first|exact .inl rfl|exact .inr rfl|assumption):
  QPS X K (.Assign [.Name x pos'] e pos) (jj te (gw i)) (Az i qe):=(iM g hi hx he.h hs hf,BY he.s)
inductive N3(tb:QS)(D:dW)(W:Nat->Sq->Prop)(m:Nat)(q:Sq):Prop
 |mk(N:Sq->Prop)(less:∀q',N q'->∃m',m'<m/\W m' q')(body:tb (D.lp N) q)
inductive WhileI(c:QT)(tb:QS)(D:dW)(q:Sq):Prop
 |mk (W:Nat->Sq->Prop) (h0:∃m,W m q) (turn:∀m q,W m q->c q λb=>if b=O then N3 tb D W m q else D.nx q)
def ON(c:QT)(tb:QS):QS:=λD q=>WhileI c tb D q
def lY(hp:Xr (model X.prog X.w) X.A X.env X.xe)(P:QPT X K c tc qc)(Q:oh X K rest t qt):QPS X K (.While c rest [] pos) (vq tc t) (ON qc qt):=(qY hp P.h Q.h,λdl H₀ hs H σ q Dq D r hq E=>by
 let(W,(m0,w0),turn):=hq;refine(λm σ H=>∃q,fF K dl H₀ hs H σ q/\W m q,(m0,q,r,w0),?_)
 rintro m σ H ⟨q,⟨F,r⟩,w⟩
 refine P.s dl H σ q _ _ r.rd (turn m q w) λb H1 V z=>?_
 cases b with
 |false=>exact E.nx H1 σ q (F,r.evo V) z
 |true =>
  let(N,hN,z):=z;refine(λg H'=>∃q',fF K dl H₀ hs H' g q'/\N q',λg H' (q',r',n')=>?_,?_)
  ·let(m',hm,w'):=hN q' n';exact(m',hm,q',r',w')
  ·exact Q.s dl H₀ hs H1 σ q _ _ (F,r.evo V) z (λH σ q r n=>(q,r,n),λH σ q r n=>E.nx H σ q r n,λH σ q r n=>(q,r,n),E.rt,E.ru))
end
abbrev PSp:=List T->(T->Prop)->Prop
inductive spQ(K:BT)(ps:PSp)(vs:List V)(H:Hp)(Q:VK)(_:XK):Prop
 |mk(dl:Dl)(ts:List T)(F:List J)(Qp:T->Prop)(h1:Dls dl H)(h2:Rps K dl H vs ts F)(h3:ps ts Qp)(h4:∀v t F' H',Evo dl H H'->Rp K dl H' v t F'->(∀b∈F',H b=Y)->F'.Nodup->Qp t->Q v H')
section
variable{X:Cx}{K:BT}{e:Ev}{es:List Ev}{tl:TA}{ql:QA}{pos p:Pos}{k:Nat}{f:J}{fd:Ch}{prs:List Str}{ps:PSp}
def ie(ps:PSp)(ql:QA):QE:=λq Q=>ql q λts=>ps ts Q
def FV(ha:zG K n tl ql):mT K (qz (spQ K ps) [] E0 tl) (ie ps ql):=λdl H σ q Q R rd hq k=>ha dl H σ q _ _ rd hq λvs ts F H1 z P _ g=>by
 rw[sQ];exact(dl,ts,F,Q,z.d,P,g,λv t F' H' e r f n g=>k v t F' H' (z.trans e) r (λb V=>z.free (f b V)) n g)
theorem KZ(F:a8 X.prog X.w X.K X.mg X.base CX0 k f fd prs (spQ K ps))(hr:cy k X.A)(hg:Gl X x)(hm:X.mg x=Z (.ref f))(z:W.keepIn X.K (.ref f)=O)(P:Binds X.K fd prs [])(ha:QPA X K (e::es) tl ql)
  (q:AS x:=by decide) (he:AC X e es:=by rfl) (g:AM X pos es:=by rfl):
  QPF X K (.Call (.Name x p) (e::es) [] pos) (qz (spQ K ps) [] E0 tl) (ie ps ql):=(wx F hr hg hm z P .nil kH ha.h q he g,FV ha.s)
end
theorem uD{K:BT}{dl:Dl}(D:Dls dl H)(r:Rps K dl H vs ts F)(hn:vs.length<=n):fF K dl H [] H (vs.map Z++BA (n - vs.length) Y) (ts.map Sl.r++BA (n - vs.length) .no):=by
 let hl:=r.r.len;let main:∀{vs:List V}{ts:List T}{F:List J},aq K dl H vs ts F->(∀b∈F,Nd dl b)->∃g:Nat->List J,(∀i t,ts[i]?=Z t->∃v,vs[i]?=Z v/\Rp K dl H v t (g i))/\∀i,ts.length<=i->g i=[]:=by
  intro vs ts F h
  induction ts generalizing vs F with
  |nil=>intro _;exact(λ_=>[],λi t e=>by simp at e,λ_ _=>rfl)
  |cons t ts ih =>
   cases h with
   |@cons v0 _ av _ F1 G1 h1 h2 =>
    intro hn;let(g,g1,g2):=ih h2 λb P=>hn b (p6 _ P)
    refine(λi=>match i with | 0=>F1|i+1=>g i,λi u e=>?_,λi hi=>?_)
    ·cases i with
     |zero =>
      simp at e;subst e;exact(_,by simp,h1,λb P=>hn b (qr _ P))
     |succ i =>
      let(v,q,Q):=g1 i u (by simpa using e)
      exact(v,by simpa using q,Q)
    ·cases i with
     |zero=>simp at hi
     |succ i=>exact g2 i (by simpa using hi)
 let(g,g1,g2):=main r.r r.n;let lk:∀i y,(ts.map Sl.r++BA (n - vs.length) Sl.no)[i]?=Z y->(∃t,ts[i]?=Z t/\y=.r t)\/(ts.length<=i/\y=.no):=λi y h=>by
  by_cases hi:i<ts.length
  ·rw[wh (by simpa using hi),j5,eO hi]at h
   exact .inl (ts[i],by simp,(Option.some.inj h).symm)
  ·rw[xD (by simpa using hi),V8]at h
   split at h
   ·exact .inr (by lia,(Option.some.inj h).symm)
   ·cases h
 refine(g,D,λi y t h1 h2=>?_,λi y h1 h2=>?_,λi hi=>?_,λi t h1=>?_,λp hp=>(by cases hp),.refl,by simp[hl])
 ·obtain⟨u,e,rfl⟩|⟨_,rfl⟩:=lk i y h1
  ·cases h2;let(v,q,Q):=g1 i t e;refine(v,?_,Q);let hi:=(j3.mp q).1;rw[wh (by simpa using hi),j5,q]
   rfl
  ·cases h2
 ·obtain⟨u,e,rfl⟩|⟨hi,rfl⟩:=lk i y h1
  ·cases h2
  ·exact g2 i hi
 ·refine g2 i ?_;simp at hi
  lia
 ·obtain⟨u,e,z⟩|⟨_,z⟩:=lk i _ h1 <;> cases z
variable{P:Da}{mg:Str->Option B}{base:Do}{qual:Str}{fd:Ch}{N:List Str}
theorem Fun.okQ{K:BT}{st:EQ}(F:Fun K x qual st f fd)(S:aA N ps (ao st))(len:∀ts Q,g ts Q->ts.length=ps.length)
  (jM:∀(cdv:B)(A:Db)(outer:List Env)(s:ϋ)(H:Hp)(E:XK),cy k (A.deeper (envOfC qual (ao st) s.heap.objs.size f cdv)) ->
   ∃t qs,oh (so CX0 P w K mg base N qual (ao st) f cdv A outer s H E).nox K (cf st) t qs/\∀ts Q,g ts Q->qs (.fn Q) (ts.map Sl.r++BA (N.length - ts.length) .no)):a8 P w K mg base CX0 (k+1) f fd ps (spQ K g):=by
 let av:=by have:=congrArg VH S.pre;rw[zL]at this;omega
 refine F.ok S (λvs H Q E h=>?_) (λcdv A outer s H vs Q E hr h=>?_)
 ·let(dl,ts,F,Qp,_,r,h,_):=h;rw[r.r.len];exact len ts Qp h
 ·let(dl,ts,Fp,Qp,D,r,h,fin):=h;let(t,qs,hb,hq):=jM cdv A outer s H E hr;refine(t,hb.h,?_);let hlen:=len ts Qp h;let hl:=r.r.len;let z:=hq ts Qp h;let R:=uD (n:=N.length) D r (by lia)
  rw[<- hl]at z;refine hb.s dl H [] H _ _ _ _ R z (λH' σ q (F,r') V=>?_,λ_ _ _ _ V=>V.elim,λ_ _ _ _ V=>V.elim,λv t F H' D' r' f' n' fr V=>?_,λ_ _ _ _ _ _ _ _ _ _ _ _ z=>z.elim)
  ·exact fin .non .n [] H' (r'.f.evo r'.d) (.n,bY) bY mu V
  ·exact fin v t F H' (fr.evo D') r' f' n' V
structure uu(K:BT)(dl:Dl)(Yc:It)(xs:List T)(hv:List (V×T)):Prop where
 go:∀(H:Hp)(i:Nat),Dls dl H->(∀p∈hv,∃F,Rp K dl H p.1 p.2 F)->i<xs.length->Yc.go i H
 yld:∀(H:Hp)(i:Nat)(x:T)(fp:V×T->List J)(v:V)(H':Hp),Dls dl H->(∀p∈hv,Rp K dl H p.1 p.2 (fp p))->xs[i]?=Z x->Yc.yld i H v H'->Evo dl H H'/\∃F,Rp K dl H' v x F/\∀b∈F,H b=Y\/∃p∈hv,b∈fp p
 stop:∀(H:Hp),Dls dl H->(∀p∈hv,∃F,Rp K dl H p.1 p.2 F)->Yc.stop xs.length H
variable{lo:Int}
section
variable{X:Cx}{K:BT}{dl:Dl}
def my:uu K dl (Itl K a) xs [(.ref a,.l xs)] where
 go:=λH i D h hi=>by
  let(F,r):=h _ (ej.mpr U);let(p,vs,G,e,_,h1,h2):=r.r.lst;cases e;exact(vs,vs[i]'(by rw[h2.len];exact hi),SqL.of h1,by simp[hi])
 yld:=λH i x fp v H' D h hx y=>by
  let r:=h _ (ej.mpr U);let(p,vs,G,e,Q,h1,h2):=r.r.lst;cases e;let(U,y):=y;let(w,P,hw,q,hs):=h2.get hx;let z:=y vs (SqL.of h1);rw[hw]at z;cases z;let sub:∀b∈P,b∈fp (V.ref a,T.l xs):=λb g=>by
   rw[Q];exact j0 _ (hs b g)
  exact(.refl D,P,(q,λb g=>r.n b (sub b g)),λb g=>.inr (_,ej.mpr U,sub b g))
 stop:=λH D h=>by
  let(F,r):=h _ (ej.mpr U);let(p,vs,G,e,_,h1,h2):=r.r.lst;cases e;exact(vs,SqL.of h1,by rw[h2.len];exact mW _)
def NP:uu K dl (Itl K a) xs [(.ref a,.zl xs)] where
 go:=λH i D h hi=>by
  let(F,r):=h _ (ej.mpr U);let(p,o,vs,e,_,h1,h2):=r.r.zls;cases e;exact(vs,vs[i]'(by rw[h2.len];exact hi),.inl (.inr (o,h1)),by simp[hi])
 yld:=λH i x fp v H' D h hx y=>by
  let r:=h _ (ej.mpr U);let(p,o,vs,e,Q,h1,h2):=r.r.zls;cases e;let(U,y):=y;let(w,P,hw,g,hs):=h2.get hx;let z:=y vs (.inl (.inr (o,h1)));rw[hw]at z;cases z;exact(.refl D,P,(g,λb q=>nomatch hs b q),λb q=>nomatch hs b q)
 stop:=λH D h=>by
  let(F,r):=h _ (ej.mpr U);let(p,o,vs,e,_,h1,h2):=r.r.zls;cases e;exact(vs,.inl (.inr (o,h1)),by rw[h2.len];exact mW _)
def Bd:uu K dl (Itt K a) xs [(.ref a,.t xs)] where
 go:=λH i D h hi=>by
  let(F,r):=h _ (ej.mpr U);let(p,vs,e,h1,h2):=r.r.tup;cases e;exact(vs,vs[i]'(by rw[h2.len];exact hi),SqT.of h1,by simp[hi])
 yld:=λH i x fp v H' D h hx y=>by
  let r:=h _ (ej.mpr U);let(p,vs,e,h1,h2):=r.r.tup;cases e;let(U,y):=y;let(w,P,hw,g,hs):=h2.get hx;let z:=y vs (SqT.of h1);rw[hw]at z;cases z;exact(.refl D,P,(g,λb q=>r.n b (hs b q)),λb q=>.inr (_,ej.mpr U,hs b q))
 stop:=λH D h=>by
  let(F,r):=h _ (ej.mpr U);let(p,vs,e,h1,h2):=r.r.tup;cases e;exact(vs,SqT.of h1,by rw[h2.len];exact mW _)
def HX:uu K dl (Itr lo n) ((E3 n).map λi=>.i (lo+(i:Nat))) [] where
 go:=λH i D h hi=>by
  show i<n;simpa using hi
 yld:=λH i x fp v H' D h hx y=>by
  let(U,U):=y;rw[j5]at hx;cases e:(E3 n)[i]? with
  |none=>rw[e]at hx;cases hx
  |some j =>
   rw[e]at hx;let g:j=i:=by
    have:=j3.mp e
    let(h1,h2):=this;simp at h2;exact h2.symm
   subst g;cases hx;exact(.refl D,[],.c (.i _),bY)
 stop:=λH D h=>by show n<=_;simp
abbrev QI:=Sq->(List T->Prop)->Prop
def TV(K:BT)(wi:TI)(iq:QI):Prop:=∀(dl:Dl)(H:Hp)(σ:St)(q:Sq)(Q:List T->Prop)(R:It->Hp->Prop),RdR K dl H σ q->iq q Q ->
 (∀xs Yc hv H',Evo dl H H'->uu K dl Yc xs hv->(∀p∈hv,∃F,Rp K dl H' p.1 p.2 F)->Q xs->R Yc H')->wi σ H R
structure QPI(X:Cx)(K:BT)(tg iter:Ev)(wi:TI)(iq:QI):Prop where
 h:PI X tg iter wi
 s:TV K wi iq
abbrev QJ:=Sq->(List T->Sq->Prop)->Prop
def Vs(K:BT)(wi:TI)(iq:QJ):Prop:=∀(dl:Dl)(H₀:Hp)(hs:List (V×T))(H:Hp)(σ:St)(q:Sq)(Q:List T->Sq->Prop)(R:It->Hp->Prop),fF K dl H₀ hs H σ q->iq q Q ->
 (∀xs Yc hv H' q',fF K dl H₀ (hv++hs) H' σ q'->uu K dl Yc xs hv->Q xs q'->R Yc H')->wi σ H R
structure QPJ(X:Cx)(K:BT)(tg iter:Ev)(wi:TI)(iq:QJ):Prop where
 h:PI X tg iter wi
 s:Vs K wi iq
variable{tg e a b:Ev}{te:TE}{qe:QE}{tl:TA}{ql:QA}{pos p:Pos}
def me(g:X.K=K)(h:PE X e te):PI X tg e (uV K te):=by subst g;exact pN h
def wm(g:X.K=K)(h:PE X e te):PI X tg e (H0 K te):=by subst g;exact Pe h
def asL(qe:QE):QI:=λq Q=>qe q λt=>match t with|.l xs=>Q xs|.zl xs=>Q xs|_=>False
def asT(qe:QE):QI:=λq Q=>qe q λt=>match t with|.t xs=>Q xs|_=>False
def kc(h:QPE X K e te qe)(P:X.K=K:=by rfl):QPI X K tg e (uV K te) (asL qe):=(me P h.h,λdl H σ q Q R rd hq k=>h.s dl H σ q _ _ rd hq λv t F H' z r g=>by
 split at g
 ·let(p,vs,G,U,U,h1,h2):=r.r.lst;exact(p,U,(vs,SqL.of h1),k _ _ _ H' z my (λp hp=>by rw[ej.mp hp];exact(_,r)) g)
 ·let(p,o,vs,U,U,h1,h2):=r.r.zls;exact(p,U,(vs,.inl (.inr (o,h1))),k _ _ _ H' z NP (λp hp=>by rw[ej.mp hp];exact(_,r)) g)
 ·exact g.elim)
def d7(h:QPE X K e te qe)(z:X.K=K:=by rfl):QPI X K tg e (H0 K te) (asT qe):=(wm z h.h,λdl H σ q Q R rd hq k=>h.s dl H σ q _ _ rd hq λv t F H' P r g=>by
 split at g
 ·let(p,vs,U,h1,h2):=r.r.tup;exact(p,U,(vs,SqT.of h1),k _ _ _ H' P Bd (λp hp=>by rw[ej.mp hp];exact(_,r)) g)
 ·exact g.elim)
def Gb(lo:Int)(n:Nat):List T:=(E3 n).map λi=>.i (lo+(i:Nat))
def jB{x:T}(h:(Gb lo n)[i]?=Z x):x=.i (lo+(i:Nat))/\i<n:=by
 unfold Gb at h;rw[j5]at h;let(j,g,U):=j7.mp h;let(h1,h2):=j3.mp g;simp at h1 h2;subst h2;exact(U,h1)
def d3:(Gb lo n).length=n:=by simp[Gb]
def TK(ql:QA):QI:=λq Q=>ql q λts=>on1 ts λt=>match t with|.i n=>-(2 ^ 62)<=n/\n<2 ^ 62/\Q (Gb 0 n.toNat)|_=>False
def nq(hg:Gl X "range")(hm:X.mg "range"=Y)(ha:QPA X K [a] tl ql)(hs:AD X a:=by rfl):QPI X K tg (.Call (.Name "range" p) [a] [] pos) (Ia tl) (TK ql):=(uO hg hm ha.h hs,λdl H σ q Q R rd hq k=>ha.s dl H σ q _ _ rd hq λvs ts F H' V r _ g=>by
 replace g:=on1.inv g
 let(t,U,g):=g
 split at g
 ·let(v,U,P):=r.one;let(U,_):=P.r.int;exact(_,U,g.1,g.2.1,k _ _ [] H' V HX bY g.2.2)
 ·exact g.elim)
def asJ(iq:QI):QJ:=λq Q=>iq q λxs=>Q xs q
def fW(hg:Gl X "range")(hm:X.mg "range"=Y)(ha:QPA X K [a] tl ql)(hs:AD X a:=by rfl):QPJ X K tg (.Call (.Name "range" p) [a] [] pos) (Ia tl) (asJ (TK ql)):=(uO hg hm ha.h hs,λdl H₀ hs H σ q Q R (F0,z) hq k=>ha.s dl H σ q _ _ z.rd hq λvs ts F H' V r _ g=>by
 replace g:=on1.inv g
 let(t,U,g):=g
 split at g
 ·let(v,U,P):=r.one;let(U,_):=P.r.int;exact(_,U,g.1,g.2.1,k _ _ [] H' q (F0,z.evo V) HX g.2.2)
 ·exact g.elim)
def KL(h:QPF X K e te qe)(hK:X.K=K:=by rfl):QPJ X K tg e (uV K te) (asJ (asL qe)):=(me hK h.h,λdl H₀ hs H σ q Q R (F0,g) hq k=>h.s dl H σ q _ _ g.rd hq λv t F H' e1 r f n P=>by
 split at P
 ·let V:=(g.evo e1).hold r λj u hj b hb z=>(g.dX hb).no (f b z)
  let(p,vs,G,U,U,h1,h2):=r.r.lst;exact(p,U,(vs,SqL.of h1),k _ _ _ H' q (F0,V) my P)
 ·let V:=(g.evo e1).hold r λj u hj b hb z=>(g.dX hb).no (f b z)
  let(p,o,vs,U,U,h1,h2):=r.r.zls;exact(p,U,(vs,.inl (.inr (o,h1))),k _ _ _ H' q (F0,V) NP P)
 ·exact P.elim)
def gU(h:QPF X K e te qe)(hK:X.K=K:=by rfl):QPJ X K tg e (H0 K te) (asJ (asT qe)):=(wm hK h.h,λdl H₀ hs H σ q Q R (F0,g) hq k=>h.s dl H σ q _ _ g.rd hq λv t F H' e1 r f n P=>by
 split at P
 ·let V:=(g.evo e1).hold r λj u hj b hb z=>(g.dX hb).no (f b z)
  let(p,vs,U,h1,h2):=r.r.tup;exact(p,U,(vs,SqT.of h1),k _ _ _ H' q (F0,V) Bd P)
 ·exact P.elim)
def asN(i:Nat):QJ:=λq Q=>match q[i]? with
 |some (.o (.l xs))=>Q xs (q.set i (.r (.l xs)))
 |some (.r (.l xs))=>Q xs q
 |_=>False
def KJ(h:PE X e (bK i))(hK:X.K=K:=by rfl):QPJ X K tg e (uV K (bK i)) (asN i):=(me hK h,λdl H₀ hs H σ q Q R (F0,V) hq k=>by
 unfold asN at hq
 split at hq
 ·rename_i xs e1;let(v,hv,r):=V.g i _ _ e1 U;let r1:=(V.down e1).hold r λj u P b hb=>by
   obtain⟨_,z,_⟩|⟨ne,P⟩:=get_set P
   ·cases z
   ·exact(V.o j u P).2.2 i (λz=>ne z.symm) b hb
  let(p,vs,G,U,_,h1,h2):=r.r.lst;exact(_,hv,p,U,(vs,SqL.of h1),k _ _ _ H _ (F0,r1) my hq)
 ·rename_i xs e1;let(v,hv,r):=V.g i _ _ e1 U;let r1:=V.hold r λj u P b hb=>(V.o j u P).2.2 i (λz=>by subst z;rw[e1]at P;cases P) b hb
  let(p,vs,G,U,_,h1,h2):=r.r.lst;exact(_,hv,p,U,(vs,SqL.of h1),k _ _ _ H _ (F0,r1) my hq)
 ·exact hq.elim)
inductive Tg where
 |nm(i:Nat)|tp (is:List Nat)
def tN(q:Sq):List Nat->List T->Option Sq
 |[],[]=>Z q
 |i::is,x::xs=>if i<q.length then tN (q.set i (.r x)) is xs else Y
 |_,_=>Y
def Tg.put(g:Tg)(x:T)(q:Sq):Option Sq:=match g with
 |.nm i=>if i<q.length then Z (q.set i (.r x))else Y
 |.tp is=>match x with|.t xs=>tN q is xs|_=>Y
def wY:List Nat->TGs
 |[]=>Qh
 |i::is=>CK (gw i) (wY is)
def Tg.h(K:BT):Tg->TG
 |.nm i=>gw i
 |.tp is=>MN K is.length (wY is)
theorem uE{H₀ H:Hp}{hs:List (V×T)}:∀{is:List Nat}{vs:List V}{xs:List T}{G:List J}{σ:St}{q q':Sq}{F:Nat->List J}{R:St->Hp->Prop},Rel K dl H₀ hs H σ q F->aq K dl H vs xs G->(∀b∈G,Nd dl b) ->
  (∀(j:Nat)(u:T),q[j]?=Z (.o u)->∀b∈F j,b ∉ G)->tN q is xs=Z q'->(∀P,fF K dl H₀ hs H P q'->R P H)->wY is vs σ H R
 |[],vs,xs,G,σ,q,q',F,R,r,rs,_,_,hp,k=>by
  cases xs with
  |cons _ _=>cases hp
  |nil =>
   cases rs;cases hp;exact(U,k σ (F,r))
 |i::is,vs,xs,G,σ,q,q',F,R,r,rs,hn,ho,hp,k=>by
  cases xs with
  |nil=>cases hp
  |cons x xs =>
   cases rs with
   |cons r1 r2 =>
    unfold tN at hp;by_cases hi:i<q.length
    ·rw[if_pos hi]at hp;refine(_,_,U,?_);let r':=r.OX hi (r1,λb g=>hn b (qr _ g)) λj u Q _ b g z=>ho j u Q b g (qr _ z)
     refine uE r' r2 (λb g=>hn b (p6 _ g)) (λj u Q b g z=>?_) hp k
     obtain⟨_,z',_⟩|⟨ne,Q⟩:=get_set Q
     ·cases z'
     ·rw[aC ne]at g;exact ho j u Q b g (p6 _ z)
    ·rw[if_neg hi]at hp;cases hp
variable{g:Tg}
def Av{x:T}{σ:St}{q':Sq}{F:Nat->List J}{R:St->Hp->Prop}(r:Rel K dl H₀ hs H σ q F)(P:Rp K dl H v x G)
  (ho:∀(j:Nat)(u:T),q[j]?=Z (.o u)->∀b∈F j,b ∉ G) (hp:g.put x q=Z q') (k:∀z,fF K dl H₀ hs H z q'->R z H):g.h K v σ H R:=by
 cases g with
 |nm i =>
  replace hp:(if i<q.length then Z (q.set i (.r x))else Y)=Z q':=hp
  by_cases hi:i<q.length
  ·rw[if_pos hi]at hp;cases hp;exact k _ (_,r.OX hi P λj u hj _=>ho j u hj)
  ·rw[if_neg hi]at hp;cases hp
 |tp is =>
  cases x with
  |t xs =>
   let(p,vs,U,h1,h2):=P.r.tup;let hl:∀{is:List Nat}{xs:List T}{q q':Sq},tN q is xs=Z q'->xs.length=is.length:=λ{is}=>by
    induction is with
    |nil=>intro xs q q' h;cases xs with
     |nil=>rfl
     |cons _ _=>cases h
    |cons i is Q=>intro xs q q' h;cases xs with
     |nil=>cases h
     |cons x xs =>
      unfold tN at h;by_cases hi:i<q.length
      ·rw[if_pos hi]at h;simp[Q h]
      ·rw[if_neg hi]at h;cases h
   exact(p,vs,U,SqT.of h1,by rw[h2.len];exact hl hp,uE r h2 P.n ho hp k)
  |_=>cases hp
end
variable{iter:Ev}{body:List EQ}{g:Tg}{cap:List (Option Nat)}{iq:QI}{tst:TT}{nk:QT}{te:TE}{qe:QE}{N':List Str}{sc:Scope}{elt:Ev}{ifs:List Ev}
section
variable{X:Cx}{K:BT}{dl:Dl}{hs:List (V×T)}{σ:St}{F:Nat->List J}
def Rel.vn(r:Rel K dl H₀ (hv++hs) H σ q F):Rel K dl H₀ hs H σ q F:=(r.d,r.g,r.n,r.z,r.o,λp hp=>r.h p (p6 _ hp),r.f,r.l)
def Rel.fps(r:Rel K dl H₀ (hv++hs) H σ q F):∃fp:V×T->List J,∀p∈hv,Rp K dl H p.1 p.2 (fp p)/\∀(i:Nat)(t:T),q[i]?=Z (.o t)->∀b∈F i,b ∉ fp p:=by
 classical
 refine(λp=>if h:p∈hv then(r.h p (qr _ h)).choose else [],λp hp=>?_)
 let z:=(r.h p (qr _ hp)).choose_spec;simp only[dif_pos hp];exact z
inductive T3(g:Tg)(qb:QS)(D:dW)(xs:List T)(q0:Sq):Prop
 |mk(I:Nat->Sq->Prop)(h0:I 0 q0)(step:∀i x q,xs[i]?=Z x->I i q->∃q',g.put x q=Z q'/\qb (D.lp (I (i+1))) q')(fin:∀q,I xs.length q->D.nx q)
def Ul(iq:QJ)(g:Tg)(qb:QS):QS:=λD q=>iq q λxs q0=>T3 g qb D xs q0
def cg{iq:QJ}(hp:Xr (model X.prog X.w) X.A X.env X.xe)(hc:X.calm=O)(hi:QPJ X K tg iter wi iq)(hg:PG X tg (g.h K))(hb:oh X K body tb qb)
  (hs:∀x,foldedSetIterable iter X.env x=pure x:=by intro _;rfl):QPS X K (.For tg iter body [] pos) (Rq wi (g.h K) tb) (Ul iq g qb):=(GR hp hc hi.h hg hb.h hs,λdl H₀ hs H σ q Dq D r hq E=>by
 refine hi.s dl H₀ hs H σ q _ _ r hq λxs Yc hv H1 q1 r1 it hz=>?_
 let(I,i0,turn,fin):=hz;refine(λi m σ H=>m=xs.length - i/\i<=xs.length/\∃q,fF K dl H₀ (hv++hs) H σ q/\I i q,(xs.length,by simp,Jf _,q1,r1,i0),?_)
 rintro i m σ H ⟨rfl,aE,q,⟨F,r⟩,hI⟩
 let held:∀p∈hv,∃F,Rp K dl H p.1 p.2 F:=λp hp=>let(Fp,h,_):=r.h p (qr _ hp);(Fp,h)
 by_cases P:i<xs.length
 ·refine .inr (it.go H i r.d held P,λQ H'=>∃q,fF K dl H₀ (hv++hs) H' Q q/\I (i+1) q,λQ H' h=>(xs.length - (i+1),by omega,U,P,h),λv H' y=>?_)
  let(fp,V):=r.fps;let hx:xs[i]?=Z xs[i]:=by simp[P]
  let(e1,G,rx,hG):=it.yld H i xs[i] fp v H' r.d (λp hp=>(V p hp).1) hx y
  let(q',aD,hz):=turn i xs[i] q hx hI;refine Av (r.evo e1) rx (λj u hj b hb z=>?_) aD λav r2=>hb.s dl H₀ (hv++hs) H' av q' _ _ r2 hz (λH σ q r n=>(q,r,n),λH σ q (F,r) n=>E.nx H σ q (F,r.vn) n,λH σ q r n=>(q,r,n),E.rt,λH σ q F0 v t F r=>E.ru H σ q F0 v t F r.vn)
  obtain h |⟨p,hp,h⟩:=hG b z
  ·exact(r.dX hb).no h
  ·exact(V p hp).2 j u hj b hb h
 ·let e:i=xs.length:=by lia
  subst e;exact .inl (it.stop H r.d held,E.nx H σ q (F,r.vn) (fin q hI)))
def jV(cap:List (Option Nat))(q:Sq):Sq:=cap.map λo=>match o with
 |none=>.no
 |some i=>match q[i]? with
  |some (.o t)=>.r t
  |some (.r t)=>.r t
  |_=>.no
def Km(r:RdR K dl H σ q):RdR K dl H (mL cap σ) (jV cap q):=(r.d,λj x t h1 h2=>by
 unfold jV at h1;rw[j5]at h1;cases e:cap[j]? with
 |none=>rw[e]at h1;cases h1
 |some o =>
  rw[e]at h1;cases o with
  |none=>cases h1;cases h2
  |some i =>
   let go:∀y,q[i]?=Z y->y.get=Z t->∃v F,(mL cap σ)[j]?=Z (Z v)/\Rp K dl H v t F:=λy z P=>by
    let(v,F,h3,h4):=r.g i y t z P;refine(v,F,?_,h4);unfold mL;rw[j5,e];show Z ((σ[i]?).join)=_;rw[h3];rfl
   replace h1:(match q[i]? with|some (.o t)=>Sl.r t|some (.r t)=>.r t|_=>.no)=x:=Option.some.inj h1
   split at h1
   ·rename_i u eq;subst h1;cases h2;exact go _ eq U
   ·rename_i u eq;subst h1;cases h2;exact go _ eq U
   ·subst h1;cases h2)
theorem RdR.set{x:T}(r:RdR K dl H σ q)(hl:i < σ.length)(P:Rp K dl H v x G):RdR K dl H (σ.set i (Z v)) (q.set i (.r x)):=(r.d,λj y t h1 h2=>by
 obtain⟨rfl,rfl,_⟩|⟨ne,h1⟩:=get_set h1
 ·cases h2;exact(v,G,by rw[UA hl],P)
 ·let(w,F,h3,h4):=r.g j y t h1 h2;exact(w,F,by rw[Nk (λz=>ne z.symm)];exact h3,h4))
def RdR.any(r:RdR K dl H σ q)(hn:q[i]?=Z .no):RdR K dl H (σ.set i o) q:=(r.d,λj y t h1 h2=>by
 let(w,F,h3,h4):=r.g j y t h1 h2;refine(w,F,?_,h4);rw[Nk]
 ·exact h3
 ·intro z;subst z;rw[hn]at h1;cases h1;cases h2)
def Tg.ixs:Tg->List Nat
 |.nm i=>[i]
 |.tp is=>is
theorem yf:∀{is:List Nat}{vs:List V}{xs:List T}{G:List J}{σ:St}{q q0 q':Sq}{R:St->Hp->Prop},RdR K dl H σ q->RdR K dl H σ q0->σ.length=q.length->aq K dl H vs xs G->(∀b∈G,Nd dl b)->(∀i∈is,q0[i]?=Z .no)->tN q is xs=Z q' ->
  (∀g,RdR K dl H g q'->RdR K dl H g q0->g.length=σ.length->R g H)->wY is vs σ H R
 |[],vs,xs,G,σ,q,q0,q',R,r,z,_,rs,_,_,hp,k=>by
  cases xs with
  |cons _ _=>cases hp
  |nil =>
   cases rs;cases hp;exact(U,k σ r z U)
 |i::is,vs,xs,G,σ,q,q0,q',R,r,z,hl,rs,hn,hf,hp,k=>by
  cases xs with
  |nil=>cases hp
  |cons x xs =>
   cases rs with
   |cons r1 Q =>
    unfold tN at hp;by_cases hi:i<q.length
    ·rw[if_pos hi]at hp;refine(_,_,U,(yf (r.set (by omega) (r1,λb P=>hn b (qr _ P))) (z.any (hf i g5)) (by simp[hl]) Q (λb P=>hn b (p6 _ P)) (λj hj=>hf j (j0 _ hj)) hp λg a b c=>k g a b (by simpa using c)))
    ·rw[if_neg hi]at hp;cases hp
theorem yr:∀{is:List Nat}{xs:List T}{q q':Sq},tN q is xs=Z q'->xs.length=is.length
 |[],[],_,_,_=>rfl
 |[],_::_,_,_,h=>by cases h
 |_::_,[],_,_,h=>by cases h
 |i::is,x::xs,q,q',h=>by
  unfold tN at h;by_cases hi:i<q.length
  ·rw[if_pos hi]at h;simp[yr h]
  ·rw[if_neg hi]at h;cases h
def Ry{x:T}{q':Sq}{R:St->Hp->Prop}(r:RdR K dl H σ q)(hl:σ.length=q.length)(P:Rp K dl H v x G)(hf:∀i∈g.ixs,q[i]?=Z .no)(hp:g.put x q=Z q')
  (k:∀z,RdR K dl H z q'->RdR K dl H z q->z.length=σ.length->R z H):g.h K v σ H R:=by
 cases g with
 |nm i =>
  replace hp:(if i<q.length then Z (q.set i (.r x))else Y)=Z q':=hp
  by_cases hi:i<q.length
  ·rw[if_pos hi]at hp;cases hp;exact k _ (r.set (by lia) P) (r.any (hf i (ej.mpr U))) (by simp)
  ·rw[if_neg hi]at hp;cases hp
 |tp is =>
  cases x with
  |t xs =>
   let(p,vs,U,h1,h2):=P.r.tup;exact(p,vs,U,SqT.of h1,by rw[h2.len];exact yr hp,yf r r hl h2 P.n hf hp k)
  |_=>cases hp
def GF:QT:=λ_ Q=>Q O
def FH:lr K BL GF:=λdl H σ q Q R rd hq k=>k O H (.refl rd.d) hq
inductive CompI(cap:List (Option Nat))(g:Tg)(tst:QT)(qe:QE)(q:Sq)(Q:T->Prop)(xs:List T):Prop
 |mk (hl:xs.length<mV) (I:Nat->List T->Prop) (h0:I 0 []) (step:∀i x ys,xs[i]?=Z x->I i ys->∃q',g.put x (jV cap q)=Z q'/\tst q' λb=>if b=O then qe q' λy=>I (i+1) (ys ++ [y])else I (i+1) ys) (fin:∀ys,I xs.length ys->Q (.l ys))
def Cc(cap:List (Option Nat))(iq:QI)(g:Tg)(tst:QT)(qe:QE):QE:=λq Q=>iq q λxs=>CompI cap g tst qe q Q xs
theorem x5(hi:TV K wi iq)(ht:lr K tst nk)(he:mT K te qe)(hf:(g.ixs.all λi=>cap[i]? == Z Y)=O):mT K (uy cap wi (g.h K) tst te) (Cc cap iq g nk qe):=by
 intro dl H σ q Q R rd hq k;refine hi dl H σ q _ _ rd hq λxs Yc hv H1 e1 it held hz=>?_
 let(hlen,I,i0,turn,fin):=hz;let a4:=Km (cap:=cap) (rd.evo e1);let a6:∀i∈g.ixs,(jV cap q)[i]?=Z .no:=λi hi=>by
  let z:=Fq.mp hf i hi;let z:=by simpa using z
  unfold jV;rw[j5,z];rfl
 let bw:(mL cap σ).length=(jV cap q).length:=by simp[mL,jV]
 refine(λi m vs aE H'=>m=xs.length - i/\i<=xs.length/\∃ts F,Evo dl H1 H'/\RdR K dl H' aE (jV cap q)/\aE.length=(jV cap q).length/\(∀p∈hv,∃F,Rp K dl H' p.1 p.2 F)/\Rps K dl H' vs ts F/\(∀b∈F,H b=Y)/\F.Nodup/\vs.length<=i/\I i ts,
  (xs.length,by simp,Jf _,[],[],.refl e1.d,a4,bw,held,(.nil,bY),bY,mu,mW _,i0),?_)
 rintro i m vs aE H' ⟨rfl,b0,ts,F,e2,a3,a7,zd,rs,fr,nd,bP,hI⟩
 by_cases av:i<xs.length
 ·refine .inr (it.go H' i e2.d zd av,by lia,λvs2 aD H2=>∃ts F,Evo dl H1 H2/\RdR K dl H2 aD (jV cap q)/\aD.length=(jV cap q).length/\(∀p∈hv,∃F,Rp K dl H2 p.1 p.2 F)/\Rps K dl H2 vs2 ts F/\(∀b∈F,H b=Y)/\F.Nodup/\vs2.length<=i+1/\I (i+1) ts,
   λvs2 aD H2 h=>(xs.length - (i+1),Nat.sub_succ_lt_self _ _ av,U,av,h),λv H2 y=>?_)
  let hx:xs[i]?=Z xs[i]:=by simp[av]
  obtain⟨fp,bt⟩:∃fp:V×T->List J,∀p∈hv,Rp K dl H' p.1 p.2 (fp p):=by
   classical
   refine(λp=>if h:p∈hv then(zd p h).choose else [],λp hp=>?_)
   simp only[dif_pos hp];exact(zd p hp).choose_spec
  let(e3,G,rx,hG):=it.yld H' i xs[i] fp v H2 e2.d bt hx y;let(q',a5,hz):=turn i xs[i] ts hx hI;let NT:∀{H3:Hp},Evo dl H' H3->∀p∈hv,∃F,Rp K dl H3 p.1 p.2 F:=λ{H3} e p hp=>let(F,r):=zd p hp;(F,r.evo e2.d e)
  refine Ry (a3.evo e3) a7 rx a6 a5 λaH r3 aM l3=>(ht dl H2 aH q' _ _ r3 hz λb H4 e4 hz=>?_)
  cases b with
  |false=>exact(ts,F,(e2.trans e3).trans e4,aM.evo e4,by omega,NT (e3.trans e4),(rs.evo e2.d e3).evo e3.d e4,fr,nd,by lia,hz)
  |true =>
   refine he dl H4 aH q' _ _ (r3.evo e4) hz λw t G' H5 e5 aI f5 n5 hz=>?_
   let E:=(e2.trans e3).trans (e4.trans e5);let aQ:=((rs.evo e2.d e3).evo e3.d (e4.trans e5));refine(ts ++ [t],F++(G' ++ []),E,aM.evo (e4.trans e5),by omega,NT (e3.trans (e4.trans e5)),(aQ.r.append (.cons aI.r .nil),λb P=>?_),λb P=>?_,?_,by simp;omega,hz)
   ·obtain P|P:=p7.mp P
    ·exact rs.n b P
    ·rw[sQ]at P;exact aI.n b P
   ·obtain P|P:=p7.mp P
    ·exact fr b P
    ·rw[sQ]at P;exact((e1.trans e2).trans (e3.trans e4)).free (f5 b P)
   ·rw[sQ];refine Dc.mpr (nd,n5,λx hx y hy bD=>?_)
    subst bD;let aS:=(rs.evo e2.d e3).evo e3.d e4;exact fE.no (aS.r.there x hx) (f5 x hy)
 ·let e:i=xs.length:=by lia
  subst e;refine .inl (it.stop H' e2.d zd,by lia,λD hD=>?_)
  exact k _ _ _ _ ((e1.trans e2).new hD) (rs.lst e2.d hD) (λb P=>by
   obtain e|P:=kf.mp P
   ·rw[e];exact(e1.trans e2).free hD
   ·exact fr b P) (rs.fresh hD nd) (fin ts hI)
structure QB(X:Cx)(K:BT)(N':List Str)(sc:Scope)(tg:Ev)(g:Tg)(ifs:List Ev)(tst:TT)(nk:QT)(elt:Ev)(te:TE)(qe:QE):Prop where
 b:∀cl C s₂ H₂ fp,PG (blk X N' sc cl C s₂ H₂ fp) tg (g.h K)/\PTs (blk X N' sc cl C s₂ H₂ fp) ifs tst/\PE (blk X N' sc cl C s₂ H₂ fp) elt te
 t:lr K tst nk
 e:mT K te qe
def bX(h:∀cl C s₂ H₂ fp,PG (blk X N' sc cl C s₂ H₂ fp) tg (g.h K)/\QPF (blk X N' sc cl C s₂ H₂ fp) K elt te qe):QB X K N' sc tg g [] BL GF elt te qe :=
 (λcl C s₂ H₂ fp=>((h cl C s₂ H₂ fp).1,Cg,(h cl C s₂ H₂ fp).2.h),FH,(h [] 0 X.s₀ (λ_=>Y) []).2.s)
def OM(h:∀cl C s₂ H₂ fp,PG (blk X N' sc cl C s₂ H₂ fp) tg (g.h K)/\QPT (blk X N' sc cl C s₂ H₂ fp) K c tst nk/\QPF (blk X N' sc cl C s₂ H₂ fp) K elt te qe):QB X K N' sc tg g [c] tst nk elt te qe :=
 (λcl C s₂ H₂ fp=>((h cl C s₂ H₂ fp).1,Ce (h cl C s₂ H₂ fp).2.1.h,(h cl C s₂ H₂ fp).2.2.h),(h [] 0 X.s₀ (λ_=>Y) []).2.1.s,(h [] 0 X.s₀ (λ_=>Y) []).2.2.s)
def b9{pos:Pos}(hc:X.calm=O)(hi:QPI X K tg iter wi iq)(z:mY X sc N' cap)(q:QB X K N' sc tg g ifs tst nk elt te qe)
  (hf:(g.ixs.all λi=>cap[i]? == Z Y)=true:=by rfl)
  (Q:sc.kind=.function:=by rfl) (gq:∀y∈sc.names,y.2 ≠ .cell:=by decide) (V:∀y∈sc.names,y.2=.local->sc.names.lookup y.1=Z .local:=by decide)
  (P:(sc.names.all λy=>y.2 != .free ||(X.env.kindOf y.1==Z .cell||X.env.kindOf y.1==Z .free))=true:=by rfl)
  (hs:∀x,foldedSetIterable iter X.env x=pure x:=by intro _;rfl):QPF X K (.ListComp elt [(tg,iter,ifs,0)] sc pos) (uy cap wi (g.h K) tst te) (Cc cap iq g nk qe) :=
 (Co hc hi.h z q.b Q gq V P hs,x5 hi.s q.t q.e hf)
def kb{pos dG py:Pos}(hN:X.N.Nodup)(z:X.N[i]?=Z y)(hy:Loc X.env.scope y)
  (hc:X.calm=O) (hi:QPI X K tg iter wi iq) (V:mY X sc N' cap) (Q:QB X K N' sc tg g ifs tst nk elt te qe)
  (P:(g.ixs.all λi=>cap[i]? == Z Y)=true:=by rfl)
  (q:swapsWith (.ListComp elt [(tg,iter,ifs,0)] sc pos) (Z (.Name y py)) dG.line X.env=pure true:=by rfl)
  (hf:AT X y:=by first|exact .inl rfl|exact .inr rfl|assumption)
  (iw:sc.kind=.function:=by rfl) (gq:∀y∈sc.names,y.2 ≠ .cell:=by decide) (iT:∀y∈sc.names,y.2=.local->sc.names.lookup y.1=Z .local:=by decide)
  (jf:(sc.names.all λy=>y.2 != .free ||(X.env.kindOf y.1==Z .cell||X.env.kindOf y.1==Z .free))=true:=by rfl)
  (hs:∀x,foldedSetIterable iter X.env x=pure x:=by intro _;rfl):QPS X K (.Assign [.Name y py] (.ListComp elt [(tg,iter,ifs,0)] sc pos) dG) (jj (uy cap wi (g.h K) tst te) (gw i)) (Az i (Cc cap iq g nk qe)) :=
 (Cj hN z hy hc hi.h V Q.b q hf iw gq iT jf hs,BY (x5 hi.s Q.t Q.e P))
end
section
variable{X:Cx}{K:BT}{dl:Dl}{hs:List (V×T)}{σ:St}{F:Nat->List J}{e o:Ev}{apos aS:Pos}
def zip_inj{ns:List Str}:∀{vs us:List V},vs.length=ns.length->us.length=ns.length->ns.zip vs=ns.zip us->vs=us:=by
 induction ns with
 |nil=>intro vs us h1 h2 _;rw[Nh.mp h1,Nh.mp h2]
 |cons n r q =>
  intro vs us h1 h2 e;cases vs with
  |nil=>cases h1
  |cons v vs=>cases us with
   |nil=>cases h2
   |cons u us =>
    injection e with g z
    injection g with _ g
    rw[g,q (Nat.succ.inj h1) (Nat.succ.inj h2) z]
def ay.uniq{v:V}{t:T}{F:List J}(h:ay K dl H v t F):∀{F':List J},ay K dl H v t F'->F=F' :=
 ay.rec (motive_1:=λv t F _=>∀{F'},ay K dl H v t F'->F=F') (motive_2:=λv t F _=>∀{F'},aq K dl H v t F'->F=F') (motive_3:=λv t F _=>∀{F'},aN K dl H v t F'->F=F')
  (λh=>(h.im U).symm) (λ_ _ h=>(h.im U).symm) (λ_ _ h=>(h.im U).symm) (λ_ _ h=>(h.im U).symm) (λ_ _ h=>(h.im U).symm)
  (λh1 _ g _ h=>by let(a,vs,e,h2,r):=h.tup;cases e;rw[h1]at h2;cases h2;exact g r)
  (λh1 _ g _ h=>by let(a,vs,G,e,U,h2,r):=h.lst;cases e;rw[h1]at h2;cases h2;rw[g r])
  (λh1 _ g _ h=>by let(a,vs,G,e,U,h2,r):=h.dic;cases e;rw[h1]at h2;cases h2;rw[g r])
  (λ_ _ h=>(h.im U).symm) (λ_ _ h=>(h.im U).symm) (λ_ _ h=>(h.im U).symm) (λ_ _ _ _ h=>(h.im U).symm) (λ_ _ h=>(h.im U).symm) (λ_ _ _ _ h=>(h.im U).symm)
  (λ_ _ _ h=>(h.im U).symm) (λ_ _ _ _ h=>(h.im U).symm) (λh1 _ g _ h=>by let(vs,G,e,U,h2,r):=h.dpp;rw[h1]at h2;cases h2;rw[g r]) (λh1 _ g _ h=>by let(vs,G,e,U,h2,r):=h.lpp;rw[h1]at h2;cases h2;rw[g r]) (λ_ _ _ _ h=>(h.im U).symm) (λ_ _ h=>(h.im U).symm) (λh1 _ h4 hr g _ h=>by
   let(dx,vs,G,e,U,h2,_,h3,r):=h.omm;rw[h1]at h2;injection h2 with h2
   injection h2 with _ Q P
   subst Q;let z:=zip_inj (hr.len.trans h4.symm) (r.len.trans h3.symm) P;subst z;rw[g r])
  (λh=>by cases h;rfl) (λ_ _ i1 i2 _ h=>by cases h with|cons h2 q=>rw[i1 h2,i2 q])
  (λh=>by cases h;rfl) (λ_ _ i1 i2 _ h=>by cases h with|cons h2 q=>rw[i1 h2,i2 q]) h
def Rel.MK(r:Rel K dl H₀ hs H σ q F)(e:Evo dl H H')(hp:p∈hs)(h:Rp K dl H' p.1 p.2 Fp)(g:H b=Y):b ∉ Fp:=λz=>by
 let(Q,h1,_):=r.h p hp;let P:=(h1.evo r.d e).r.uniq h.r;subst P;exact fE.no (h1.r.there b z) g
def Rel.qS{ws:List V}(r:Rel K dl H₀ hs H σ q F)(hi:q[i]?=Z (.o (.l xs)))(hv:σ[i]?=Z (Z (.ref p)))(Q:F i=p::G)(e:Evo dl H H')
  (rs:aq K dl H' ws ys G') (hn:G'.Nodup) (hG:∀b∈G',b∈G\/(H b=Y/\Nd dl b)):fF K dl H₀ hs (upd H' p (.lst ws)) σ (q.set i (.o (.l ys))):=by
 let r':=r.evo e;let(o1,o2,o3):=r.o i _ hi;let(v',aI,rp):=r'.g i _ _ hi U;rw[hv]at aI;let(p2,vs2,G2,e2,eF,h1,h2):=rp.r.lst;rw[Q]at eF;cases eF;rw[Q]at o1;let pG:=(sP.mp o1).1;let aH:=r.dX (by rw[Q];exact g5)
 let av:p ∉ G':=λz=>by
  obtain z|z:=hG p z
  ·exact pG z
  ·exact aH.no z.1
 let pn:=rp.n p (by rw[Q];exact g5)
 let tf:TF H' (upd H' p (.lst ws)):=(λa us h=>(by
  rw[ak];exact h;intro z;subst z;rw[h]at h1;cases h1),λa ob u h=>(by
  rw[ak];exact h;intro z;subst z;rw[h]at h1;cases h1),λa φ h=>(by
  rw[ak];exact h;intro z;subst z;rw[h]at h1;cases h1),λa aD h=>(by
  by_cases z:a=p
  ·subst z;exact(_,ax)
  ·exact(aD,by rw[ak z];exact h)),λa x h=>(x,E6 _,by
  rw[ak];exact h;intro z;subst z;rw[h]at h1;cases h1))
 let aE:=rs.cA tf (λ_ z=>z) λb P ob eb=>by
  let ne:b≠p:=by
   intro z;subst z;exact av P
  rw[ak ne];exact eb
 refine(_,r'.write hi hv (by rw[Q];exact g5) (λ_ _=>(_,U)) (.l ax aE,λb P=>?_) (sP.mpr (av,hn)) λb P=>?_)
 ·obtain z|P:=kf.mp P
  ·rw[z];exact pn
  ·obtain z|z:=hG b P
   ·exact rp.n b (by rw[Q];exact j0 _ z)
   ·exact z.2
 ·obtain z|P:=kf.mp P
  ·rw[z,Q];exact .inl g5
  ·obtain z|z:=hG b P
   ·rw[Q];exact .inl (j0 _ z)
   ·exact .inr (r.fz z.1,λj hj=>(r.dX hj).no z.1,λw u Fp h1 h2=>r.MK e h2 h1 z.1)
def vZ(i:Nat)(qe:QE):QS:=λD q=>match q[i]? with
 |some (.o (.l xs))=>xs.length<mV/\qe q λt=>D.nx (q.set i (.o (.l (xs ++ [t]))))
 |_=>False
abbrev At(X:Cx)(p:Pos)(e:List Ev):Prop:=((backTo p (kz e X.env)).all (λx=>!x.1)&&(backToKw p (keywordEach [] X.env)).all (λx=>x.1.isSome)&&decide (e.length+([]:List Keyword).length+(if([]:List Keyword).isEmpty then 0 else 1)<30))=true
def A5(q:X.K=K)(ho:PE X o (bK i))(he:PE X e te)(z:attributeBase o "append" X.env (eval o X.env)=eval o X.env:=by rfl)
  (g:At X aS [e]:=by rfl)
  (P:(apos.endLine==aS.line)=true:=by rfl) (hs:AC X e []:=by rfl) (Q:(backTo aS (kz [] X.env)).any (·.1)=false:=by rfl):
  PE X (.Call (.Attribute o "append" apos) [e] [] aS) (tBM K "list" lX (bK i) (di te fY)):=by
 subst q;exact rF PySem.F.plainAttrs_list PySem.F.slot_list_append PySem.F.type_list_append uR ho (bL he eu hs) z g P hs Q
def Ah(he:mT K te qe):kB K (gD (tBM K "list" lX (bK i) (di te fY))) (vZ i qe):=λdl H₀ hs H σ q Dq D (F,r) hq E=>by
 unfold vZ at hq
 split at hq
 ·rename_i xs ei;let(hz,hq):=hq;let(v,hv,rp):=r.g i _ _ ei U;let(o1,o2,o3):=r.o i _ ei;let(p,vs,G,U,Q,h1,h2):=rp.r.lst;refine(_,hv,.inl (U,vs,SqL.of h1),he dl H σ q _ _ r.rd hq λw t F' H' V r1 f1 n1 aD=>?_)
  let pn:=rp.n p (by rw[Q];exact g5)
  refine(p,vs,w,U,U,V.k p _ h1 pn (λ_ z=>nomatch z),by rw[h2.len];exact hz,?_)
  let hG:=λb P=>rp.n b (by rw[Q];exact j0 _ P)
  let av:=h2.cA (V.tf r.d) (λ_ z=>z) λb P o eo=>V.k b o eo (hG b P) (.of (h2.there b P) eo)
  refine E.nx _ σ _ (r.qS ei hv Q V (av.append (.cons r1.r .nil)) ?_ λb P=>?_) aD
  ·rw[sQ];rw[Q]at o1;refine Dc.mpr ((sP.mp o1).2,n1,λx hx y hy aE=>?_)
   subst aE;exact fE.no (h2.there x hx) (f1 x hy)
  ·obtain P|P:=p7.mp P
   ·exact .inl P
   ·rw[sQ]at P;exact .inr (f1 b P,r1.n b P)
 ·exact hq.elim
def cj{dG:Pos}(ho:PE X o (bK i))(he:QPF X K e te qe)(z:X.K=K:=by rfl)(P:attributeBase o "append" X.env (eval o X.env)=eval o X.env:=by rfl)
  (q:At X aS [e]:=by rfl)
  (Q:(apos.endLine==aS.line)=true:=by rfl) (hs:AC X e []:=by rfl) (V:(backTo aS (kz [] X.env)).any (·.1)=false:=by rfl)
  (g:swapsWith (.Call (.Attribute o "append" apos) [e] [] aS) Y dG.line X.env=pure false:=by rfl):
  QPS X K (.Expr (.Call (.Attribute o "append" apos) [e] [] aS) dG) (gD (tBM K "list" lX (bK i) (di te fY))) (vZ i qe):=(fP (A5 z ho he.h P q Q hs V) g,Ah he.s)
def vY(i:Nat)(qe:QE):QS:=λD q=>match q[i]? with
 |some (.o (.l xs))=>qe q λt=>match t with
  |.l ys=>xs.length+ys.length<=mV/\D.nx (q.set i (.o (.l (xs++ys))))
  |_=>False
 |_=>False
def A4(q:X.K=K)(ho:PE X o (bK i))(he:PE X e te)(z:attributeBase o "extend" X.env (eval o X.env)=eval o X.env:=by rfl)
  (g:At X aS [e]:=by rfl)
  (P:(apos.endLine==aS.line)=true:=by rfl) (hs:AC X e []:=by rfl) (Q:(backTo aS (kz [] X.env)).any (·.1)=false:=by rfl):
  PE X (.Call (.Attribute o "extend" apos) [e] [] aS) (tBM K "list" pK (bK i) (di te fY)):=by
 subst q;exact rF PySem.F.plainAttrs_list PySem.F.slot_list_extend PySem.F.type_list_extend En ho (bL he eu hs) z g P hs Q
def Ag(he:mT K te qe):kB K (gD (tBM K "list" pK (bK i) (di te fY))) (vY i qe):=λdl H₀ hs H σ q Dq D (F,r) hq E=>by
 unfold vY at hq
 split at hq
 ·rename_i xs ei;let(v,hv,rp):=r.g i _ _ ei U;let(o1,o2,o3):=r.o i _ ei;let(p,vs,G,U,V,h1,h2):=rp.r.lst;refine(_,hv,.inl (U,vs,SqL.of h1),he dl H σ q _ _ r.rd hq λw t F' H' e1 r1 f1 n1 Q=>?_)
  split at Q
  ·let(p2,ws,G2,U,U,h3,h4):=r1.r.lst;let pn:=rp.n p (by rw[V];exact g5)
   refine(p,p2,vs,ws,U,U,e1.k p _ h1 pn (λ_ z=>nomatch z),h3,by rw[h2.len,h4.len];exact Q.1,?_)
   let hG:=λb P=>rp.n b (by rw[V];exact j0 _ P)
   let av:=h2.cA (e1.tf r.d) (λ_ z=>z) λb P o eo=>e1.k b o eo (hG b P) (.of (h2.there b P) eo)
   refine E.nx _ σ _ (r.qS ei hv V e1 (av.append h4) ?_ λb P=>?_) Q.2
   ·rw[V]at o1;refine Dc.mpr ((sP.mp o1).2,(sP.mp n1).2,λx hx y hy aD=>?_)
    subst aD;exact fE.no (h2.there x hx) (f1 x (j0 _ hy))
   ·obtain P|P:=p7.mp P
    ·exact .inl P
    ·exact .inr (f1 b (j0 _ P),r1.n b (j0 _ P))
  ·exact Q.elim
 ·exact hq.elim
def uI{dG:Pos}(ho:PE X o (bK i))(he:QPF X K e te qe)(z:X.K=K:=by rfl)(P:attributeBase o "extend" X.env (eval o X.env)=eval o X.env:=by rfl)
  (q:At X aS [e]:=by rfl)
  (Q:(apos.endLine==aS.line)=true:=by rfl) (hs:AC X e []:=by rfl) (V:(backTo aS (kz [] X.env)).any (·.1)=false:=by rfl)
  (g:swapsWith (.Call (.Attribute o "extend" apos) [e] [] aS) Y dG.line X.env=pure false:=by rfl):
  QPS X K (.Expr (.Call (.Attribute o "extend" apos) [e] [] aS) dG) (gD (tBM K "list" pK (bK i) (di te fY))) (vY i qe):=(fP (A4 z ho he.h P q Q hs V) g,Ag he.s)
end
variable{td:TE}{tx:TE}{qo:QE}{to:TE}
section
variable{X:Cx}{K:BT}{dl:Dl}{hs:List (V×T)}{σ:St}{F:Nat->List J}{a b e o c:Ev}{ta tb tk tv:TE}{qa qb qk qv:QE}{pos apos aS:Pos}
theorem aq.last:∀{ts:List T}{x:T}{vs:List V}{F:List J},aq K dl H vs (ts ++ [x]) F->∃us w q g,vs=us ++ [w]/\aq K dl H us ts q/\ay K dl H w x g/\F=q++g
 |[],x,vs,F,h=>by
  cases h with
  |cons h1 h2 =>
   cases h2;exact([],_,[],_,U,.nil,h1,by simp)
 |t::ts,x,vs,F,h=>by
  cases h with
  |cons h1 h2 =>
   let(us,w,q,g,U,P,z,U):=aq.last h2;exact(_::us,w,_,g,U,.cons h1 P,z,by rw[Nj])
def OQ(i j:Nat):QS:=λD q=>match q[i]? with
 |some (.o (.l xs))=>∃ys x,xs=ys ++ [x]/\T.ims xs=O/\i≠j/\D.nx ((q.set i (.o (.l ys))).set j (.o x))
 |_=>False
def Bg:T.ims (xs++ys)=(T.ims xs&&T.ims ys):=by
 induction xs with
 |nil=>rfl
 |cons x r g=>show(x.im&&T.ims (r++ys))=((x.im&&T.ims r)&&T.ims ys);rw[g,Bool.and_assoc]
def JZ:kB K (jj (JM K "list" Ko (bK i)) (gw j)) (OQ i j):=λdl H₀ hs H σ q Dq D (F,r) hq E=>by
 unfold OQ at hq
 split at hq
 ·rename_i xs ei;let(ys,x,U,P,aD,hq):=hq;let(v,hv,rp):=r.g i _ _ ei U;let(p,vs,G,U,eF,h1,h2):=rp.r.lst;let(us,w,F1,F2,U,r1,r2,U):=h2.last;rw[Bg,sO]at P;obtain rfl:=r1.im P.1;let hx:=by have:=P.2;simpa [T.ims]using this
  obtain rfl:=r2.im hx;refine(_,hv,.inl (U,_,SqL.of h1),p,_,w,U,U,h1,by simp,?_)
  rw[WJ];let(F3,V):=r.qS ei hv eF (.refl r.d) r1 mu bY
  let tf:=by
   let tf:TF H (upd H p (.lst us)):=(λa av h=>(by
    rw[ak];exact h;intro z;subst z;rw[h]at h1;cases h1),λa ob u h=>(by
    rw[ak];exact h;intro z;subst z;rw[h]at h1;cases h1),λa φ h=>(by
    rw[ak];exact h;intro z;subst z;rw[h]at h1;cases h1),λa Q h=>(by
    by_cases z:a=p
    ·subst z;exact(_,ax)
    ·exact(Q,by rw[ak z];exact h)),λa x h=>(x,E6 _,by
    rw[ak];exact h;intro z;subst z;rw[h]at h1;cases h1))
   exact r2.cA tf (λ_ z=>z) bY
  exact E.nx _ _ _ (V.fc (.refl V.d) (.c tf) bY mu) hq
 ·exact hq.elim
def Gv(g:X.N.Nodup)(hi:X.N[j]?=Z x)(hx:Loc X.env.scope x)(ho:PE X o (bK i))(q:X.K=K:=by rfl)(z:attributeBase o "pop" X.env (eval o X.env)=eval o X.env:=by rfl)(P:(apos.endLine==aS.line)=true:=by rfl)
  (hs:swapsWith (.Call (.Attribute o "pop" apos) [] [] aS) (Z (.Name x pos')) pos.line X.env=pure false:=by rfl) (hf:AT X x:=by first|exact .inl rfl|exact .inr rfl|assumption):
  QPS X K (.Assign [.Name x pos'] (.Call (.Attribute o "pop" apos) [] [] aS) pos) (jj (JM K "list" Ko (bK i)) (gw j)) (OQ i j) :=
 (by subst q;exact iM g hi hx (AV PySem.F.plainAttrs_list PySem.F.slot_list_pop PySem.F.type_list_pop A2 ho z P) hs hf,JZ)
def GD(g:Tg)(qe:QE):QS:=λD q=>qe q λt=>t.im=O/\Ex2 (λq'=>g.put t q=Z q') D.nx
def JW(he:iy K te qe):kB K (jj te (g.h K)) (GD g qe):=λdl H₀ hs H σ q Dq D (F,r) hq E=>he dl H σ q _ _ r.rd hq λv t F' H' e1 V (Q,q',P,hz)=>by
 obtain rfl:=V.r.im Q;exact Av (r.evo e1) V (λ_ _ _ _ _ z=>nomatch z) P λav r'=>E.nx _ _ _ r' hz
def gT(he:QPE X K e te qe)(hg:PG X tg (g.h K))(hs:swapsWithSole [tg] e pos.line X.env=pure false:=by rfl)(hw:swappedStores [tg] e X.env=pure none:=by rfl)
  (h1:(assignEach [tg] X.env).map (·.2)=[assign tg X.env]:=by rfl):QPS X K (.Assign [tg] e pos) (jj te (g.h K)) (GD g qe):=(v8 he.h hg hs hw h1,JW he.s)
def RY(i j:Nat)(qa qb:QE):QS:=λD q=>qa q λt=>t.im=O/\qb q λu=>u.im=O/\D.nx ((q.set i (.o t)).set j (.o u))
def J0(ha:iy K ta qa)(hb:iy K tb qb):kB K (Og i j (di ta (di tb fY))) (RY i j qa qb):=λdl H₀ hs H σ q Dq D (F,r) hq E=>by
 refine ha dl H σ q _ _ r.rd hq λv t F1 H1 P V (m1,hq)=>hb dl H1 σ q _ _ (r.rd.evo P) hq λw u F2 H2 e2 Q g=>?_
 let(m2,hq):=g;obtain rfl:=V.r.im m1;obtain rfl:=Q.r.im m2;refine(v,w,U,?_);let(F1,R1):=r.fc (P.trans e2) (V.evo P.d e2) bY mu
 exact E.nx _ _ _ (R1.fc (.refl R1.d) Q bY mu) hq
def T.key:T->Option Key
 |.i x=>Z (.inl x)
 |.s x=>Z (.inr x)
 |_=>Y
theorem ay.key{v:V}{t:T}{F:List J}{k:Key}(h:ay K dl H v t F)(e:t.key=Z k):v=kV k:=by
 cases h <;> first|(cases e;rfl)|cases e
def bI(ks:List (Key×T))(k:Key):Option T:=(ks.find? λp=>decide (p.1=k)).map (·.2)
def cX(ks:List (Key×T))(k:Key)(t:T):List (Key×T):=if(ks.any λp=>decide (p.1=k))=O then ks.map (λp=>if p.1=k then(p.1,t)else p)else ks ++ [(k,t)]
def aN.look{F:List J}(k:Key)(h:aN K dl H vs ts F):(bI ts k=Y/\fN vs k=Y)\/∃t v G,bI ts k=Z t/\fN vs k=Z v/\ay K dl H v t G/\∀b∈G,b∈F :=
 h.ind (.inl (U,U)) λk0 v x vs ts F G h r q=>by
  by_cases e:k0=k
  ·subst e;exact .inr (_,_,_,by simp[bI],by simp[fN],h,λb g=>qr _ g)
  ·obtain⟨h1,h2⟩|⟨t,v,G,h1,h2,h3,h4⟩:=q
   ·refine .inl (?_,?_)
    ·unfold bI at h1 ⊢;rw[BD,decide_eq_false e];exact h1
    ·unfold fN at h2 ⊢;rw[BD,decide_eq_false e];exact h2
   ·refine .inr (t,v,G,?_,?_,h3,λb g=>p6 _ (h4 b g))
    ·unfold bI at h1 ⊢;rw[BD,decide_eq_false e];exact h1
    ·unfold fN at h2 ⊢;rw[BD,decide_eq_false e];exact h2
mutual
def T.imk:List (Key×T)->Bool
 |[]=>O
 | (_,x)::r=>x.im&&T.imk r
end
theorem aN.im{F:List J}(h:aN K dl H vs ts F):T.imk ts=O->F=[]:=h.ind (λ_=>rfl) (λ_ _ _ _ _ _ _ h _ g=>rW h.im g)
def aN.keys{F:List J}(h:aN K dl H vs ts F)(k:Key):(vs.any λp=>decide (p.1=k))=ts.any λp=>decide (p.1=k) :=
 h.ind U λ_ _ _ _ _ _ _ _ _ g=>by rw[VW,VW,g]
def aN.put(hw:ay K dl H w t []):∀{vs:List (Key×V)}{ts:List (Key×T)},aN K dl H vs ts []->aN K dl H (putK vs k w) (cX ts k t) []:=by
 let mp:∀{vs:List (Key×V)}{ts:List (Key×T)}{F:List J},aN K dl H vs ts F->F=[]->aN K dl H (vs.map λp=>if p.1=k then(p.1,w)else p) (ts.map λp=>if p.1=k then(p.1,t)else p) []:=by
  intro vs ts F h
  induction ts generalizing vs F with
  |nil=>intro _;cases h;exact .nil
  |cons p ts q =>
   cases h with
   |@cons k0 v x vs _ F1 F2 h1 h2 =>
    intro e;let(Q,P):=Dd.mp e;subst Q P;let z:=q h2 U;rw[xG,xG];by_cases g:k0=k
    ·rw[if_pos g,if_pos g];exact .cons hw z
    ·rw[if_neg g,if_neg g];exact .cons h1 z
 let sn:∀{vs:List (Key×V)}{ts:List (Key×T)}{F:List J},aN K dl H vs ts F->aN K dl H (vs ++ [(k,w)]) (ts ++ [(k,t)]) F:=by
  intro vs ts F h
  induction ts generalizing vs F with
  |nil=>cases h;exact .cons hw .nil
  |cons p ts q =>
   cases h with
   |cons h1 h2=>exact .cons h1 (q h2)
 intro vs ts h;unfold putK cX;rw[h.keys k]
 split
 ·exact mp h U
 ·exact sn h
def Rel.OA{ws:List (Key×V)}(r:Rel K dl H₀ hs H σ q F)(hi:q[i]?=Z (.o (.d xs)))(hv:σ[i]?=Z (Z (.ref p)))(e:Evo dl H H')
  (rs:aN K dl H' ws ys []):fF K dl H₀ hs (upd H' p (.dK ws)) σ (q.set i (.o (.d ys))):=by
 let r':=r.evo e;let(v',Q,rp):=r'.g i _ _ hi U;rw[hv]at Q;cases Q;let(p2,vs2,G2,e2,eF,h1,h2):=rp.r.dic;cases e2;let pn:=rp.n p (by rw[eF];exact g5)
 let tf:TF H' (upd H' p (.dK ws)):=(λa us h=>(by
  rw[ak];exact h;intro z;subst z;rw[h]at h1;cases h1),λa ob u h=>(by
  rw[ak];exact h;intro z;subst z;rw[h]at h1;cases h1),λa φ h=>(by
  rw[ak];exact h;intro z;subst z;rw[h]at h1;cases h1),λa P h=>(by
  let ne:a≠p:=by
   intro z;subst z;rw[h]at h1;cases h1
  exact(P,by rw[ak ne];exact h)),λa x h=>(x,E6 _,by
  rw[ak];exact h;intro z;subst z;rw[h]at h1;cases h1))
 let av:=rs.cA tf (λ_ z=>z) bY
 exact(_,r'.write hi hv (by rw[eF];exact g5) (λP h=>by rw[h1]at h;cases h) (.d ax av,λb hb=>by rw[ej.mp hb];exact pn) (by simp) λb hb=>by rw[ej.mp hb,eF];exact .inl g5)
def DX(i:Nat)(qk qv:QE):QS:=λD q=>match q[i]? with
 |some (.o (.d xs))=>qv q λt=>qk q λu=>match u.key with
  |some k=>xs.length<mV/\T.imk xs=O/\t.im=O/\D.nx (q.set i (.o (.d (cX xs k t))))
  |none=>False
 |_=>False
def JY(hk:iy K tk qk)(hv:iy K tv qv):kB K (uC (bK i) tk tv) (DX i qk qv):=λdl H₀ hs H σ q Dq D (F,r) hq E=>by
 unfold DX at hq
 split at hq
 ·rename_i xs ei;refine hv dl H σ q _ _ r.rd hq λw t F1 H1 P r1 hq=>?_
  let(v,z,rp):=(r.evo P).g i _ _ ei U;refine(v,z,hk dl H1 σ q _ _ (r.rd.evo P) hq λy u F2 H2 V r2 hq=>?_)
  split at hq
  ·rename_i k ek;let(hz,hm,ht,hq):=hq;obtain rfl:=r1.r.im ht;let Q:=rp.evo P.d V;let(p,vs,G,U,eF,h1,h2):=Q.r.dic;obtain rfl:=h2.im hm;rw[r2.r.key ek];exact(p,_,U,sW.k h1 (by rw[h2.len];exact hz),E.nx _ _ _ (r.OA ei z (P.trans V) (aN.put (r1.evo P.d V).r h2)) hq)
  ·exact hq.elim
 ·exact hq.elim
def Gu(q:X.A.units+1<cLine)(ho:PE X o (bK i))(g:QPE X K a tk qk)(hv:QPE X K b tv qv)(hs:swapsWith b (Z (.Subscript o a pos')) pos.line X.env=pure false:=by rfl):
  QPS X K (.Assign [.Subscript o a pos'] b pos) (uC (bK i) tk tv) (DX i qk qv):=(ke q ho g.h hv.h hs,JY g.s hv.s)
def KY:QPF X K (.Dict [] [] pos) Ft (qC (.d [])):=(Hf,λdl H σ q Q R rd hq k=>λp hp=>k _ _ [p] _ ((Evo.refl rd.d).new hp) (.d ax .nil,λb g=>by rw[ej.mp g];exact rd.d.nd0 hp) (λb g=>by rw[ej.mp g];exact hp) (by simp) hq)
def Sf(neg:Bool):Q2:=λt u Q=>match u with
 |.d ks=>match t.key with
  |some k=>Q (.b (if neg then !(bI ks k).isSome else(bI ks k).isSome))
  |none=>False
 |_=>False
inductive Ks(neg:Bool)(y:V)(x:V)(H:Hp)(Q:VK):Prop
 |mk(a o:_)(h1:x=.ref a)(h2:hJ H a y o)(h3:Q (.bl (if neg then !o.isSome else o.isSome)) H)
def Hs(P:X.A.units+1<cLine):OpR X (compareOp .In) (Ks ϊ):=by
 intro gV s σ H y x u v Q I z K h;let(a,o,U,g,q):=h;cases K;exact Vf P I g z λs' V=>(.bl _,H,V,U,q)
def Ee(P:X.A.units+1<cLine):OpR X (compareOp .NotIn) (Ks O):=by
 intro gV s σ H y x u v Q I z K h;let(a,o,U,g,q):=h;cases K;exact MW P I g z λs' V=>(.bl _,H,V,U,q)
def B0:c9 K (Ks neg) (Sf neg):=by
 intro dl H x y t u F G Q R D V P hq k;unfold Sf at hq
 split at hq
 ·split at hq
  ·rename_i k0 ek;let(p,vs,G,U,_,h1,h2):=P.r.dic;rw[V.r.key ek];refine(p,_,U,hJ.k h1,k _ _ [] H (.refl D) (.c (.b _)) bY mu ?_)
   let e:∀{ks:List (Key×T)},aN K dl H vs ks G->(fN vs k0).isSome=(bI ks k0).isSome:=λ{ks} h2=>by
    obtain⟨q,g⟩|⟨_,_,_,q,g,_⟩:=h2.look k0
    ·rw[q,g];rfl
    ·rw[q,g];rfl
   rw[e h2];exact hq
  ·exact hq.elim
 ·exact hq.elim
def OU:Q2:=λt u Q=>match t with
 |.d ks=>match u.key with
  |some k=>Ex2 (λx=>bI ks k=Z x) Q
  |none=>False
 |_=>qIx t u Q
inductive RI(x:V)(y:V)(H:Hp)(Q:VK):Prop
 |mk(a kvs k v)(h1:x=.ref a)(h2:y=kV k)(h3:H a=Z (.dK kvs))(h4:fN kvs k=Z v)(h5:Q v H)
def MC:IxR X RI:=by
 intro value slice gV s σ H x y v u Q I P K h hs;let(a,kvs,k,w,U,U,ha,hv,q):=h;cases P;let(z,hd,vs,rel,dd):=jP I.hok (Rd.of ha);let(V,hw,g):=iz.some_of (by rw[<- hv];exact rel.val k)
 exact subscriptTail_builtinR dd.typeIs PySem.F.slot_dict_getitem.lookup (wpAny_getItem_of (jJ K) dd.mapOf hw (U,w,H,I.tok _,g,q)) hs
def OC(K:BT):R2:=λx y H Q=>rIx K x y H Q\/RI x y H Q
def UL(g:X.K=K):IxR X (OC K):=by subst g;exact wQ.or MC
def J5:EX K (OC K) OU:=by
 intro dl H x y t u F G Q R D P r2 hq k;unfold OU at hq
 split at hq
 ·split at hq
  ·rename_i k0 ek;let(z,g,hq):=hq;let(p,vs,G,U,eF,h1,h2):=P.r.dic;rw[r2.r.key ek];obtain⟨q,V⟩|⟨t,v,G',q,V,z3,z4⟩:=h2.look k0
   ·rw[q]at g;cases g
   ·rw[q]at g;cases g;exact .inr (p,vs,k0,v,U,U,h1,V,k v _ G' H (.refl D) (Rp.sub z3 P.n λb hb=>by rw[eF];exact j0 _ (z4 b hb)) hq)
  ·exact hq.elim
 ·exact .inl (FP dl H x y t u F G Q R D P r2 hq k)
def qW(ha:QPE X K a ta qa)(g:QPE X K b tb qb)(hs:i7 b:=by intro _ _;rfl)(q:X.K=K:=by rfl):QPE X K (.Subscript a b pos) (tOp (OC K) ta tb) (qOp OU qa qb):=(rD (UL q) ha.h g.h hs,qF J5 ha.s g.s)
def GK(z qk g:QE):QE:=λq Q=>z q λd=>match d with
 |.d ks=>qk q λu=>match u.key with
  |some k=>g q λx=>Q ((bI ks k).getD x)
  |none=>False
 |_=>False
def KW(hu:X.A.units+1<cLine)(hd:QPE X K d td qd)(hk:QPE X K e tk qk)(hx:QPE X K f tx qx)(m:M2 X d "get" apos e f aS:=by exact(U,U,U,U)):QPE X K (.Call (.Attribute d "get" apos) [e,f] [] aS) (Fv td tk tx) (GK qd qk qx) :=
 (Hg hu hd.h hk.h hx.h m,λdl H σ q Q R rd hq k=>hd.s dl H σ q _ _ rd hq λv t F H1 P r1 hq=>by
  split at hq
  ·let(p,vs,G,U,eF,h1,h2):=r1.r.dic;refine(p,U,.inl (vs,Rd.of h1),hk.s dl H1 σ q _ _ (rd.evo P) hq λy u F2 H2 g r2 hq=>?_)
   split at hq
   ·rename_i k0 ek;refine hx.s dl H2 σ q _ _ ((rd.evo P).evo g) hq λz w F3 H3 e3 r3 hq=>?_
    let rp:=(r1.evo P.d g).evo g.d e3;let(p',vs',G',e',aE,aD,av):=rp.r.dic;cases e';rw[r2.r.key ek];refine(_,hJ.k aD,?_);obtain⟨z1,V⟩|⟨t,v,G2,z1,V,z3,z4⟩:=av.look k0
    ·rw[V];rw[z1]at hq;exact k _ _ F3 H3 ((P.trans g).trans e3) r3 hq
    ·rw[V];rw[z1]at hq;exact k _ _ G2 H3 ((P.trans g).trans e3) (Rp.sub z3 rp.n λb hb=>by rw[aE];exact j0 _ (z4 b hb)) hq
   ·exact hq.elim
  ·exact hq.elim)
def Vj:T->Option Str
 |.s x=>Z x
 |_=>Y
abbrev txs:List T->Option (List Str):=picks Vj
theorem aq.txs{vs:List V}{F:List J}(h:aq K dl H vs ts F)(e:L2.txs ts=Z bs):vs=bs.map V.str :=
 h.picks (λv t F a h e=>by cases t <;> first|(cases e;exact h.str.1)|cases e) e
def JK(bs:List Str):txs (bs.map T.s)=Z bs:=by
 induction bs with
 |nil=>rfl
 |cons b r g=>show(txs (r.map T.s)).map (b :: ·)=_;rw[g];rfl
def R7(qo qe:QE):QE:=λq Q=>qo q λs=>match s with
 |.s sep=>qe q λt=>match t with
  |.l xs=>Ex4 (λys=>txs xs=Z ys) (λys=>(ys.map (·.length)).sum+ys.length*sep.length<=16777216) (λys=>(.s (Txt.join sep ys))) Q
  |_=>False
 |_=>False
def KU(ho:QPE X K o to qo)(he:QPE X K e te qe)(hK:X.K=K:=by rfl)(cL:attributeBase o "join" X.env (eval o X.env)=eval o X.env:=by rfl)
  (iU:At X aS [e]:=by rfl)
  (cK:(apos.endLine==aS.line)=true:=by rfl) (hs:AC X e []:=by rfl) (cG:(backTo aS (kz [] X.env)).any (·.1)=false:=by rfl):
  QPF X K (.Call (.Attribute o "join" apos) [e] [] aS) (tBM K "str" (rJoin K) to (di te fY)) (R7 qo qe):=(by
 subst hK;exact rF PySem.F.plainAttrs_str PySem.F.slot_str_join PySem.F.type_str_join Mc ho.h (bL he.h eu hs) cL iU cK hs cG,λdl H σ q Q R rd hq k=>ho.s dl H σ q _ _ rd hq λv t F H1 g V hq=>by
  split at hq
  ·let(U,_):=V.r.str;refine(U,he.s dl H1 σ q _ _ (rd.evo g) hq λw u F2 H2 e2 P hq=>?_)
   split at hq
   ·let(ys,hy,hz,hq):=hq;let(p,vs,G,U,eF,h1,h2):=P.r.lst;let ev:=h2.txs hy;subst ev;exact(_,p,ys,U,U,SqL.of h1,hz,k _ _ [] H2 (g.trans e2) (.c (.s _)) bY mu hq)
   ·exact hq.elim
  ·exact hq.elim)
def NA(i:Nat)(qk qv:QE):QS:=λD q=>qv q λt=>match q[i]? with
 |some (.o (.l xs))=>qk q λu=>match u with
  |.i k=>∃j,ixN xs.length k=Z j/\T.ims xs=O/\t.im=O/\D.nx (q.set i (.o (.l (xs.set j t))))
  |_=>False
 |_=>False
end
def zh(vs ws:List V):Bool:=vs.length==ws.length&&(E3 vs.length).all λj=>match vs[j]?,ws[j]? with|some x,Z y=>eqV x y|_,_=>ϊ
variable{its:List B}
section
variable{X:Cx}{K:BT}
def Vals.at'(r:Vals vs its)(h:j<its.toArray.size):∃v,vs[j]?=Z v/\RelV v its.toArray[j]:=by
 let hl:=r.length;let g:=by simpa using h
 let hv:j<vs.length:=by lia
 let(u,h1,h2):=r.get (i:=j) (x:=vs[j]) (by simp[hv])
 have:its[j]?=Z its[j]:=by simp[g]
 rw[this]at h1;cases h1;exact(vs[j],by simp[hv],by simpa using h2)
def pR{vs:List V}(h:vs.all eB=O)(e:vs[j]?=Z v):eB v=true:=Fq.mp h v (pA e)
inductive RK(K:BT)(x:V)(y:V)(H:Hp)(Q:VK):Prop
 |mk(p q vs ws)(h1:x=.ref p)(h2:y=.ref q)(h3:((SqL K H p vs/\SqL K H q ws)\/(SqT K H p vs/\SqT K H q ws)))(h4:vs.all eB=O)(h5:ws.all eB=O)(h6:Q (.bl (zh vs ws)) H)
def Pk(hu:X.A.units+1<cLine):OpR X (compareOp .Eq) (RK X.K):=by
 intro gV s σ H x y v u Q I rx ry h;let(p,q,vs,ws,U,U,hs,f1,f2,k):=h;cases rx;cases ry;obtain⟨h1,h2⟩|⟨h1,h2⟩:=hs
 ·let(its,z,p1,_):=I.list h1;let(bD,g,p2,_):=I.list h2;let l1:=z.length;let l2:=g.length;by_cases hl:its.length=bD.length
  ·refine SeqAt.eq_listAt (e:=λj=>match vs[j]?,ws[j]? with|some x,Z y=>eqV x y|_,_=>ϊ) p1.isList p2.isList (by simpa using hl) (by omega) (λj g1 g2=>?_) (.bl _,H,I,U,?_)
   ·let(a,V,ra):=z.at' g1;let(b,P,rb):=g.at' g2;simp only[V,P];exact nT ra rb (pR f1 V) (pR f2 P)
   ·let e:zh vs ws=(E3 its.toArray.size).all λj=>match vs[j]?,ws[j]? with|some x,Z y=>eqV x y|_,_=>false:=by
     unfold zh;rw[show(vs.length==ws.length)=O from by simp;lia,Bool.true_and,p5,l1]
    rw[<- e];exact k
  ·refine SeqAt.eq_list_lengthsAt p1.isList p2.isList (by simpa using hl) (by omega) (.bl _,H,I,U,?_)
   let e:zh vs ws=false:=by
    unfold zh;rw[show(vs.length==ws.length)=ϊ from by simp;lia,Bool.false_and]
   rw[<- e];exact k
 ·let(its,z,p1,_):=I.tuple h1;let(bD,g,p2,_):=I.tuple h2;let l1:=z.length;let l2:=g.length;refine SeqAt.eq_tupleAt (e:=λj=>match vs[j]?,ws[j]? with|some x,Z y=>eqV x y|_,_=>ϊ) (p1) (p2) (by omega) (λj g1 g2=>?_) (.bl _,H,I,U,?_)
  ·let(a,V,ra):=z.at' g1;let(b,P,rb):=g.at' g2;simp only[V,P];exact nT ra rb (pR f1 V) (pR f2 P)
  ·let e:zh vs ws=((E3 (min its.toArray.size bD.toArray.size)).all (λj=>match vs[j]?,ws[j]? with|some x,Z y=>eqV x y|_,_=>ϊ)&&its.toArray.size==bD.toArray.size):=by
    unfold zh;rw[p5,p5,<- l1,<- l2,Bool.and_comm];by_cases hl:vs.length=ws.length
    ·rw[hl,XS]
    ·rw[show(vs.length==ws.length)=ϊ from by simpa using hl,Wx,Wx]
   rw[<- e];exact k
def eqF(xs ys:List T):Bool:=zh (xs.map T.v) (ys.map T.v)
def GN:Q2:=λt u Q=>match t,u with
 |.l xs,.l ys=>(fls xs&&fls ys)=O/\Q (.b (eqF xs ys))
 |.t xs,.t ys=>(fls xs&&fls ys)=O/\Q (.b (eqF xs ys))
 |t,u=>qEq t u Q
def Kr(K:BT):R2:=λx y H Q=>rEq x y H Q\/RK K x y H Q
def wB(g:X.A.units+1<cLine)(q:X.K=K):OpR X (compareOp .Eq) (Kr K):=by subst q;exact NL.or (Pk g)
def pH:c9 K (Kr K) GN:=by
 intro dl H x y t u F G Q R D q g hq k;unfold GN at hq
 split at hq
 ·let(p,vs,G1,U,U,h1,h2):=q.r.lst;let(P,vs',V,U,U,h3,h4):=g.r.lst;let(f,hq):=hq;rw[sO]at f;let(U,U):=h2.vs f.1;let(U,U):=h4.vs f.2;exact .inr (p,P,_,_,U,U,.inl (SqL.of h1,SqL.of h3),se f.1,se f.2,k _ _ [] H (.refl D) (.c (.b _)) bY mu hq)
 ·let(p,vs,U,h1,h2):=q.r.tup;let(P,vs',U,h3,h4):=g.r.tup;let(f,hq):=hq;rw[sO]at f;let(U,U):=h2.vs f.1;let(U,U):=h4.vs f.2;exact .inr (p,P,_,_,U,U,.inr (SqT.of h1,SqT.of h3),se f.1,se f.2,k _ _ [] H (.refl D) (.c (.b _)) bY mu hq)
 ·exact .inl (Ou dl H x y t u F G Q R D q g hq k)
end
end L2
namespace PySem
open Sem (wp)
section
variable{prog:Da}{w:Cl}{A:Db}{E:B->ϋ->Prop}
def oY:typeLookup (.type "tuple") "keys"=pure none:=am_miss_of_fast (by decide +kernel)
def rS:typeLookup (.type "list") "keys"=pure none:=am_miss_of_fast (by decide +kernel)
set_option maxRecDepth 8000 in
theorem oZ{s:ϋ}{a:J}{o:Obj}{xs:Array B}{k:Nat}{Q:Option B->ϋ->Prop}
  (hx:s.heap.get? a=Z o) (K:o.cls=.type "tuple") (P:o.data=.seq xs k) (hd:o.dict=Y) (V:A.handled=Y)
  (h:∀h' tk,(∀b o,s.heap.get? b=Z o->h'.get? b=Z o)->Q Y {s with heap:=h',toks:=tk}):
  wpAny (model prog w) A (getAttr? (.ref a) "keys") Q E s:=by
 let(c,av,dat,sl):=o;simp only at K P hd;subst K P hd;let(hp,g,d,tk,os):=s;let hT:∀q,((hp,g,d,q,os):ϋ).TypeIs (.ref a) "tuple":=λ_=>(_,hx,U)
 let f1:=sub_AttributeError;let f3:=F.slot_tuple_getattribute.lookup;let f4:=F.slot_tuple_getattribute.bind (.ref a);let f5:=am_tuple_getattr_none;unfold getAttr? getAttrBy? getAttrBy
 repeat (any_goals (first|assumption|exact hT _|((with_reducible show wpAny _ _ (call (B.builtin "tuple.__getattribute__") _ _) _ _ _);refine call_meets F.slot_tuple_getattribute (hT _) am_entry_tuple_getattribute (F.args_tuple_getattribute_2 _ _) (meets_getattribute_miss_tuple a xs k sl "keys" _ oY (by decide +kernel) (by decide +kernel)) (hx,V,λh' q e z=>?_))|wp_step))
 let(t',u',he):=z.there;show wpAny _ _ (getattributeRaised _ _ _ _ _ _ _) _ _ _;unfold getattributeRaised
 repeat (any_goals (first|assumption|wp_step))
 exact h _ _ z.keeps
set_option maxRecDepth 8000 in
theorem rR{s:ϋ}{a:J}{o:Obj}{xs:Array B}{k:Nat}{Q:Option B->ϋ->Prop}
  (hx:s.heap.get? a=Z o) (K:o.cls=.type "list") (P:o.data=.seq xs k) (hd:o.dict=Y) (V:A.handled=Y)
  (h:∀h' tk,(∀b o,s.heap.get? b=Z o->h'.get? b=Z o)->Q Y {s with heap:=h',toks:=tk}):
  wpAny (model prog w) A (getAttr? (.ref a) "keys") Q E s:=by
 let(c,av,dat,sl):=o;simp only at K P hd;subst K P hd;let(hp,g,d,tk,os):=s;let hT:∀q,((hp,g,d,q,os):ϋ).TypeIs (.ref a) "list":=λ_=>(_,hx,U)
 let f1:=sub_AttributeError;let f3:=F.slot_list_getattribute.lookup;let f4:=F.slot_list_getattribute.bind (.ref a);let f5:=am_list_getattr_none;unfold getAttr? getAttrBy? getAttrBy
 repeat (any_goals (first|assumption|exact hT _|((with_reducible show wpAny _ _ (call (B.builtin "list.__getattribute__") _ _) _ _ _);refine call_meets F.slot_list_getattribute (hT _) am_entry_list_getattribute (F.args_list_getattribute_2 _ _) (meets_getattribute_miss_list a xs k sl "keys" _ rS (by decide +kernel) (by decide +kernel)) (hx,V,λh' q e z=>?_))|wp_step))
 let(t',u',he):=z.there;show wpAny _ _ (getattributeRaised _ _ _ _ _ _ _) _ _ _;unfold getattributeRaised
 repeat (any_goals (first|assumption|wp_step))
 exact h _ _ z.keeps
end
end PySem
namespace PySem
open Sem (wp)
namespace F
def bR:entryFor table "dict.update.loop"=Z Builtin.«dict.update.loop»:=entryFor_of_tree (by kernel_rfl)
def bq:plainId "dict.update.loop"=true:=by decide +kernel
end F
section
variable{prog:Da}{w:Cl}{A:Db}{R:Result->ϋ->Prop}{I:J}{fp wr:List J}{n:Nat}{P:Nat->B->Prop}{St:Nat->Do->Prop}{κ:Type}[DecidableEq κ]{knd:KeyKind prog w κ}
def tu(kvs:List (κ×B))(k:κ)(v:B):(stored kvs k v).length<=kvs.length+1:=by
 unfold stored
 split <;> simp
def kJ(kvs:List (κ×B)):∀(more:List (κ×B)),(merged kvs more).length<=kvs.length+more.length:=by
 intro more
 induction more generalizing kvs with
 |nil=>exact mW _
 |cons p r g =>
  let h1:=g (stored kvs p.1 p.2);let h2:=tu kvs p.1 p.2;show(merged (stored kvs p.1 p.2) r).length<=_;simp only[rl]
  lia
theorem g6(W:Walks prog w A.in1 I fp wr n P St)(S:J)(aI:S ∉ fp)(res:B)(h0:Do)(kvs pairs:List (κ×B))(hsz:kvs.length+pairs.length<=mV)(a3:pairs.length=n)
  (hp:∀i v,P i v->∃(a:J)(o:Obj)(key val:B)(k:κ)(m:Nat),v=.ref a/\pairs[i]?=Z (k,val)/\knd.is k key=O/\h0.get? a=Z o/\o.cls=.type "tuple" /\ o.data=.seq #[key,val] m/\a ∉ wr/\a≠S):
  ∀(j i:Nat)(s:ϋ),n - i=j->i<=n->St i s.heap->s.heap.DictOf knd S (merged kvs (pairs.take i))->(∀b o,b ∉ wr->b≠S->h0.get? b=Z o->s.heap.get? b=Z o) ->
  (∀h' tk,(∀b o,b ∉ wr->b≠S->s.heap.get? b=Z o->h'.get? b=Z o)->h'.DictOf knd S (merged kvs pairs)->R (.ok (.ret res)) {s with heap:=h',toks:=tk}) ->
  codeAny (model prog w) A (.builtin "dict.update.loop" ([.ref S,.ref I,rawInt i,res],[])) R s:=by
 let aH:=λh=>aI (W.sub _ h)
 intro j
 induction j with
 |zero =>
  intro i s hk hi Q hS V hR;let a5:i=n:=by lia
  subst a5;refine VI F.bR ?_;rw[Around.under_plainId F.bq _];refine cO (W.done s _ _ Q λh' tk g=>?_)
  refine cO (k4 (k4 (hR h' tk (λb o K _ e=>g b o K e) ?_)))
  rw[<- a3,uj]at hS;let(o,es,ep,ho,r):=hS;exact(o,es,ep,g S o aH ho,r)
 |succ j ih =>
  intro i s hk hi Q hS V hR;let aD:=Wk hk;refine VI F.bR ?_;refine cO (W.item i s _ _ aD Q λv h' tk hP ua g=>?_)
  let(a,o,key,val,k,m,U,aS,Qb,ho,hc,hd,aE,a6):=hp i v hP;let av:=g a o aE (V a o aE a6 ho);let bt:h'.DictOf knd S (merged kvs (pairs.take i)):=by
   let(o,es,ep,ho,r):=hS;exact(o,es,ep,g S o aH ho,r)
  refine cO (E7 (cO (wpAny_tryCatch ?_)));refine cO (Vx (o,av,hc) ?_);refine cO (wpAny_seqItems av hd (k4 ?_));let bD:(merged kvs (pairs.take i)).length<=mV:=by
   let h1:=kJ kvs (pairs.take i);rw[zL]at h1;omega
  refine E7 (wpAny_dictSet_pairs Qb bt λbw Bi aQ=>?_)
  let e:=merged_take_succ kvs pairs i (k,val) aS;rw[<- e]at Bi;let fr:∀b o,b≠S->h'.get? b=Z o->bw.get? b=Z o:=λb o K eb=>(aQ.2 b K).trans eb
  exact k4 (QY F.bq _,ih (i+1) _ (by rw[WV,hk];rfl) aD (W.frame _ _ _ ua λb K o eb=>fr b o (λz=>aI (z▸K)) eb) Bi (λb o K q eb=>fr b o q (g b o K (V b o K q eb))) λh3 aM a4 a7=>(hR h3 aM (λb o K q eb=>a4 b o K q (fr b o q (g b o K eb))) a7))
end
end PySem
namespace PySem
open Sem (wp)
section
variable{prog:Da}{w:Cl}{A:Db}{s:ϋ}{κ:Type}[DecidableEq κ]{knd:KeyKind prog w κ}
theorem hU{its:Array B}{kvs pairs:List (κ×B)}{id:String}{res:B}{R:Result->ϋ->Prop}(Q:A.handled=Y)(hS:s.heap.DictOf knd S kvs)(aD:p≠S)
  (ho:∃(o:Obj)(n:Nat),s.heap.get? p=Z o/\o.dict=Y/\o.data=.seq its n/\(o.cls=.type "tuple" \/ o.cls=.type "list")) (hsz:kvs.length+pairs.length<=mV) (aE:pairs.length=its.size)
  (hp:∀(i:Nat)(v:B),its[i]?=Z v->∃(a:J)(o:Obj)(key val:B)(k:κ)(m:Nat),v=.ref a/\pairs[i]?=Z (k,val)/\knd.is k key=O/\s.heap.get? a=Z o/\o.cls=.type "tuple" /\ o.data=.seq #[key,val] m)
  (hR:∀h' tk,(∀b o,b≠S->s.heap.get? b=Z o->h'.get? b=Z o)->h'.DictOf knd S (merged kvs pairs)->R (.ok (.ret res)) {s with heap:=h',toks:=tk}):
  wpAny (model prog w) A.in1 (Builtin.Dict.updateFrom id S (.ref p) [] res) (λfin s'=>match fin with|.done f=>R (.ok f) s' |.again c'=>c'.quiet=O/\codeAny (model prog w) A c' R s') (λe s'=>R (.error e) s') s:=by
 let(o,n,hg,P,q,g):=ho;let fin:∀(h1:Do) tk h2 I St,(∀b o,s.heap.get? b=Z o->h1.get? b=Z o)->(∀b o,h1.get? b=Z o->h2.get? b=Z o)->h1.objs.size<=I->Walks prog w A.in1 I [I,p] [I] its.size (λi v=>its[i]?=Z v) St->St 0 h2 ->
   codeAny (model prog w) A (.builtin "dict.update.loop" ([.ref S,.ref I,rawInt 0,res],[])) R {s with heap:=h2,toks:=tk}:=by
  intro h1 tk h2 I St k1 k2 hI W av;let K:∀b o,s.heap.get? b=Z o->b≠I:=λb o e z=>by
   have:=kE (k1 b o e)
   exact absurd (zI this hI) (by rw[z];exact V3 _)
  let aH:S ∉ [I,p]:=λz=>by
   let(o,_,_,e,_):=hS;obtain z|z:=kf.mp z
   ·exact K S o e z
   ·exact aD (ej.mp z).symm
  refine g6 (knd:=knd) W S aH res s.heap kvs pairs hsz aE (λi v hP=>?_) its.size 0 _ U (Jf _) av ?_ (λb o _ _ e=>k2 b o (k1 b o e)) λh' V hk aI=>?_
  ·let(a,oa,key,val,k,m,e1,e2,e3,e4,e5,e6):=hp i v hP;refine(a,oa,key,val,k,m,e1,e2,e3,e4,e5,e6,λz=>K a oa e4 (ej.mp z),λz=>?_)
   let(o,_,_,e,hc,hd,_):=hS;rw[<- z,e4]at e;cases e;rw[e6]at hd;cases hd
  ·let(o,es,ep,e,r):=hS;exact(o,es,ep,k2 _ _ (k1 _ _ e),r)
  ·exact hR h' V (λb o hb e=>hk b o (λz=>K b o e (ej.mp z)) hb (k2 b o (k1 b o e))) aI
 obtain g|g:=g
 ·refine cO (Vx (o,hg,g) ?_);refine cO (oZ hg g q P Q λh1 tk k1=>?_)
  refine cO (VL ?_);let hT:h1.IsTuple p its:=(o,k1 _ _ hg,g,n,q);exact cO (wpAny_pyIter_tuple hT (k4 (QY F.bq _,(fin h1 tk _ h1.objs.size _ k1 (λb o e=>ja _ e) (mW _) (Walks.tuple (show A.in1.handled=Y from Q) _ p (sR (kE (k1 _ _ hg))) its) ((_,pB _ U,U,U),hT.push _)))))
 ·refine cO (Vx (o,hg,g) ?_);refine cO (rR hg g q P Q λh1 tk k1=>?_)
  refine cO (VL ?_);let hT:h1.IsList p its:=(o,k1 _ _ hg,g,n,q);exact cO (wpAny_pyIter_list hT (k4 (QY F.bq _,(fin h1 tk _ h1.objs.size _ k1 (λb o e=>ja _ e) (mW _) (Walks.list (show A.in1.handled=Y from Q) _ p (sR (kE (k1 _ _ hg))) its) ((_,pB _ U,U,U),hT.push _)))))
end
end PySem
namespace L2
open PySem PySem.Spec PyProof.Rows
variable{gV:List (J×Obj)}{H:Hp}{a:J}
section
variable{X:Cx}
def Inv.Oc{σ:St}(I:Inv X gV σ H s)(h:H a=Z (.tup xs)):∃its:List B,Vals xs its/\lC s.heap a its.toArray/\xs.length<=mV:=by
 let(z,its,r,p):=(I.hok a _ h);exact(its,r,p,z)
def yE{σ:St}(I:Inv X gV σ H s):∀{ps:List J}{kvs:List (Key×V)}{us:List B},Vals (ps.map V.ref) us->ps.length=kvs.length->(∀(i:Nat)(p:J)(kv:Key×V),ps[i]?=Z p->kvs[i]?=Z kv->H p=Z (.tup [kV kv.1,kv.2])) ->
  ∃pairs:List (Key×B),KV kvs pairs/\∀(i:Nat)(v:B),us[i]?=Z v->∃(a:J)(o:Obj)(key val:B)(k:Key)(m:Nat),v=.ref a/\pairs[i]?=Z (k,val)/\(bB X.prog X.w).is k key=O/\s.heap.get? a=Z o/\o.cls=.type "tuple" /\ o.data=.seq #[key,val] m:=by
 intro ps
 induction ps with
 |nil =>
  intro kvs us r hl _;let e:kvs=[]:=by cases kvs with|nil=>rfl|cons _ _=>simp at hl
  subst e;cases r;exact([],.nil,λi v h=>by simp at h)
 |cons p ps ih =>
  intro kvs us r hl h;cases kvs with
  |nil=>simp at hl
  |cons kv kvs =>
   cases r with
   |@cons _ u _ us P K =>
    let(pairs,h1,h2):=ih K (by simpa using hl) λi p kv q g=>h (i+1) p kv (by simpa using q) (by simpa using g)
    let hp:=h 0 p kv (by simp) (by simp)
    let(its,z,(o,ho,hc,m,hd),_):=I.tuple (SqT.of hp);cases z with
    |@cons _ key _ rest k1 k2 =>
     cases k2 with
     |@cons _ val _ Vv k3 Q =>
      cases Q;refine((kv.1,val)::pairs,.cons (U,k3) h1,λi v hv=>?_)
      cases i with
      |zero =>
       simp at hv;subst hv
       cases(P)
       exact(p,o,key,val,kv.1,m,U,by simp,jJ k1,ho,hc,hd)
      |succ i =>
       let(a,oa,UK,T6,k,m',q,g,e3):=h2 i v (by simpa using hv)
       exact(a,oa,UK,T6,k,m',q,by simpa using g,e3)
inductive vS(xs:List V)(H:Hp)(Q:VK):Prop
 |mk(p:J)(ps:List J)(kvs:List (Key×V))(h1:xs=[.ref p])(h2:(H p=Z (.tup (ps.map V.ref))\/H p=Z (.lst (ps.map V.ref))))(h3:ps.length=kvs.length)(h4:(∀(i:Nat)(a:J)(kv:Key×V),ps[i]?=Z a->kvs[i]?=Z kv->H a=Z (.tup [kV kv.1,kv.2])))(h5:∀d,H d=Y->Q (.ref d) (upd H d (.dK (dr [] kvs))))
theorem i6(hc:X.calm=O):cF X (.type "dict") vS:=by
 intro gV s σ H xs us Q I r h;let(p,ps,kvs,U,hp,hl,av,q):=h;let(u,U,ru):=vals1 r;cases ru;let hh:=I.ok.hd hc;obtain⟨its,rv,z,ob⟩:∃its:List B,Vals (ps.map V.ref) its/\(ps.map V.ref).length<=mV/\∃(o:Obj)(n:Nat),s.heap.get? p=Z o/\o.dict=Y/\o.data=.seq its.toArray n/\(o.cls=.type "tuple" \/ o.cls=.type "list"):=by
  obtain hp|hp:=hp
  ·let(its,rv,((o,ho,h1,n,h2),o',K,h3),z):=I.Oc hp;rw[ho]at K;cases K;exact(its,rv,z,o,n,ho,h3,h2,.inl h1)
  ·let(z,its,n,rv,e):=(I.hok p _ hp);exact(its,rv,z,_,n,e,U,U,.inr U)
 let(pairs,kv,Bh):=yE I rv hl av;refine callType_codes (Q₁:=λobj g=>obj=.ref s.heap.objs.size/\g={s with heap:=s.heap.push {cls:=.type "dict",data:=.dict #[]}}) F.kt_called_dict (F.kt_typeCall_dict_1 _) F.entry_dict_init (kt_code_dict_new _ (U,U)) ?_
 rintro obj g ⟨rfl,rfl⟩
 let P:(s.heap.push {cls:=.type "dict",data:=.dict #[]}).DictOf (bB X.prog X.w) s.heap.objs.size []:=Heap.DictOf.new s.heap;refine(P.typeIs,F.args_dict_init_2 _ _,?_);refine cO ?_;refine cO (wpAny_notOrdered_dict P.typeIs ?_);refine k4 ?_;let(o,n,ho,aH,aE,aI):=ob;let aD:=rv.length;rw[dz]at aD z;let aM:=kv.length;refine hU (pairs:=pairs) hh P (sR (kE ho)) (o,n,ja _ ho,aH,aE,aI) (by simp only[Wi];lia) (by rw[p5];lia) (λi v hv=>?_) λh' tk hk hd=>?_
 ·let(a,oa,key,val,k,m,e1,e2,e3,e4,e5,e6):=Bh i v (by simpa using hv)
  exact(a,oa,key,val,k,m,e1,e2,e3,ja _ e4,e5,e6)
 ·refine(U,.ref s.heap.objs.size,_,I.laid (λb u e=>hk b u (sR (kE e)) (ja _ e)) (mW _) ?_,U,q _ (I.hok.fresh (mW _)))
  refine nU ?_ ?_ (KV.merge kv .nil) hd
  ·have:=dw kvs []
   simp only[Wi]at this
   lia
  ·have:=I.big
   exact beq_eq_false_iff_ne.mpr (Jh this)
end
def fe:List T->Option (List (Key×T))
 |[]=>Z []
 |.t [k,x]::r=>match k.key,fe r with
  |some k,Z r=>Z ((Prod.mk k x)::r)
  |_,_=>Y
 |_=>Y
def aP(ks more:List (Key×T)):List (Key×T):=more.foldl (λacc p=>cX acc p.1 p.2) ks
section
variable{K:BT}{dl:Dl}
def yF(h:fe (x::r)=Z kts):∃k y k0 g,x=.t [k,y]/\k.key=Z k0/\fe r=Z g/\kts=(k0,y)::g:=by
 unfold fe at h
 split at h
 ·rename_i z;cases z
 ·rename_i k y q z;cases z
  split at h
  ·cases h;exact(_,_,_,_,U,‹_›,‹_›,U)
  ·cases h
 ·cases h
def aq.pairs{vs:List V}(h:aq K dl H vs xs F):∀{kts:List (Key×T)},F=[]->fe xs=Z kts ->
  ∃(ps:List J)(kvs:List (Key×V)),vs=ps.map V.ref/\ps.length=kvs.length/\(∀(i:Nat)(a:J)(kv:Key×V),ps[i]?=Z a->kvs[i]?=Z kv->H a=Z (.tup [kV kv.1,kv.2]))/\aN K dl H kvs kts [] :=
 h.ind (M:=λvs xs F=>∀{kts:List (Key×T)},F=[]->fe xs=Z kts ->   ∃(ps:List J)(kvs:List (Key×V)),vs=ps.map V.ref/\ps.length=kvs.length/\(∀(i:Nat)(a:J)(kv:Key×V),ps[i]?=Z a->kvs[i]?=Z kv->H a=Z (.tup [kV kv.1,kv.2]))/\aN K dl H kvs kts []) (λ{kts} _ h=>by
  cases h;exact([],[],U,U,λi a kv h=>by simp at h,.nil)) λ_ _ _ _ _ _ h _ ih kts e q=>by
  let(e1,e2):=Dd.mp e;let(k,y,k0,r0,U,ek,er,U):=yF q;let(ps,kvs,U,hl,ht,hk):=ih e2 er;let(a,ws,U,ha,P):=h.tup;cases P with
  |@cons w1 _ _ _ G1 G2 z g =>
   cases g with
   |@cons w2 _ _ _ G3 G4 h2 h3 =>
    cases h3;let e3:=z.key ek;subst e3;let(z1,Q):=Dd.mp e1;rw[sQ]at Q;subst z1 Q;refine(a::ps,(k0,w2)::kvs,U,by simp[hl],λi b kv h1 h2=>?_,.cons h2 hk)
    cases i with
    |zero =>
     simp at h1 h2;subst h1 h2;exact ha
    |succ i=>exact ht i b kv (by simpa using h1) (by simpa using h2)
theorem aN.aP{kvs':List (Key×V)}{kts':List (Key×T)}{kvs:List (Key×V)}{kts:List (Key×T)}{F:List J}(h:aN K dl H kvs kts F):F=[]->∀{vs:List (Key×V)}{ts:List (Key×T)},aN K dl H vs ts []->aN K dl H (dr vs kvs) (L2.aP ts kts) [] :=
 h.ind (λ_ _ _ h=>h) λ_ _ _ _ _ _ _ h1 _ g e _ _ h=>by
  let(z,q):=Dd.mp e;subst z;exact g q (aN.put h1 h)
def K6:QC:=λts Q=>on1 ts λt=>match t with
 |.t xs=>T.ims xs=O/\Ex3 (λkts=>fe xs=Z kts) (λkts=>(.d (aP [] kts))) Q
 |.l xs=>T.ims xs=O/\Ex3 (λkts=>fe xs=Z kts) (λkts=>(.d (aP [] kts))) Q
 |_=>False
def kP:n8 K vS K6:=by
 intro dl H vs ts F Q R D r hq k;let go:∀p ws xs,vs=[.ref p]->(H p=Z (.tup ws)\/H p=Z (.lst ws))->aq K dl H ws xs []->(Ex3 (λkts=>fe xs=Z kts) (λkts=>(.d (aP [] kts))) Q)->vS vs H R:=by
  rintro p ws xs rfl hp rs ⟨kts,e,hq⟩
  let(ps,kvs,U,hl,P,V):=rs.pairs U e;refine(p,ps,kvs,U,hp,hl,P,λd hd=>?_)
  let ev:=(Evo.refl D).new (o:=.dK (dr [] kvs)) hd;let h2:=aN.aP (kvs':=[]) (kts':=[]) V U .nil;exact k _ _ [d] _ ev (.d ax (h2.cA (ev.tf D) (λ_ z=>z) bY),λb q=>by rw[ej.mp q];exact D.nd0 hd) (λb q=>by rw[ej.mp q];exact hd) (by simp) hq
 replace hq:=on1.inv hq
 let(t,U,hq):=hq;cases t with
 |t xs =>
  let(v,U,g):=r.one;let(p,ws,U,h1,h2):=g.r.tup;let e:=h2.im hq.1;subst e;exact go p ws _ U (.inl h1) h2 hq.2
 |l xs =>
  let(v,U,g):=r.one;let(p,ws,G,U,_,h1,h2):=g.r.lst;let e:=h2.im hq.1;subst e;exact go p ws _ U (.inr h1) h2 hq.2
 |_=>exact hq.elim
end
variable{j:Nat}{x:Str}{P:Da}{mg:Str->Option B}{base:Do}{fd:Ch}
section
variable{X:Cx}{K:BT}{a b:Ev}{ta tb:TE}{qa qb:QE}{pos:Pos}
def OH(hc:X.calm=O)(hN:X.N.Nodup)(hi:X.N[i]?=Z x)(V:X.N[j]?=Z y)(z:i≠j)
  (hx:BC X x) (Q:BC X y) (ha:QPE X K a ta qa) (P:QPE X K b tb qb)
  (hw:swappedStores [.Tuple [.Name x q,.Name y py] kt pt] (.Tuple [a,b] k2 g) X.env=pure (Z [x,y]))
  (hs:swapsWithSole [.Tuple [.Name x q,.Name y py] kt pt] (.Tuple [a,b] k2 g) pos.line X.env=pure false:=by rfl)
  (h1:kz [a,b] X.env=(ϊ,eval a X.env)::kz [b] X.env:=by rfl) (h2:AC X b []:=by rfl):
  QPS X K (.Assign [.Tuple [.Name x q,.Name y py] kt pt] (.Tuple [a,b] k2 g) pos) (Og i j (di ta (di tb fY))) (RY i j qa qb) :=
 (O0 hc hN hi V z hx Q (bL ha.h (bL P.h eu h2) h1) hw hs,J0 ha.s P.s)
def qZ:PSp:=λts Q=>on2 ts λt u=>match t with
 |.cY=>match u with|.i m=>0<m/\m<18446744073709551616/\∀r,0<=r->r<m->Q (.i r)|_=>False
 |_=>False
theorem gY(F:a8 P w K mg base CX0 k f fd ps FD):a8 P w K mg base CX0 k f fd ps (spQ K qZ):=by
 refine F.imp λvs H Q E h=>?_
 let(dl,ts,Fp,Qp,D,r,h,fin):=h
 replace h:=on2.inv h
 let(t,u,U,h):=h
 split at h
 ·split at h
  ·let(v,w',F1,F2,U,r1,r2):=r.two;let(a,l,U,hm,_):=r1.r.dea;let(U,_):=r2.r.int;refine(a,l,_,U,D _ hm,h.1,h.2.1,λr H' r0 av D' q=>fin _ _ [] H' (λb o e n _=>q b o e (n _ hm).1 (n _ hm).2,λp hp=>?_,λb x e=>(x,E6 _,by
    let(s2,n2,l2,Q2):=D _ hm;exact q b _ e (ij e Q2.hd (λz=>nomatch z)) (ij e Q2.hl (λz=>nomatch z)))) (.c (.i _)) bY mu (h.2.2 r r0 av))
   by_cases e:p=(a,l)
   ·rw[e];exact D'
   ·let(s1,n1,l1,Q1):=D p hp;let(s2,n2,l2,Q2):=D _ hm;let(s3,n3,l3,Q3):=D';let pa:p.1≠a:=λz=>by
     let z1:=Q1.hd;let z2:=Q2.hd;rw[z]at z1;rw[z1]at z2;let z3:=by injection (Option.some.inj z2)
     let z4:=congrArg (λkv=>fN kv (.inr "left")) z3
     exact e (Prod.ext z (V.ref.inj (Option.some.inj z4)))
    let pl:=ij Q1.hd Q2.hl (λz=>nomatch z)
    let aD:=ij Q1.hl Q2.hd (λz=>nomatch z)
    by_cases g:p.2=l
    ·exact(s1,n1,l3,q _ _ Q1.hd pa pl,by rw[g];exact Q3.hl,Q1.s0,Q1.s1,Q1.n0,Q3.l0)
    ·exact(s1,n1,l1,q _ _ Q1.hd pa pl,q _ _ Q1.hl aD g,Q1.s0,Q1.s1,Q1.n0,Q1.l0)
  ·exact h.elim
 ·exact h.elim
end
section
variable{X:Cx}{K:BT}{a b e o:Ev}{tk tv:TE}{qk qv:QE}{pos pos':Pos}
theorem aq.set{dl:Dl}(hw:ay K dl H w t []):∀{vs:List V}{xs:List T}{F:List J}(j:Nat),aq K dl H vs xs F->F=[]->aq K dl H (vs.set j w) (xs.set j t) []
 |_,_,_,_,.nil,_=>.nil
 |_,_,_,0,.cons h r,e=>by
  let(q,g):=Dd.mp e;subst q g;exact .cons hw r
 |_,_,_,j+1,.cons h r,e=>by
  let(q,g):=Dd.mp e;subst q g;exact .cons h (aq.set hw j r U)
def FJ(hk:iy K tk qk)(hv:iy K tv qv):kB K (jj tv (Iq (bK i) tk Gg)) (NA i qk qv):=λdl H₀ hs H σ q Dq D (F,r) hq E=>by
 refine hv dl H σ q _ _ r.rd hq λw t F1 H1 Q r1 hq=>?_
 split at hq
 ·rename_i xs ei;let(v,P,rp):=(r.evo Q).g i _ _ ei U;refine(v,P,hk dl H1 σ q _ _ (r.rd.evo Q) hq λy u F2 H2 e2 r2 hq=>?_)
  split at hq
  ·let(j,hj,hm,ht,hq):=hq;let(U,_):=r2.r.int;obtain rfl:=r1.r.im ht;let V:=rp.evo Q.d e2;let(p,vs,G,U,eF,h1,h2):=V.r.lst;let eG:=h2.im hm;subst eG;exact(p,vs,_,j,U,U,h1,by rw[h2.len];exact hj,(E.nx _ _ _ (r.qS ei P eF (Q.trans e2) (aq.set (r1.evo Q.d e2).r j h2 U) mu bY) hq))
  ·exact hq.elim
 ·exact hq.elim
def Kv(ho:PE X o (bK i))(q:QPE X K a tk qk)(hv:QPE X K b tv qv)(hs:swapsWithSole [.Subscript o a pos'] b pos.line X.env=pure false:=by rfl)(hw:swappedStores [.Subscript o a pos'] b X.env=pure none:=by rfl)
  (h1:(assignEach [.Subscript o a pos'] X.env).map (·.2)=[assign (.Subscript o a pos') X.env]:=by rfl)
  (ha:∀v,assign (.Subscript o a pos') X.env v=(do
   let g <- holding [v] (eval o X.env)
   let iv <- holding [v,g] (eval a X.env)
   standAt pos'
   holding [v,g,iv] (setItem g iv v)
   release [v,g,iv] []):=by intro _;rfl):QPS X K (.Assign [.Subscript o a pos'] b pos) (jj tv (Iq (bK i) tk Gg)) (NA i qk qv) :=
 (v8 hv.h (G7 ho q.h set_list ha) hs hw h1,FJ q.s hv.s)
end
variable{elts:List Ev}{pos':Pos}{t1:Bool}{t2:Bool}
section
variable{X:Cx}{K:BT}{dl:Dl}
def lH(xs ys:List T):List T:=(xs.zip ys).map λp=>.t [p.1,p.2]
def vj{i:Nat}(h:(lH xs ys)[i]?=Z z):∃x y,xs[i]?=Z x/\ys[i]?=Z y/\z=.t [x,y]:=by
 unfold lH at h;rw[j5]at h;let(p,hp,U):=j7.mp h;rw[Fs]at hp;exact(p.1,p.2,hp.1,hp.2,U)
def jq:(lH xs ys).length=min xs.length ys.length:=by simp[lH]
def PX:uu K dl (Itz K O O a b) (lH xs ys) [(.ref a,.t xs),(.ref b,.t ys)] where
 go:=λH i D h hi=>by
  let(F,r):=h (.ref a,.t xs) (by simp)
  let(F',Q):=h (.ref b,.t ys) (by simp)
  let(p,vs,e,h1,h2):=r.r.tup;cases e;let(p',vs',e',P,g):=Q.r.tup;cases e';rw[jq]at hi;let l1:i<vs.length:=by rw[h2.len];lia
  let l2:i<vs'.length:=by rw[g.len];lia
  exact(vs,vs',vs[i],vs'[i],SqT.of h1,SqT.of P,by simp[l1],by simp[l2])
 yld:=λH i x fp v H' D h hx y=>by
  let r:=h (.ref a,.t xs) (by simp)
  let Q:=h (.ref b,.t ys) (by simp)
  let(p,vs,e,h1,h2):=r.r.tup;cases e;let(p',vs',e',P,g):=Q.r.tup;cases e';let(x1,y1,aS,aQ,U):=vj hx;let(w1,G1,a4,aM,aD):=h2.get aS;let(w2,G2,a3,aI,av):=g.get aQ;let(q,u1,u2,hq,U,U,aH,aE):=y;let e1:=aH vs (SqT.of h1);rw[a4]at e1;cases e1;let e2:=aE vs' (SqT.of P);rw[a3]at e2;cases e2;let rs:=Rps.cons (aM,λb V=>r.n b (aD b V)) (Rps.cons (aI,λb V=>Q.n b (av b V)) (.nil,bY))
  refine((Evo.refl D).new hq,_,rs.tup D hq,λc V=>.inr ?_)
  rw[sQ]at V;obtain z|z:=p7.mp V
  ·exact(_,by simp,aD c z)
  ·exact((.ref b,.t ys),by simp,av c z)
 stop:=λH D h=>by
  let(F,r):=h (.ref a,.t xs) (by simp)
  let(F',Q):=h (.ref b,.t ys) (by simp)
  let(p,vs,e,h1,h2):=r.r.tup;cases e;let(p',vs',e',P,g):=Q.r.tup;cases e';refine(vs,vs',SqT.of h1,SqT.of P,?_);rw[jq,h2.len,g.len]
  lia
variable{a b:Ev}{ta:TE}{pos p:Pos}
def Ln{ta:TA}(z:X.K=K)(hg:Gl X "zip")(hm:X.mg "zip"=Y)(P:bootBuiltins "zip"=Z (.type "zip"))(ha:PA X [a,b] ta)(hs:kz [a,b] X.env=[(ϊ,eval a X.env),(ϊ,eval b X.env)])(g:AD X b):
  PI X (.Tuple elts q pos') (.Call (.Name "zip" p) [a,b] [] pos) (P5 K t1 t2 ta):=by subst z;exact Pd hg hm P ha hs g
end
variable{H2:Hp}
section
variable{X:Cx}{K:BT}{e a b:Ev}{tl:TA}{ql:QA}{pos p cq p2:Pos}{dl:Dl}
def yp(ql:QA):QE:=λq Q=>ql q λts=>on2 ts λt u=>match t with|.t xs=>(match u with|.t ys=>T.ims xs=O/\T.ims ys=O/\Q (.l (lH xs ys))|_=>False)|_=>False
def DS(h:aq K dl H2 vs xs F):F=[]->∀{ws:List V}{ys:List T}{G:List J},aq K dl H2 ws ys G->G=[]->∀{ps:List J},ps.length=min vs.length ws.length ->
  (∀(j:Nat) p x y,ps[j]?=Z p->vs[j]?=Z x->ws[j]?=Z y->H2 p=Z (.tup [x,y]))->aq K dl H2 (ps.map V.ref) (lH xs ys) [] :=
 h.ind (λ_ _ _ _ _ _ ps hl _=>by
   let e:=Nh.mp (by rw[hl];exact Nat.zero_min _)
   subst e;exact .nil) λv x vs xs F G h _ q e ws ys G' h' e' ps hl hp=>by
  let(e1,Q):=Dd.mp e;subst e1;cases h' with
  |nil =>
   let e:=Nh.mp (by rw[hl];exact Nat.min_zero _)
   subst e;exact .nil
  |cons h' g =>
   let(P,z):=Dd.mp e';subst P;cases ps with
   |nil=>simp at hl
   |cons p ps =>
    exact aq.cons (.t (hp 0 p _ _ U U U) (aq.cons h (aq.cons h' .nil))) (q Q g z (by simp at hl;omega) λj p x y h1 h2 h3=>hp (j+1) p x y h1 h2 h3)
def x4(ha:zG K 2 tl ql):mT K (qw K tl) (yp ql):=by
 intro dl H σ q Q R rd hq k;refine ha dl H σ q _ _ rd hq λvs ts F H1 P r1 _ g=>?_
 replace g:=on2.inv g
 let(t,u,U,g):=g
 split at g
 ·split at g
  ·let(v,w,F1,F2,U,av,V):=r1.two;let(l1,aD,U,h1,h2):=av.r.tup;let(l2,vs2,U,h3,h4):=V.r.tup;let(i1,i2,g):=g;obtain rfl:=h2.im i1;obtain rfl:=h4.im i2;refine(l1,l2,aD,vs2,U,SqT.of h1,SqT.of h3,λH2 L ps hL hl hn hf hk aE hp=>?_)
   let sm:∀b o,H1 b=Z o->H2 b=Z o:=λb o e=>by
    rw[hk b (λz=>by rw[(hf b z).1]at e;cases e) (λz=>by rw[z,hL]at e;cases e)]
    exact e
   let ev:Evo dl H1 H2:=(λb o e _ _=>sm b o e,λp hp=>(by
    let(s,n,ls,D):=P.d p hp;exact(s,n,ls,sm _ _ D.hd,sm _ _ D.hl,D.s0,D.s1,D.n0,D.l0)),λb x e=>(x,E6 _,sm _ _ e))
   let(_,Vz,z1,b1,c1):=(av.evo P.d ev).r.tup;cases z1;rw[sm _ _ h1]at b1;cases b1;let(_,Vy,z2,b2,c2):=(V.evo P.d ev).r.tup;cases z2;rw[sm _ _ h3]at b2;cases b2;exact k _ _ [L] H2 (P.trans ev) (.l aE (DS c1 U c2 U hl hp),λb hb=>by rw[ej.mp hb];exact P.d.nd0 hL) (λb hb=>by rw[ej.mp hb];exact P.free hL) (by simp) g
  ·exact g.elim
 ·exact g.elim
def Ay(V:X.K=K)(hg:Gl X "list")(hm:X.mg "list"=Y)(P:Gl X "zip")(z:X.mg "zip"=Y)(ha:QPA X K [a,b] tl ql)
  (hs:kz [a,b] X.env=[(ϊ,eval a X.env),(ϊ,eval b X.env)]:=by rfl) (q:AD X b:=by rfl)
  (g:kz [.Call (.Name "zip" p2) [a,b] [] cq] X.env=(ϊ,eval (.Call (.Name "zip" p2) [a,b] [] cq) X.env)::kz [] X.env:=by rfl) (Q:X.calm=true:=by rfl):
  QPF X K (.Call (.Name "list" p) [.Call (.Name "zip" p2) [a,b] [] cq] [] pos) (qw K tl) (yp ql):=(by subst V;exact AR hg hm P z ha.h hs q g Q,x4 ha.s)
end
inductive qD(K:BT)(vs:List V)(H:Hp)(Q:VK)(_:XK):Prop
 |mk(a:J)(ns:List Int)(h1:vs=[.ref a])(h2:FzL K H a (ns.map V.int))(h3:ns.length<=63)(h4:∀H',Q (.bl O) H')
theorem Tn{K:BT}(h:Nf H)(g:SqL K H a xs):FzL K H a xs:=by
 obtain(z |⟨o,z⟩)|z:=g
 ·obtain e |⟨o,ys,e⟩:=h a
  ·rw[e]at z;cases z
  ·rw[e]at z;cases z
 ·exact .inl (o,z)
 ·exact .inr z
variable{H':Hp}
theorem FzL.same{K:BT}(h:FzL K H a xs)(s:lu H H'):FzL K H' a xs:=by
 obtain⟨o,z⟩|z:=h
 ·exact .inl (o,s _ _ z)
 ·exact .inr z
variable{qual:Str}{N:List Str}{n:Nat}
theorem Fun.UH{K:BT}{st:EQ}(F:Fun K x qual st f fd)(S:aA N ["_law_script"] (ao st))(hN:N.length=n+2)(g:cf st=s1::rest)
  (jM:∀(cdv:B)(A:Db)(outer:List Env)(s:ϋ)(H:Hp)(E:XK),cy k (A.deeper (envOfC qual (ao st) s.heap.objs.size f cdv)) ->
   ∃t1 t qs,PS (so CX0 P w K mg base N qual (ao st) f cdv A outer s H E).nox s1 t1/\oh (so CX0 P w K mg base N qual (ao st) f cdv A outer s H E).nox K rest t qs /\
    (∀(a:J)(ns:List Int)(D:Ends),SqL K H a (ns.map V.int)->ns.length<=63->(∀(d l:J)(H':Hp),H d=Y->H l=Y->mX H' d l->lu H H'->D.nx ([Z (.ref a),Z (.ref d)]++BA n Y) H')->t1 D ([Z (.ref a),Y]++BA n Y) H) /\
    ∀ns:List Int,ns.length<=63->qs {nx:=λ_=>False,rt:=λt=>t=.b O} ([.r (.z ns),.r .cY]++BA n .no)):a8 P w K mg base CX0 (k+1) f fd ["_law_script"] (qD K):=by
 refine F.ok S (λvs H Q E h=>?_) (λcdv A outer s H vs Q E hr h=>?_)
 ·let(a,ns,U,_):=h;rfl
 ·let(a,ns,U,hS,hlen,k):=h;let(t1,t,qs,h1,q,r1,hq):=jM cdv A outer s H E hr;rw[g];refine(_,cp h1 q.h,?_);let es:start N [V.ref a]=[Z (.ref a),Y]++BA n none:=by
   unfold start;rw[hN];rfl
  rw[es];refine r1 a ns _ hS.sq hlen λd l H' hd hl D1 sm=>?_
  let Dq:Dls [(d,l)] H':=λp hp=>by rw[ej.mp hp];exact D1
  let rp:Rps K [(d,l)] H' [.ref a,.ref d] [.z ns,.cY] ([]++([] ++ [])):=(.cons (.z (hS.same sm)) (.cons (.x (l:=l) (ej.mpr U)) .nil),bY)
  let R:=uD (n:=n+2) Dq rp (by simp)
  refine q.s [(d,l)] H' [] H' _ _ _ _ R (hq ns hlen) (λ_ _ _ _ z=>z.elim,λ_ _ _ _ z=>z.elim,λ_ _ _ _ z=>z.elim,λv t F H2 _ r' _ _ _ hz=>?_,λ_ _ _ _ _ _ _ _ _ _ _ _ z=>z.elim)
  subst hz;let(U,_):=r'.r.bl;exact k H2
def vOf:B->V
 |.none=>.non
 |.bool b=>.bl b
 |.int i _=>.int i
 |.str x _=>.str x
 |_=>.ty ""
variable{u:B}
def BK(r:RelV v u)(f:eB v=O):vOf u=v:=by
 cases v with
 |non=>cases r;rfl
 |bl b=>cases r;rfl
 |int i=>let(t,U):=r;rfl
 |str x=>let(t,U):=r;rfl
 |_=>exact absurd (f) qf
variable{us:List B}
def Vals.UD(r:Vals vs us):∀{u:B},u∈us->∃v∈vs,RelV v u:=by
 induction r with
 |nil=>intro u h;cases h
 |cons g _ q =>
  intro u h;obtain e|h:=kf.mp h
  ·subst e;exact(_,g5,g)
  ·let(v,hv,rv):=q h;exact(v,j0 _ hv,rv)
def Vals.Mj(r:Vals vs us)(f:vs.all eB=O):us.map vOf=vs:=by
 induction r with
 |nil=>rfl
 |cons g _ q =>
  rw[W7,sO]at f;rw[xG,BK g f.1,q f.2]
section
variable{X:Cx}{K:BT}{o e:Ev}{apos aS:Pos}{tl te:TE}{ql qe:QE}
def Gn(K:BT):V->List V->Hp->VK->Prop:=λx vs H Q=>∃l xs y j,x=.ref l/\vs=[y]/\SqL K H l xs/\xs.all eB=O/\eB y=O/\xs.findIdx? (λz=>eqV z y)=Z j/\Q (.int (j:Nat)) H
def HE:MtR X "list.index" (Gn X.K):=by
 intro gV s σ H x vs v us Q I rx rv h;let(l,xs,y,j,U,U,hl,fx,fy,hj,q):=h;cases rx;let(u,U,ru):=rv.one;let(its,r,pl,hz):=I.list hl;let((c,dd,dat,sl),ho,hc,n,hd):=pl.isList;subst hc hd;let aD:=by
  rw[<- r.Mj fx,XT]at hj;exact hj
 let(av,hit,P):=Ww.mp aD;let hlen:=r.length;let hn:=iS;refine call_meets PySem.F.slot_list_index (_,ho,U) PySem.F.entry_list_index (PySem.F.args_list_index_2 _ _) (SeqAt.list_indexAt l its.toArray n dd sl u (λv=>eqV (vOf v) y) j (by simpa using av) (by lia) (by simpa using hit) (λm hm V=>?_)) (ho,λz hz=>?_,?_)
 ·have:=P m V
  simpa using this
 ·let(w,hw,g):=r.UD (by simpa using hz)
  let fw:=Fq.mp fx w hw;rw[BK g fw];exact nT g ru fw fy
 ·exact(.int _,H,I.tok _,(_,U),q)
def Uk(ql qe:QE):QE:=λq Q=>ql q λt=>match t with
 |.l xs=>qe q λu=>fls xs=O/\u.fl=O/\Ex3 (λj=>xs.findIdx? (λz=>eqV z.v u.v)=Z j) (λj=>(.i (j:Nat))) Q
 |_=>False
def ED(f:fls xs=O):(xs.map T.v).all eB=true:=by
 rw[WU,Fq];exact λx hx=>wZ (Fq.mp f x hx)
def Gz(ho:QPE X K o tl ql)(he:QPE X K e te qe)(hK:X.K=K:=by rfl)(cL:attributeBase o "index" X.env (eval o X.env)=eval o X.env:=by rfl)
  (iU:At X aS [e]:=by rfl)
  (cK:(apos.endLine==aS.line)=true:=by rfl) (hs:AC X e []:=by rfl) (cG:(backTo aS (kz [] X.env)).any (·.1)=false:=by rfl):
  QPF X K (.Call (.Attribute o "index" apos) [e] [] aS) (tBM K "list" (Gn K) tl (di te fY)) (Uk ql qe) :=
 (by subst hK;exact rF PySem.F.plainAttrs_list PySem.F.slot_list_index PySem.F.type_list_index HE ho.h (bL he.h eu hs) cL iU cK hs cG,λdl H σ q Q R rd hq k=>ho.s dl H σ q _ _ rd hq λv t F H1 e1 r1 hq=>by
  split at hq
  ·let(p,vs,G,U,eF,h1,h2):=r1.r.lst;refine(.inl (U,vs,SqL.of h1),he.s dl H1 σ q _ _ (rd.evo e1) hq λy u F2 H2 e2 r2 g=>?_)
   let(f1,f2,j,hj,hq):=g;let rp:=r1.evo e1.d e2;let(p',vs',G',e',av,V,P):=rp.r.lst;cases e';let(ev,_):=P.vs f1;let(ey,_):=r2.r.v f2;subst ev ey;exact(p,_,_,j,U,U,SqL.of V,ED f1,wZ f2,by rw[XT];exact hj,(k _ _ [] H2 (e1.trans e2) (.c (.i _)) bY mu hq))
  ·exact hq.elim)
end
variable{tp:Bool}{p1:Pos}{p2:Pos}{cq:Pos}
section
variable{X:Cx}{K:BT}{dl:Dl}
def jO(xs:List T):List T:=xs.zipIdx.map λp=>.t [.i (p.2:Nat),p.1]
def jN{z:T}(h:(jO xs)[i]?=Z z):∃x,xs[i]?=Z x/\z=.t [.i (i:Nat),x]:=by
 unfold jO at h;rw[j5]at h;let(p,hp,U):=j7.mp h;rw[List.getElem?_zipIdx]at hp;let(x,hx,U):=j7.mp hp;exact(x,hx,by simp)
def dU:(jO xs).length=xs.length:=by simp[jO]
def Cz:uu K dl (Ite K O a) (jO xs) [(.ref a,.t xs)] where
 go:=λH i D h hi=>by
  let(F,r):=h (.ref a,.t xs) (by simp)
  let(p,vs,e,h1,h2):=r.r.tup;cases e;rw[dU]at hi;let l1:i<vs.length:=by rw[h2.len];omega
  exact(vs,vs[i],SqT.of h1,by simp[l1])
 yld:=λH i x fp v H' D h hx y=>by
  let r:=h (.ref a,.t xs) (by simp)
  let(p,vs,e,h1,h2):=r.r.tup;cases e;let(x1,av,U):=jN hx;let(w1,G1,aD,V,g):=h2.get av;let(q,u1,hq,U,U,Q):=y;let e1:=Q vs (SqT.of h1);rw[aD]at e1;cases e1;let rs:Rps K dl H [.int (i),w1] [.i (i),x1] ([]++(G1 ++ [])):=Rps.cons (.i _,bY) (Rps.cons (V,λb P=>r.n b (g b P)) (.nil,bY))
  refine((Evo.refl D).new hq,_,rs.tup D hq,λc P=>.inr ?_)
  rw[sQ]at P;exact(_,by simp,g c P)
 stop:=λH D h=>by
  let(F,r):=h (.ref a,.t xs) (by simp)
  let(p,vs,e,h1,h2):=r.r.tup;cases e;exact(vs,SqT.of h1,by rw[dU,h2.len];exact mW _)
variable{e a b:Ev}{te ta:TE}{qe:QE}{tl:TA}{ql:QA}{pos p:Pos}
def Vk(ql:QA):QI:=λq Q=>ql q λts=>match ts with|[.t xs]=>Q (jO xs)|_=>False
def rh{ta:TA}(q:X.K=K)(hg:Gl X "enumerate")(hm:X.mg "enumerate"=Y)(z:bootBuiltins "enumerate"=Z (.type "enumerate"))(ha:PA X [a] ta)(hs:AD X a):
  PI X (.Tuple elts g pos') (.Call (.Name "enumerate" p) [a] [] pos) (zb K tp ta):=by subst q;exact Lo hg hm z ha hs
def KO{V}(hg:Gl X "enumerate")(hm:X.mg "enumerate"=Y)(gu:bootBuiltins "enumerate"=Z (.type "enumerate"))(ha:QPA X K [a] tl ql)(hs:AD X a:=by rfl)(hK:X.K=K:=by rfl):
  QPI X K (.Tuple elts V pos') (.Call (.Name "enumerate" p) [a] [] pos) (zb K O tl) (Vk ql):=(rh hK hg hm gu ha.h hs,λdl H σ q Q R rd hq k=>ha.s dl H σ q _ _ rd hq λvs ts F H' e1 r _ z=>by
 split at z
 ·let(v,U,P):=r.one;let(l1,g,U,h1,h2):=P.r.tup;exact(l1,U,(g,SqT.of h1),k _ _ _ H' e1 Cz (λp hp=>by rw[ej.mp hp];exact(_,P)) z)
 ·exact z.elim)
def R6(qe:QE):QE:=λq Q=>qe q λt=>match t with|.t xs=>T.ims xs=O/\Q (.l xs.reverse)|_=>False
def aq.snoc(hv:ay K dl H v t []){vs:List V}(h:aq K dl H vs ts F):F=[]->aq K dl H (vs ++ [v]) (ts ++ [t]) [] :=
 h.ind (λ_=>.cons hv .nil) λ_ _ _ _ _ _ h _ g e=>by
  let(z,q):=Dd.mp e;subst z;exact .cons h (g q)
def aq.rev{vs:List V}(h:aq K dl H vs ts F):F=[]->aq K dl H vs.reverse ts.reverse [] :=
 h.ind (λ_=>.nil) λ_ _ _ _ _ _ h _ g e=>by
  let(z,q):=Dd.mp e;subst z;rw[VE,VE];exact aq.snoc h (g q) U
def wu(hK:X.K=K)(hc:X.calm=O)(V:Gl X "list")(P:X.mg "list"=Y)(Q:Gl X "reversed")(z:X.mg "reversed"=Y)(he:PE X e te)
  (q:AD X e) (g:kz [.Call (.Name "reversed" p2) [e] [] cq] X.env=[(ϊ,eval (.Call (.Name "reversed" p2) [e] [] cq) X.env)]):
  PE X (.Call (.Name "list" p1) [.Call (.Name "reversed" p2) [e] [] cq] [] pos) (m8 K te):=by subst hK;exact yC hc V P Q z he q g
def yk(hc:X.calm=O)(aH:Gl X "list")(aD:X.mg "list"=Y)(aE:Gl X "reversed")(av:X.mg "reversed"=Y)(he:QPE X K e te qe)
  (V:AD X e:=by rfl) (P:kz [.Call (.Name "reversed" p2) [e] [] cq] X.env=[(ϊ,eval (.Call (.Name "reversed" p2) [e] [] cq) X.env)]:=by rfl) (hK:X.K=K:=by rfl):
  QPF X K (.Call (.Name "list" p1) [.Call (.Name "reversed" p2) [e] [] cq] [] pos) (m8 K te) (R6 qe) :=
 (wu hK hc aH aD aE av he.h V P,λdl H σ q Q R rd hq k=>he.s dl H σ q _ _ rd hq λv t F H1 e1 r g=>by
  split at g
  ·let(i1,g):=g;obtain rfl:=r.r.im i1;let(l,vs,U,h1,h2):=r.r.tup;refine(l,vs,U,SqT.of h1,λp hp=>?_)
   let rs:Rps K dl H1 vs.reverse _ []:=(h2.rev U,bY)
   exact k _ _ [p] _ (e1.new hp) (rs.lst e1.d hp) (λb hb=>by rw[ej.mp hb];exact e1.free hp) (by simp) g
  ·exact g.elim)
inductive Nw(x:V)(vs:List V)(H:Hp)(Q:VK):Prop
 |mk(a p:J)(ps:List J)(kvs more:List (Key×V))(h1:x=.ref a)(h2:vs=[.ref p])(h3:H a=Z (.dK kvs))(h4:H p=Z (.lst (ps.map V.ref)))(h5:ps.length=more.length)(h6:(∀(i:Nat)(b:J)(kv:Key×V),ps[i]?=Z b->more[i]?=Z kv->H b=Z (.tup [kV kv.1,kv.2])))(h7:kvs.length+more.length<=mV)(h8:Q .non (upd H a (.dK (dr kvs more))))
def HF(hc:X.calm=O):MtR X "dict.update" Nw:=by
 intro gV s σ H x vs v us Q I rx rv h;let(a,p,ps,kvs,more,U,U,ha,hp,hl,P,hz,q):=h;cases rx;let(u,U,ru):=rv.one;cases ru;let hh:=I.ok.hd hc;let(z1,aD,aE,r1,d1):=IB I.hok ha;let(aH,its,n,g,e):=(I.hok p _ hp);let(pairs,kv,Bh):=yE I g hl P;let av:=g.length;rw[dz]at av;let aI:=Paired.length kv;let l1:=Paired.length r1;let V:=ij hp ha (λz=>nomatch z)
 refine call_meetsIn PySem.F.slot_dict_update d1.typeIs PySem.F.entry_dict_update (PySem.F.args_dict_update_2 _ _) (S:=λA R s'=>s'=s/\A=X.A/\R=wants (EP X gV σ Q) X.xe) (λA R s' (e1,e2,e3)=>?_) (U,U,U)
 subst e1 e2 e3;refine cO ?_;refine cO (wpAny_notOrdered_dict d1.typeIs ?_);refine k4 ?_;refine hU (pairs:=pairs) hh d1 V (_,n,e,U,U,.inr U) (by lia) (by rw[p5];lia) (λi v hv=>?_) λh' tk hk hd=>?_
 ·let(b,ob,key,val,k,m,e1,e2,e3,e4,e5,e6):=Bh i v (by simpa using hv)
  exact(b,ob,key,val,k,m,e1,e2,e3,e4,e5,e6)
 ·refine(.non,_,?_,U,q);let K:=u4 (dw more kvs) hz;let he:∃q,h'.get? a=Z q:=let(q,_,_,hq,_):=hd;(q,hq)
  exact I.write (by rw[ha];exact True.intro) (.inl U) (λb q hb z=>hk b q hb z) he (nU K aD (KV.merge kv r1) hd)
end
variable{d:J}{l:J}
section
variable{K:BT}{dl:Dl}{v:V}{F:List J}
def ay.Vc(h:ay K dl H v (.fd o vs ts) F):∃a,v=.ref a/\F=[]/\H a=Z (.frz o (.dK vs))/\aN K dl H vs ts []:=by cases h with|fd h r=>exact(_,rfl,rfl,h,r)
variable{a:Ev}
def mX.oth{a:J}(D:mX H d l)(h1:a≠d)(h2:a≠l):mX (upd H a o) d l:=by
 let(s,n,ls,Q):=D;exact(s,n,ls,by rw[ak h1.symm];exact Q.hd,by rw[ak h2.symm];exact Q.hl,Q.s0,Q.s1,Q.n0,Q.l0)
end
section
variable{K:BT}{dl:Dl}{F:List J}
theorem aq.lookup:∀{ns:List Str}{vs:List V}{ts:List T}{F:List J}{u:T},aq K dl H vs ts F->(ns.zip ts).lookup f=Z u->∃w G,(ns.zip vs).lookup f=Z w/\ay K dl H w u G/\∀b∈G,b∈F
 |[],_,_,_,_,_,h=>by simp at h
 |_::_,_,_,_,_,.nil,h=>by simp at h
 |n::ns,_,_,_,u,.cons h1 r,h=>by
  rw[WX,vr]at h ⊢;cases e:(f==n)with
  |true =>
   rw[e]at h;cases h;exact(_,_,U,h1,λb g=>qr _ g)
  |false =>
   rw[e]at h;let(w,G,a1,a2,q):=aq.lookup r h;exact(w,G,a1,a2,λb g=>p6 _ (q b g))
end
section
variable{X:Cx}{K:BT}{dl:Dl}{a b:Ev}{ta tb:TE}{qa qb:QE}{pos:Pos}
def Ui(qa qb:QE):QE:=λq Q=>qa q λt=>qb q λu=>match t,u with
 |.l xs,.i k=>Ex2 (λx=>atI xs k=Z x) Q
 |_,_=>False
def jC(ha:QPF X K a ta qa)(hb:QPE X K b tb qb)(hs:i7 b:=by intro _ _;rfl)(hK:X.K=K:=by rfl):QPF X K (.Subscript a b pos) (tOp (rIx K) ta tb) (Ui qa qb):=by
 refine(by subst hK;exact rD wQ ha.h hb.h hs,λdl H σ q Q R rd hq k=>(ha.s dl H σ q _ _ rd hq λv t F H1 e1 P f1 n1 V=>(hb.s dl H1 σ q _ _ (rd.evo e1) V λw u G H2 e2 r2 g=>?_)))
 let P:=P.evo e1.d e2
 split at g
 ·let(U,U):=r2.r.int;let(p,vs,G,U,U,h1,h2):=P.r.lst;let(z,hz,hq):=g;let(j,hj,hi):=mQ hz h2.len.symm;let(v,G',hv,rv,hs):=h2.Qg hj;let sub:∀c∈G',c∈p::G:=λc hc=>j0 _ (hs.subset hc)
  exact .inl (p,vs,_,v,U,U,SqL.of h1,nZ hi hv,k v z G' H2 (e1.trans e2) (Rp.sub rv P.n sub) (λc hc=>f1 c (sub c hc)) ((sP.mp n1).2.sublist hs) hq)
 ·exact g.elim
end
section
variable{X:Cx}{K:BT}{dl:Dl}{a e:Ev}{te:TE}{qe:QE}{tl:TA}{ql:QA}{pos p:Pos}
def TL(ql:QA):QJ:=λq Q=>ql q λts=>match ts with|[.t xs]=>T.ims xs=O/\Q (jO xs) q|_=>False
def KN{x1}(hg:Gl X "enumerate")(hm:X.mg "enumerate"=Y)(gu:bootBuiltins "enumerate"=Z (.type "enumerate"))(ha:QPA X K [a] tl ql)(hs:AD X a:=by rfl)(hK:X.K=K:=by rfl):
  QPJ X K (.Tuple elts x1 pos') (.Call (.Name "enumerate" p) [a] [] pos) (zb K O tl) (TL ql):=(rh hK hg hm gu ha.h hs,λdl H₀ hs H σ q Q R (F0,r0) hq k=>ha.s dl H σ q _ _ r0.rd hq λvs ts F H' e1 r _ g=>by
 split at g
 ·let(i1,g):=g;let(v,U,V):=r.one;obtain rfl:=V.r.im i1;let q1:=(r0.evo e1).hold V λj u hj b hb z=>nomatch z
  let(l1,P,U,h1,h2):=V.r.tup;exact(l1,U,(P,SqT.of h1),k _ _ _ H' q (F0,q1) Cz g)
 ·exact g.elim)
def OS(qe:QE):QE:=λq Q=>qe q λt=>match t with|.l xs=>T.ims xs=O/\Q (.l xs.reverse)|_=>False
def yD(hK:X.K=K)(hc:X.calm=O)(V:Gl X "list")(P:X.mg "list"=Y)(Q:Gl X "reversed")(z:X.mg "reversed"=Y)(he:PE X e te)
  (q:AD X e) (g:kz [.Call (.Name "reversed" p2) [e] [] cq] X.env=[(ϊ,eval (.Call (.Name "reversed" p2) [e] [] cq) X.env)]):
  PE X (.Call (.Name "list" p1) [.Call (.Name "reversed" p2) [e] [] cq] [] pos) (qy K te):=by subst hK;exact rC hc V P Q z he q g
def ym(hc:X.calm=O)(aH:Gl X "list")(aD:X.mg "list"=Y)(aE:Gl X "reversed")(av:X.mg "reversed"=Y)(he:QPE X K e te qe)
  (V:AD X e:=by rfl) (P:kz [.Call (.Name "reversed" p2) [e] [] cq] X.env=[(ϊ,eval (.Call (.Name "reversed" p2) [e] [] cq) X.env)]:=by rfl) (hK:X.K=K:=by rfl):
  QPF X K (.Call (.Name "list" p1) [.Call (.Name "reversed" p2) [e] [] cq] [] pos) (qy K te) (OS qe) :=
 (yD hK hc aH aD aE av he.h V P,λdl H σ q Q R rd hq k=>he.s dl H σ q _ _ rd hq λv t F H1 e1 r g=>by
  split at g
  ·let(i1,g):=g;let(l,vs,G,U,U,h1,h2):=r.r.lst;obtain rfl:=h2.im i1;refine(l,vs,U,SqL.of h1,λp hp=>?_)
   let rs:Rps K dl H1 vs.reverse _ []:=(h2.rev U,bY)
   exact k _ _ [p] _ (e1.new hp) (rs.lst e1.d hp) (λb hb=>by rw[ej.mp hb];exact e1.free hp) (by simp) g
  ·exact g.elim)
end
variable{A:Db}
section
variable{K:BT}{dl:Dl}
def ft(h:aq K dl H vs ts F)(hv:vs[j]?=Z v):∃t G,ts[j]?=Z t/\ay K dl H v t G:=by
 let hl:=h.len;let g:j<ts.length:=by rw[<- hl];exact(j3.mp hv).1
 let(w,G,hw,r,_):=h.get (show ts[j]?=Z ts[j]from by simp[g])
 rw[hv]at hw;cases hw;exact(_,G,by simp[g],r)
def CH(hr:cy k A):A.units+150<cLine:=by have:=hr.un;lia
end
section
def TF.dict{kv kw:List (Key×V)}(hp:H p=Z (.dK kv)):TF H (upd H p (.dK kw)) :=
 let ne:∀{a:J}{o:HO},H a=Z o->(∀kv,o ≠ .dK kv)->a≠p:=λh n e=>by rw[e,hp]at h;exact n _ (Option.some.inj h).symm
 (λa vs h=>by rw[ak (ne h λ_ z=>nomatch z)];exact h,λa o u h=>by rw[ak (ne h λ_ z=>nomatch z)];exact h,λa φ h=>by rw[ak (ne h λ_ z=>nomatch z)];exact h,λa xs h=>(xs,by rw[ak (ne h λ_ z=>nomatch z)];exact h),λa x h=>(x,E6 _,by rw[ak (ne h λ_ z=>nomatch z)];exact h))
end
section
variable{X:Cx}{σ:St}{s:ϋ}{x:Int}
def Inv.NM(I:Inv X gV σ H s){u:HO}(ha:H a=Z u)(g:∀o v,u ≠ .frz o v):∀o v,X.H₀ a≠Z (.frz o v):=λo v e=>by
 have:=I.base.k9 a o v e
 rw[ha]at this;exact g o v (Option.some.inj this)
def Inv.Fh(I:Inv X gV σ H s)(ha:H a=Z (.lst [.int x])):Inv X gV σ (upd H a (.room x)) s:=by
 let(_,its,n,r,e):=(I.hok a _ ha);exact I.B5 ha (λ_ z=>nomatch z) (λ_ z=>nomatch z) (λ_ z=>nomatch z) (I.NM ha (λ_ _ z=>nomatch z)) (its,n,r,e)
def Inv.Po(I:Inv X gV σ H s)(ha:H a=Z (.room x)):Inv X gV σ (upd H a (.lst [.int x])) s:=by
 let(its,n,r,e):=(I.hok a _ ha);exact I.B5 ha (λ_ z=>nomatch z) (λ_ z=>nomatch z) (λ_ z=>nomatch z) (I.NM ha (λ_ _ z=>nomatch z)) (by show 1<=mV;decide,its,n,r,e)
end
variable{p3:Pos}
section
variable{X:Cx}{K:BT}{a b e o:Ev}{ta tb te:TE}{qa qb qe:QE}{pos:Pos}
inductive Gk(x:V)(y:V)(H:Hp)(Q:VK):Prop
 |mk(p r)(h1:x=.ref p)(h2:y=.int 0)(h3:H p=Z (.room r))(h4:Q (.int r) H)
def Cw:IxR X Gk:=by
 intro value slice gV s σ H x y v u Q I K z h hs;let(p,m,U,U,hq,q):=h;cases K;let(t,U):=z;let(its,n,r,e):=(I.hok p _ hq);let pl:PlainL s.heap p its.toArray:=(_,n,e,U,U,U);let(w,P,g):=r.get (show [V.int m][0]?=Z (.int m)from U);let fin:EP X gV σ Q w s:=(.int m,H,I,g,q);exact item_listR pl.isList (E6 0) (by decide) (by simpa using P) fin hs
inductive Gf(o:V)(i:V)(v:V)(H:Hp)(Q:(Hp->Prop)):Prop
 |mk(p x y)(h1:o=.ref p)(h2:i=.int 0)(h3:v=.int y)(h4:H p=Z (.room x))(h5:Q (upd H p (.room y)))
def FY:QN X Gf:=by
 intro gV s σ H o i v V iv u Q I K P rv h;let(p,x,y,U,U,U,hp,q):=h;let I1:=I.Po hp;refine thn (set_list gV s σ _ (.ref p) (.int 0) (.int y) V iv u (λH'=>H'=upd H p (.lst [.int y])) I1 K P rv (p,[.int x],0,0,U,U,ax,U,by rw[pC];rfl)) λ_ s' z=>?_
 let(H',I',z):=z;subst z;let g:=I'.Fh ax;rw[pC]at g;exact(_,g,q)
def Nl(te:TE):TE:=λσ H Q=>te σ H λv H1=>∃a x,v=.ref a/\H1 a=Z (.lst [.int x])/\Q v (upd H1 a (.room x))
def Lq(he:PE X e te):PE X e (Nl te):=by
 intro gV s σ H Q I h;refine thn (he gV s σ H _ I h) λu s' g=>?_
 let(v,H',K,r,a,x,P,z,q):=g;exact(v,_,K.Fh z,r,q)
def Evo.fresh{dl:Dl}{a:J}{o:HO}(e:Evo dl H H')(ha:H a=Y)(nd:Nd dl a):Evo dl H (upd H' a o) :=
 (λb u h n r=>by rw[ak (bj h ha)];exact e.k b u h n r,λp hp=>(e.d p hp).oth (nd p hp).1 (nd p hp).2,λb x h=>let(y,g,e'):=e.r b x h;(y,g,by rw[ak (bj h ha)];exact e'))
def RV(qe:QE):QE:=λq Q=>qe q λt=>match t with
 |.l [.i x]=>Q (.rm x)
 |_=>False
def KQ(he:QPF X K e te qe):QPF X K e (Nl te) (RV qe):=(Lq he.h,λdl H σ q Q R rd hq k=>he.s dl H σ q _ _ rd hq λv t F H1 V P f1 n1 g=>by
 split at g
 ·rename_i x;let(p,vs,G,U,U,h1,h2):=P.r.lst;cases h2 with
  |cons h3 h4 =>
   cases h4;let(U,U):=h3.int;exact(p,x,U,h1,k _ (.rm x) [] _ (V.fresh (f1 p g5) (P.n p g5)) (.rm ax (E6 _),bY) bY mu g)
 ·exact g.elim)
def OT:Q2:=λt u Q=>match t,u with
 |.rm m,.i k=>k=0/\∀r,r<=m->Q (.i r)
 |_,_=>False
def J4:EX K Gk OT:=by
 intro dl H x y t u F G Q R D q g hq k;unfold OT at hq
 split at hq
 ·let(p,m,U,h1,h2,_):=q.r.roo;let(U,_):=g.r.int;let(U,hq):=hq;exact(p,m,U,U,h1,k _ (.i m) [] H (.refl D) (.i m,bY) (hq m h2))
 ·exact hq.elim
def KR(ha:QPE X K a ta qa)(g:QPE X K b tb qb)(hs:i7 b:=by intro _ _;rfl):QPE X K (.Subscript a b pos) (tOp Gk ta tb) (qOp OT qa qb):=(rD Cw ha.h g.h hs,qF J4 ha.s g.s)
def AA(i:Nat)(qe:QE):QS:=λD q=>match q[i]? with
 |some x=>match x.get with
  |some (.rm u)=>qe q λt=>match t with
   |.i k=>0<=k/\D.nx (q.set i (.r (.rm (u - k))))
   |_=>False
  |_=>False
 |none=>False
def Nv:R2:=rI0 λi j=>.int (i - j)
def FX{xs:List α}{x:α}(h:xs[i]?=Z x):xs.set i x=xs:=by
 let(hl,e):=j3.mp h;subst e;exact Xk hl
def DI(he:iy K te qe):kB K (jj (tOp Nv (tOp Gk (bK i) (tC (.int 0))) te) (Iq (bK i) (tC (.int 0)) Gf)) (AA i qe):=λdl H₀ hs H σ q Dq D (F,r) hq E=>by
 unfold AA at hq
 split at hq
 ·rename_i x ex
  split at hq
  ·rename_i u eg;let(v,hv,rp):=r.g i x _ ex eg;let(p,m,U,h1,h2,hF):=rp.r.roo;refine(_,hv,p,m,U,U,h1,he dl H σ q _ _ r.rd hq λw t F1 H1 V r1 Q=>?_)
   split at Q
   ·rename_i k;let(hk,Q):=Q;let(U,_):=r1.r.int;let(y,hy,e2):=V.r p m h1;let nd:=r.d.nd h1 (λ_ z=>nomatch z) (λ_ z=>nomatch z)
    refine(m,k,U,U,_,hv,p,y,m - k,U,U,U,e2,?_);let ev:Evo dl H (upd H1 p (.room (m - k))):=by
     refine(λb o P n nr=>?_,λd hd=>(V.d d hd).oth (nd d hd).1 (nd d hd).2,λb z P=>?_)
     ·let ne:b≠p:=λz=>by rw[z,h1]at P;exact nr _ (Option.some.inj P).symm
      rw[ak ne];exact V.k b o P n nr
     ·by_cases eb:b=p
      ·subst eb;rw[h1]at P;cases P;exact(_,Int.sub_le_self _ hk,ax)
      ·let(z',av,e3):=V.r b z P;exact(z',av,by rw[ak eb];exact e3)
    let R2:=(r.evo ev).OX (t:=.rm (u - k)) (j3.mp ex).1 (.rm ax (by lia),bY) (λ_ _ _ _ _ _=>xH)
    rw[FX hv]at R2;exact E.nx _ _ _ (_,R2) Q
   ·exact Q.elim
  ·exact hq.elim
 ·exact hq.elim
def yh{g V Q P:Pos}(ho:PE X (.Name x p1) (bK i))(av:PE X (.Name x p3) (bK i))(he:QPE X K e te qe)
  (hs:swapsWithSole [.Subscript (.Name x p1) (.Constant (.int 0) q g) pos'] (.BinOp (.Subscript (.Name x p3) (.Constant (.int 0) j2 V) Q) .Sub e P) pos.line X.env=pure false:=by rfl) (hw:swappedStores [.Subscript (.Name x p1) (.Constant (.int 0) q g) pos'] (.BinOp (.Subscript (.Name x p3) (.Constant (.int 0) j2 V) Q) .Sub e P) X.env=pure none:=by rfl)
  (h1:(assignEach [.Subscript (.Name x p1) (.Constant (.int 0) q g) pos'] X.env).map (·.2)=[assign (.Subscript (.Name x p1) (.Constant (.int 0) q g) pos') X.env]:=by rfl)
  (ha:∀v,assign (.Subscript (.Name x p1) (.Constant (.int 0) q g) pos') X.env v=(do
   let z <- holding [v] (eval (.Name x p1) X.env)
   let iv <- holding [v,z] (eval (.Constant (.int 0) q g) X.env)
   standAt pos'
   holding [v,z,iv] (setItem z iv v)
   release [v,z,iv] []):=by intro _;rfl):
  QPS X K (.Assign [.Subscript (.Name x p1) (.Constant (.int 0) q g) pos'] (.BinOp (.Subscript (.Name x p3) (.Constant (.int 0) j2 V) Q) .Sub e P) pos) (jj (tOp Nv (tOp Gk (bK i) (tC (.int 0))) te) (Iq (bK i) (tC (.int 0)) Gf)) (AA i qe) :=
 (v8 (cJ AW (rD Cw av bG (λ_ _=>rfl)) he.h) (G7 ho bG FY ha) hs hw h1,DI he.s)
end
def rP(H:Hp)(a:J):Hp:=λb=>if b=a then Y else H b
def k6:rP H a a=none:=if_pos U
def rO(h:b≠a):rP H a b=H b:=if_neg h
inductive spM(K:BT)(j:Nat)(ps:PSp)(vs:List V)(H:Hp)(Q:VK)(_:XK):Prop
 |mk(dl:Dl)(ts:List T)(a:J)(ks:List (Key×T))(Qp:T->Prop)(h1:Dls dl H)(h2:vs.length=ts.length)(h3:vs[j]?=Z (.ref a))(h4:ts[j]?=Z (.dp a ks))(h5:Rp K dl H (.ref a) (.dp a ks) [a])(h6:(∀i v t,i≠j->vs[i]?=Z v->ts[i]?=Z t->Rp K dl H v t []))(h7:ps ts Qp)(h8:∀ks' H',Frm dl (rP H a) H'->Dls dl H'->Rp K dl H' (.ref a) (.dp a ks') [a]->Qp (.dp a ks')->Q .non H')
theorem Aw{K:BT}{dl:Dl}{ts:List T}(D:Dls dl H)(hl:vs.length=ts.length)(hv:vs[j]?=Z (.ref a))(ht:ts[j]?=Z (.dp a ks))(r0:Rp K dl H (.ref a) (.dp a ks) [a])(ro:∀i v t,i≠j->vs[i]?=Z v->ts[i]?=Z t->Rp K dl H v t [])(hj:j<ts.length):Rel K dl (rP H a) [] H (start N vs) ((ts.map Sl.r).set j (.o (.dp a ks))++BA (N.length - ts.length) .no) (λi=>if i=j then [a]else []):=by
 let lk:∀i y,((ts.map Sl.r).set j (.o (.dp a ks))++BA (N.length - ts.length) Sl.no)[i]?=Z y->(i=j/\y=.o (.dp a ks))\/(i≠j/\∃t,ts[i]?=Z t/\y=.r t)\/(ts.length<=i/\y=.no):=λi y h=>by
  by_cases hi:i<ts.length
  ·rw[wh (by simpa using hi)]at h
   obtain⟨Q,q,_⟩|⟨Q,q⟩:=get_set h
   ·exact .inl (Q,q)
   ·rw[j5,eO hi]at q;exact .inr (.inl (Q,ts[i],by simp,(Option.some.inj q).symm))
  ·rw[xD (by simpa using hi),V8]at h
   split at h
   ·exact .inr (.inr (by lia,(Option.some.inj h).symm))
   ·cases h
 let g:∀i v,vs[i]?=Z v->(start N vs)[i]?=Z (Z v):=λi v e=>by
  let hi:=(j3.mp e).1;show(vs.map Z++BA (N.length - vs.length) Y)[i]?=_;rw[wh (by simpa using hi),j5,e]
  rfl
 refine(D,λi y t h1 h2=>?_,λi y h1 h2=>?_,λi hi=>?_,λi t h1=>?_,λp hp=>(by cases hp),(λb o h _ _=>?_,λb x h=>(x,E6 _,?_)),?_)
 ·obtain⟨rfl,rfl⟩|⟨ne,u,e,rfl⟩|⟨_,rfl⟩:=lk i y h1
  ·cases h2;refine(.ref a,g _ _ hv,?_);rw[if_pos rfl];exact r0
  ·cases h2;obtain⟨v,ev⟩:∃v,vs[i]?=Z v:=(vs[i]'(by rw[hl];exact(j3.mp e).1),eO _)
   refine(v,g _ _ ev,?_);rw[if_neg ne];exact ro i v t ne ev e
  ·cases h2
 ·obtain⟨rfl,rfl⟩|⟨ne,u,e,rfl⟩|⟨hi,rfl⟩:=lk i y h1
  ·cases h2
  ·cases h2
  ·exact if_neg (by lia)
 ·refine if_neg ?_;simp at hi
  lia
 ·obtain⟨rfl,e⟩|⟨ne,u,e,z⟩|⟨_,z⟩:=lk i _ h1
  ·refine(by simp,λb P=>?_,λk hk b P=>?_)
   ·simp only[if_pos]at P;rw[ej.mp P];exact k6
   ·simp only[if_neg hk];exact xH
  ·cases z
  ·cases z
 ·by_cases e:b=a
  ·rw[e,k6]at h;cases h
  ·rw[rO e]at h;exact h
 ·by_cases e:b=a
  ·rw[e,k6]at h;cases h
  ·rw[rO e]at h;exact h
 ·show _=(vs.map Z++BA (N.length - vs.length) Y).length;simp[hl]
theorem Fun.okM{K:BT}{st:EQ}(F:Fun K x qual st f fd)(S:aA N ps (ao st))(len:∀ts Q,av ts Q->ts.length=ps.length)
  (jM:∀(cdv:B)(A:Db)(outer:List Env)(s:ϋ)(H:Hp)(E:XK),cy k (A.deeper (envOfC qual (ao st) s.heap.objs.size f cdv)) ->
   ∃t qs,oh (so CX0 P w K mg base N qual (ao st) f cdv A outer s H E).nox K (cf st) t qs/\∀ts Q a ks,av ts Q->ts[j]?=Z (.dp a ks)->qs {nx:=λq=>∃ks',q[j]?=Z (.o (.dp a ks'))/\T.imk ks'=O/\Q (.dp a ks'),rt:=λ_=>False,ru:=λq r=>r=.n/\∃ks',q[j]?=Z (.o (.dp a ks'))/\T.imk ks'=O/\Q (.dp a ks')} ((ts.map Sl.r).set j (.o (.dp a ks))++BA (N.length - ts.length) .no)):a8 P w K mg base CX0 (k+1) f fd ps (spM K j av):=by
 refine F.ok S (λvs H Q E h=>?_) (λcdv A outer s H vs Q E hr h=>?_)
 ·let(dl,ts,a,ks,Qp,_,hl,_,_,_,_,h,_):=h;rw[hl];exact len ts Qp h
 ·let(dl,ts,a,ks,Qp,D,hl,hv,ht,r0,ro,h,fin):=h;let(t,qs,hb,hq):=jM cdv A outer s H E hr;refine(t,hb.h,?_);let z:=hq ts Qp a ks h ht;let hj:=(j3.mp ht).1;let R:=Aw (N:=N) D hl hv ht r0 ro hj;refine hb.s dl (rP H a) [] H _ _ _ _ (_,R) z (λH' σ q hr V=>?_,λ_ _ _ _ V=>V.elim,λ_ _ _ _ V=>V.elim,λ_ _ _ _ _ _ _ _ _ V=>V.elim,λH' σ q F v t' F' r' rv _ _ _ V=>?_)
  ·let(F,r'):=hr;let(ks',e1,aD,V):=V;let(v',_,rp):=r'.g j _ _ e1 U;let(vs',G,U,eF,g1,g2):=rp.r.dpp;obtain rfl:=g2.im aD;rw[eF]at rp;exact fin ks' H' r'.f r'.d rp V
  ·let(U,ks',e1,aD,V):=V;let(U,_):=rv.r.non;let(v',_,rp):=r'.g j _ _ e1 U;let(vs',G,U,eF,g1,g2):=rp.r.dpp;obtain rfl:=g2.im aD;rw[eF]at rp;exact fin ks' H' r'.f r'.d rp V
section
variable{K:BT}{dl:Dl}{H₀:Hp}{hs:List (V×T)}{σ:St}{q:Sq}{F:Nat->List J}
def Rel.t7(r:Rel K dl H₀ hs H σ q F)(hi:q[i]?=Z (.o t))(hv:σ[i]?=Z (Z v))(hF:F i=[a])(ha:∃kvs,H a=Z (.dK kvs))(f:Frm dl (rP H a) H')(D:Dls dl H')(hr:Rp K dl H' v t' [a]):fF K dl H₀ hs H' σ (q.set i (.o t')):=by
 let(kvs,ha):=ha;let ne:∀{b:J}{o:HO},H b=Z o->(∀kv,o ≠ .dK kv)->b≠a:=λh n e=>by rw[e,ha]at h;exact n _ (Option.some.inj h).symm
 let cut:∀{b:J}{o:HO},H b=Z o->b≠a->rP H a b=Z o:=λh n=>by rw[rO n];exact h
 let tf:TF H H':=(λb vs h=>f.k b _ (cut h (ne h λ_ z=>nomatch z)) (r.d.nd h (λ_ z=>nomatch z) λ_ z=>nomatch z) (λ_ z=>nomatch z),λb o u h=>f.k b _ (cut h (ne h λ_ z=>nomatch z)) (r.d.nd h (λ_ z=>nomatch z) λ_ z=>nomatch z) (λ_ z=>nomatch z),
  λb φ h=>f.k b _ (cut h (ne h λ_ z=>nomatch z)) (r.d.nd h (λ_ z=>nomatch z) λ_ z=>nomatch z) (λ_ z=>nomatch z),λb xs h=>(by
  by_cases hn:Nd dl b
  ·exact(xs,f.k b _ (cut h (ne h λ_ z=>nomatch z)) hn (λ_ z=>nomatch z))
  ·obtain⟨p,hp,z⟩:∃p∈dl,¬(b≠p.1/\b≠p.2):=Classical.byContradiction λc=>hn λp hp=>Classical.byContradiction λz=>c (p,hp,z)
   let(s,n,ls,Q):=r.d p hp;let(s',n',ls',Q'):=D p hp;let h1:=ij h Q.hd (λz=>nomatch z)
   let h2:=Classical.byContradiction λz'=>z (h1,z')
   exact(_,by rw[h2];exact Q'.hl)),λb x h=>f.r b x (cut h (ne h λ_ z=>nomatch z)))
 let st:∀{w:V}{u:T}{Fw:List J},Rp K dl H w u Fw->a ∉ Fw->Rp K dl H' w u Fw:=λ{w u Fw} h np =>
  (h.r.cA tf (λ_ z=>z) λb hb o e=>f.k b o (cut e λz=>np (z▸hb)) (h.n b hb) (.of (h.r.there b hb) e),h.n)
 let(o1,o2,o3):=r.o i t hi;refine(F,D,λj x u h1 h2=>?_,λj x h1 h2=>?_,λj P=>r.z j (by rw[QX]at P;exact P),λj u h1=>?_,λp hp=>?_,(λb o h n nr=>?_,λb x h=>?_),by simp[r.l])
 ·obtain⟨rfl,rfl,_⟩|⟨ne',h1⟩:=get_set h1
  ·cases h2;exact(v,hv,by rw[hF];exact hr)
  ·let(w,h3,h4):=r.g j x u h1 h2;exact(w,h3,st h4 (o3 j ne' a (by rw[hF];exact g5)))
 ·obtain⟨rfl,rfl,_⟩|⟨ne',h1⟩:=get_set h1
  ·cases h2
  ·exact r.n j x h1 h2
 ·obtain⟨rfl,e,_⟩|⟨ne',h1⟩:=get_set h1
  ·exact(o1,o2,o3)
  ·exact r.o j u h1
 ·let(Fp,h1,h2):=r.h p hp;refine(Fp,st h1 (h2 i t hi a (by rw[hF];exact g5)),λj u P b hb z=>?_)
  obtain⟨rfl,e,_⟩|⟨ne',P⟩:=get_set P
  ·exact h2 j t hi b hb z
  ·exact h2 j u P b hb z
 ·let n0:b≠a:=λz=>by rw[z,o2 a (by rw[hF];exact g5)]at h;cases h
  exact f.k b o (cut (r.f.k b o h n nr) n0) n nr
 ·let n0:b≠a:=λz=>by rw[z,o2 a (by rw[hF];exact g5)]at h;cases h
  let(y,hy,e1):=r.f.r b x h;let(y',av,e2):=f.r b y (cut e1 n0);exact(y',VN av hy,e2)
end
variable{H₀:Hp}{q:Sq}
section
variable{X:Cx}{K:BT}{e a b o:Ev}{es:List Ev}{te tk tv:TE}{tl:TA}{qe qk qv:QE}{ql:QA}{pos p:Pos}{k:Nat}{f:J}{prs:List Str}{ps:PSp}{i:Nat}
structure Jd(X:Cx)(K:BT)(es:List Ev)(tl:TA)(i j:Nat)(ql:QA):Prop where
 h:PA X es tl
 s:∀(dl:Dl)(H:Hp)(σ:St)(q:Sq)(v0:V)(Q:List T->Prop)(R:List V->Hp->Prop),RdR K dl H σ q->σ[i]?=Z (Z v0)->ql q Q ->
  (∀vs ts H',Evo dl H H'->vs.length=ts.length->vs[j]?=Z v0->(∀n v t,n≠j->vs[n]?=Z v->ts[n]?=Z t->Rp K dl H' v t [])->Q ts->R vs H')->tl σ H R
def aq.im1{dl:Dl}{vs:List V}(h:aq K dl H vs ts F)(g:T.ims ts=O):∀(n:Nat)(v:V)(t:T),vs[n]?=Z v->ts[n]?=Z t->ay K dl H v t []:=by
 obtain rfl:=h.im g;intro n v t h1 h2;let(z,G,q,r,s):=h.Qg h2;rw[h1]at q;cases q;rw[WE.mp s]at r;exact r
def d6(hx:PE X e (bK i))(hr:QPA X K es tl ql)(hs:AC X e es:=by rfl):Jd X K (e::es) (di (bK i) tl) i 0 (λq Q=>ql q λts=>T.ims ts=O/\Q (.n::ts)) :=
 (bL hx hr.h hs,λdl H σ q v0 Q R rd hv hq k=>(v0,hv,hr.s dl H σ q _ _ rd hq λvs ts F H1 V g l1 P=>k _ (.n::ts) H1 V (by simp[g.r.len]) U (λn v t ne h1 h2=>by
  cases n with
  |zero=>exact absurd U ne
  |succ n=>exact(g.r.im1 P.1 n v t (by simpa using h1) (by simpa using h2),bY)) P.2))
def B9(he:QPE X K e te qe)(hr:Jd X K es tl i j ql)(hs:AC X e es:=by rfl):Jd X K (e::es) (di te tl) i (j+1) (λq Q=>qe q λt=>t.im=O/\ql q λts=>Q (t::ts)) :=
 (bL he.h hr.h hs,λdl H σ q v0 Q R rd hv hq k=>he.s dl H σ q _ _ rd hq λv t F H1 g P V=>hr.s dl H1 σ q v0 _ _ (rd.evo g) hv V.2 λvs ts H2 e2 l2 hj ho z=>by
  let r2:=P.evo g.d e2;obtain rfl:=P.r.im V.1;exact k (v::vs) (t::ts) H2 (g.trans e2) (by simp[l2]) (by simpa using hj) (λn w u ne h1 h2=>by
   cases n with
   |zero=>simp at h1 h2;subst h1 h2;exact r2
   |succ n=>exact ho n w u (λz=>ne (by rw[z])) (by simpa using h1) (by simpa using h2)) z)
def NC(i j:Nat)(ps:PSp)(ql:QA):QS:=λD q=>onO q i λt=>match t with
 |.d ks=>T.imk ks=O/\∀a,ql q λts=>ps (ts.set j (.dp a ks)) λt=>match t with
  |.dp _ ks'=>D.nx (q.set i (.o (.d ks')))
  |_=>False
 |.dp a ks=>T.imk ks=O/\ql q λts=>ps (ts.set j (.dp a ks)) λt=>match t with
  |.dp _ ks'=>D.nx (q.set i (.o (.dp a ks')))
  |_=>False
 |_=>False
def GG(i:Nat)(qk qv:QE):QS:=λD q=>match q[i]? with
 |some (.o (.dp a xs))=>qv q λt=>qk q λu=>match u.key with
  |some k=>xs.length<mV/\T.imk xs=O/\t.im=O/\D.nx (q.set i (.o (.dp a (cX xs k t))))
  |none=>False
 |_=>False
def Rel.Kk{dl:Dl}{p:J}(r:Rel K dl H₀ hs H σ q F)(hi:q[i]?=Z (.o (.dp p xs)))(hv:σ[i]?=Z (Z (.ref p)))(e:Evo dl H H')
  (rs:aN K dl H' ws ys []):fF K dl H₀ hs (upd H' p (.dK ws)) σ (q.set i (.o (.dp p ys))):=by
 let r':=r.evo e;let(v',Q,rp):=r'.g i _ _ hi U;rw[hv]at Q;let(vs2,G2,e2,eF,h1,h2):=rp.r.dpp;let pn:=rp.n p (by rw[eF];exact g5)
 let P:aN K dl (upd H' p (.dK ws)) ws ys []:=rs.cA (TF.dict h1) (λ_ z=>z) bY
 exact(_,r'.write hi hv (by rw[eF];exact g5) (λav h=>by rw[h1]at h;cases h) (.dp ax P,λb hb=>by rw[ej.mp hb];exact pn) (by simp) λb hb=>by rw[ej.mp hb,eF];exact .inl g5)
def FK(hk:iy K tk qk)(hv:iy K tv qv):kB K (uC (bK i) tk tv) (GG i qk qv):=λdl H₀ hs H σ q Dq D (F,r) hq E=>by
 unfold GG at hq
 split at hq
 ·rename_i p xs ei;refine hv dl H σ q _ _ r.rd hq λw t F1 H1 P r1 hq=>?_
  let(v,z,rp):=(r.evo P).g i _ _ ei U;refine(v,z,hk dl H1 σ q _ _ (r.rd.evo P) hq λy u F2 H2 V r2 hq=>?_)
  split at hq
  ·rename_i k ek;let(hz,hm,ht,hq):=hq;obtain rfl:=r1.r.im ht;let Q:=rp.evo P.d V;let(vs,G,U,eF,h1,h2):=Q.r.dpp;obtain rfl:=h2.im hm;rw[r2.r.key ek];exact(p,_,U,sW.k h1 (by rw[h2.len];exact hz),E.nx _ _ _ (r.Kk ei z (P.trans V) (aN.put (r1.evo P.d V).r h2)) hq)
  ·exact hq.elim
 ·exact hq.elim
def iI(q:X.A.units+1<cLine)(ho:PE X o (bK i))(g:QPE X K a tk qk)(hv:QPE X K b tv qv)(hs:swapsWith b (Z (.Subscript o a pos')) pos.line X.env=pure false:=by rfl):
  QPS X K (.Assign [.Subscript o a pos'] b pos) (uC (bK i) tk tv) (GG i qk qv):=(ke q ho g.h hv.h hs,FK g.s hv.s)
def FN(ha:Jd X K es tl i j ql):kB K (gD (qz (spM K j ps) [] E0 tl)) (NC i j ps ql):=λdl H₀ hs H σ q Dq D (F,r) hq E=>by
 let go:∀{a:J}{ks:List (Key×T)}{t:T} W (t1:List (Key×T)->T),q[i]?=Z (.o t)->σ[i]?=Z (Z (.ref a))->(∀{H:Hp}{G:List J},ay K dl H (.ref a) t G->ay K dl H (.ref a) (.dp a ks) G)->F i=[a]->(∀{H:Hp}{ks':List (Key×T)},ay K dl H (.ref a) (.dp a ks') [a]->ay K dl H (.ref a) (t1 ks') [a]) ->
   (∀ks',W (.dp a ks')->Dq.nx (q.set i (.o (t1 ks'))))->(ql q λts=>ps (ts.set j (.dp a ks)) W)->gD (qz (spM K j ps) [] E0 tl) D σ H:=by
  intro a ks t W t1 hi hv tr hF ba hW hq;refine ha.s dl H σ q (.ref a) _ _ r.rd hv hq λvs ts H1 e1 l1 hj ho hz=>?_
  let r1:=r.evo e1;let(v',Q,P):=r1.g i _ _ hi U;rw[hv]at Q;cases Q;rw[hF]at P;rw[sQ];let av:j<ts.length:=by rw[<- l1];exact(j3.mp hj).1
  let(kvs,G,_,_,g1,_):=(tr P.r).dpp;exact(dl,ts.set j (.dp a ks),a,ks,W,r1.d,by simp[l1],hj,UA av,(tr P.r,P.n),λn v u ne h1 h2=>ho n v u ne h1 (by rwa [Nk (λz=>ne z.symm)]at h2),hz,λks' H' f D' r' hw=>(E.nx _ _ _ (r1.t7 hi hv hF (_,g1) f D' (ba r'.r,r'.n)) (hW ks' hw)))
 replace hq:=onO.inv hq
 let(t,V,hq):=hq;cases t with
 |d ks =>
  let(v,hv,P):=r.g i _ _ V U;let(a,vs,G,U,eF,h1,h2):=P.r.dic;obtain rfl:=h2.im hq.1;refine go _ (λks'=>.d ks') V hv (λ{H G} z=>?_) eF (λ{H ks'} z=>?_) (λks' z=>z) (hq.2 a)
  ·let(a',vs',G',e1,U,h3,h4):=z.dic;cases e1;exact .dp h3 h4
  ·let(vs',G',e1,e2,h3,h4):=z.dpp;rw[e2];exact .d h3 h4
 |dp a ks =>
  let(v,hv,P):=r.g i _ _ V U;let(vs,G,U,eF,h1,h2):=P.r.dpp;obtain rfl:=h2.im hq.1;exact go _ (λks'=>.dp a ks') V hv (λz=>z) eF (λz=>z) (λks' z=>z) hq.2
 |_=>exact hq.elim
theorem d5(F:a8 X.prog X.w X.K X.mg X.base CX0 k f fd prs (spM K j ps))(hr:cy k X.A)(hg:Gl X x)(hm:X.mg x=Z (.ref f))(z:W.keepIn X.K (.ref f)=O)(P:Binds X.K fd prs [])(ha:Jd X K (e::es) tl i j ql)
  (q:AS x:=by decide) (he:AC X e es:=by rfl) (g:AM X pos es:=by rfl) (hs:swapsWith (.Call (.Name x p) (e::es) [] pos) Y pos'.line X.env=pure false:=by rfl):
  QPS X K (.Expr (.Call (.Name x p) (e::es) [] pos) pos') (gD (qz (spM K j ps) [] E0 tl)) (NC i j ps ql):=(fP (wx F hr hg hm z P .nil kH ha.h q he g) hs,FN ha)
end
def T.dof:T->Option (List (Key×T))
 |.d ks=>Z ks
 |.fd _ _ ks=>Z ks
 |.dp _ ks=>Z ks
 |_=>Y
variable{kvs:List (Key×V)}{neg:Bool}
section
variable{X:Cx}{K:BT}{dl:Dl}{v:V}{F:List J}{a b c e:Ev}{ta tb:TE}{qa qb:QE}{pos:Pos}
theorem ay.dof{t:T}(h:ay K dl H v t F)(e:t.dof=Z ks):∃a vs G,v=.ref a/\Rd H a (.dK vs)/\aN K dl H vs ks G/\∀b∈G,b∈F:=by
 cases t with
 |d ks' =>
  cases e;let(a,vs,G,U,U,h1,h2):=h.dic;exact(a,vs,G,U,.inl h1,h2,λ_ g=>j0 _ g)
 |fd o vs ks' =>
  cases e;let(a,U,U,h1,h2):=h.Vc;exact(a,vs,[],U,.inr (_,h1),h2,λ_ g=>g)
 |dp a ks' =>
  cases e;let(vs,G,U,U,h1,h2):=h.dpp;exact(a,vs,G,U,.inl h1,h2,λ_ g=>j0 _ g)
 |_=>cases e
def hJ.rd{a:J}{k:Key}(e:Rd H a (.dK kvs)):hJ H a (kV k) (fN kvs k):=.inl (kvs,k,e,U,U)
def NF(neg:Bool):Q2:=λt u Q=>match u.dof with
 |some ks=>match t.key with
  |some k=>Q (.b (if neg then !(bI ks k).isSome else(bI ks k).isSome))
  |none=>False
 |none=>False
def FR:c9 K (Ks neg) (NF neg):=by
 intro dl H x y t u F G Q R D r1 V hq k;unfold NF at hq
 split at hq
 ·rename_i ks P
  split at hq
  ·rename_i k0 ek;let(p,vs,G,U,h1,h2,_):=V.r.dof P;rw[r1.r.key ek];refine(p,_,U,hJ.rd h1,k _ _ [] H (.refl D) (.c (.b _)) bY mu ?_)
   let e:(fN vs k0).isSome=(bI ks k0).isSome:=by
    obtain⟨q,g⟩|⟨_,_,_,q,g,_⟩:=h2.look k0
    ·rw[q,g];rfl
    ·rw[q,g];rfl
   rw[e];exact hq
  ·exact hq.elim
 ·exact hq.elim
def GJ:Q2:=λt u Q=>match t.dof with
 |some ks=>match u.key with
  |some k=>Ex2 (λx=>bI ks k=Z x) Q
  |none=>False
 |none=>False
inductive Gm(x:V)(y:V)(H:Hp)(Q:VK):Prop
 |mk(a kvs k v)(h1:x=.ref a)(h2:y=kV k)(h3:Rd H a (.dK kvs))(h4:fN kvs k=Z v)(h5:Q v H)
def HV:IxR X Gm:=by
 intro value slice gV s σ H x y v u Q I P K h hs;let(a,kvs,k,w,U,U,ha,hv,q):=h;cases P;let(z,hd,vs,rel,dd):=jP I.hok ha;let(V,hw,g):=iz.some_of (by rw[<- hv];exact rel.val k)
 exact subscriptTail_builtinR dd.typeIs PySem.F.slot_dict_getitem.lookup (wpAny_getItem_of (jJ K) dd.mapOf hw (U,w,H,I.tok _,g,q)) hs
def FO:EX K Gm GJ:=by
 intro dl H x y t u F G Q R D r1 r2 hq k;unfold GJ at hq
 split at hq
 ·rename_i ks P
  split at hq
  ·rename_i k0 ek;let(z,g,hq):=hq;let(p,vs,G,U,h1,h2,sub):=r1.r.dof P;rw[r2.r.key ek];obtain⟨q,V⟩|⟨t',v,G',q,V,z3,z4⟩:=h2.look k0
   ·rw[q]at g;cases g
   ·rw[q]at g;cases g;exact(p,vs,k0,v,U,U,h1,V,k v _ G' H (.refl D) (Rp.sub z3 r1.n λb hb=>sub b (z4 b hb)) hq)
  ·exact hq.elim
 ·exact hq.elim
def bb(ha:QPE X K a ta qa)(g:QPE X K b tb qb)(hs:i7 b:=by intro _ _;rfl):QPE X K (.Subscript a b pos) (tOp Gm ta tb) (qOp GJ qa qb):=(rD HV ha.h g.h hs,qF FO ha.s g.s)
inductive uF(xs:List V)(H:Hp)(Q:VK):Prop
 |mk(p:J)(kvs:List (Key×V))(h1:xs=[.ref p])(h2:Rd H p (.dK kvs))(h3:∀d,H d=Y->Q (.ref d) (upd H d (.dK kvs)))
theorem sA:cF X (.type "dict") uF:=by
 intro gV s σ H xs us Q I r h;let(p,kvs,U,hp,q):=h;let(u,U,ru):=vals1 r;cases ru;let(z,aD,vs,kv,dd):=jP I.hok hp;refine callType_codes (Q₁:=λobj K=>obj=.ref s.heap.objs.size/\K={s with heap:=s.heap.push {cls:=.type "dict",data:=.dict #[]}}) F.kt_called_dict (F.kt_typeCall_dict_1 _) F.entry_dict_init (kt_code_dict_new _ (U,U)) ?_
 rintro obj K ⟨rfl,rfl⟩
 let V:(s.heap.push {cls:=.type "dict",data:=.dict #[]}).DictOf (bB X.prog X.w) s.heap.objs.size []:=Heap.DictOf.new s.heap;let aH:p<s.heap.objs.size:=by
  let(o,_,_,e,_):=dd;exact kE e
 let g:(s.heap.push {cls:=.type "dict",data:=.dict #[]}).DictOf (bB X.prog X.w) p vs:=by
  let(o,es,ep,e,r):=dd;exact(o,es,ep,ja _ e,r)
 let av:(vs.map (·.1)).Nodup:=by
  let(o,es,ep,_,_,_,_,_,n):=dd;exact n
 let aM:=Paired.length kv;refine(V.typeIs,F.args_dict_init_2 _ _,?_);refine cO ?_;refine cO (wpAny_notOrdered_dict V.typeIs ?_);refine k4 ?_;show wpAny _ _ (Builtin.Dict.updateFrom "dict.__init__" s.heap.objs.size (.ref p) [] .none) _ _ _;refine cO (Vx g.typeIs ?_);refine cO ?_;refine cO ?_;refine cO (VM g.typeIs isSubtype_dict_dict ?_);refine cO (Rv g.typeIs F.slot_dict_iter.lookup (k4 ?_));refine wpAny_mergeDict (Jh aH) aD V g λh' P aI aE=>?_
 rw[merged_nil_of_nodup _ av]at P;refine cO (k4 (k4 (U,.ref s.heap.objs.size,_,I.laid (λb u e=>?_) (mW _) (nU z ?_ kv P),U,q _ (I.hok.fresh (mW _)))))
 ·rw[aE.2 b (sR (kE e))];exact ja _ e
 ·have:=I.big
  exact beq_eq_false_iff_ne.mpr (Jh this)
def uL:QC:=λts Q=>match ts with
 |[t]=>match t.dof with
  |some ks=>T.imk ks=O/\Q (.d ks)
  |none=>False
 |_=>False
def vA:n8 K uF uL:=by
 intro dl H vs ts F Q R D r hq k;unfold uL at hq
 split at hq
 ·split at hq
  ·rename_i ks q;let(v,U,P):=r.one;let(p,kvs,G,U,h1,h2,sub):=P.r.dof q;obtain rfl:=h2.im hq.1;refine(p,kvs,U,h1,λd hd=>?_)
   let ev:Evo dl H (upd H d (.dK kvs)):=(Evo.refl D).new hd;exact k _ _ [d] _ ev (.d ax (h2.cA (ev.tf D) (λ_ z=>z) bY),λb g=>by rw[ej.mp g];exact D.nd0 hd) (λb g=>by rw[ej.mp g];exact hd) (by simp) hq.2
  ·exact hq.elim
 ·exact hq.elim
def TF.Ve{kv:List (Key×V)}{o:Obj}{u:HO}(hp:H p=Z (.dK kv)):TF H (upd H p (.frz o u)) :=
 let ne:∀{a:J}{o:HO},H a=Z o->(∀kv,o ≠ .dK kv)->a≠p:=λh n e=>by rw[e,hp]at h;exact n _ (Option.some.inj h).symm
 (λa vs h=>by rw[ak (ne h λ_ z=>nomatch z)];exact h,λa o u h=>by rw[ak (ne h λ_ z=>nomatch z)];exact h,λa φ h=>by rw[ak (ne h λ_ z=>nomatch z)];exact h,λa xs h=>(xs,by rw[ak (ne h λ_ z=>nomatch z)];exact h),λa x h=>(x,E6 _,by rw[ak (ne h λ_ z=>nomatch z)];exact h))
end
section
variable{X:Cx}{K:BT}{st:EQ}{t:TS}{qt:QS}
inductive Fo(i:Nat)(t:TS)(D:Ends)(σ:St)(H:Hp):Prop
 |mk(a kvs:_)(h1:σ[i]?=Z (Z (.ref a)))(h2:H a=Z (.dK kvs))(h3:∀o,t D σ (upd H a (.frz o (.dK kvs))))
def O1(h:PS X st t):PS X st (Fo i t):=by
 intro gV s σ H D I z;let(a,kvs,_,ha,k):=z;let(_,o,g):=I.freeze ha;exact h gV s σ _ D g (k o)
def GL(i:Nat)(qt:QS):QS:=λD q=>match q[i]? with
 |some (.o (.d ks))=>T.imk ks=O/\∀o vs,qt D (q.set i (.o (.fd o vs ks)))
 |_=>False
theorem Rel.frz{dl:Dl}{o:Obj}(r:Rel K dl H₀ hs H σ q F)(ei:q[i]?=Z (.o (.d ks)))(hv:σ[i]?=Z (Z (.ref a)))(eF:F i=[a])(rp:Rp K dl H (.ref a) (.d ks) (F i))(h1:H a=Z (.dK vs))(h2:aN K dl H vs ks []):fF K dl H₀ hs (upd H a (.frz o (.dK vs))) σ (q.set i (.o (.fd o vs ks))):=by
 refine(qJ F i [],?_);let tf:=TF.Ve (o:=o) (u:=.dK vs) h1;let na:=rp.n a (by rw[eF];exact g5)
 let(o1,o2,o3):=r.o i _ ei;let st:∀{w:V}{u:T}{Fw:List J},Rp K dl H w u Fw->a ∉ Fw->Rp K dl (upd H a (.frz o (.dK vs))) w u Fw:=λ{w u Fw} h np =>
  (h.r.cA tf (λ_ z=>z) λb P ob e=>(by
   let n0:b≠a:=λz=>np (by rw[<- z];exact P)
   rw[ak n0];exact e),h.n)
 refine(λd hd=>(r.d d hd).oth (na d hd).1 (na d hd).2,λj x u h3 h4=>?_,λj x h3 h4=>?_,λj Q=>?_,λj u h3=>?_,λp hp=>?_,(λb ob P nb nr=>?_,λb x P=>?_),by simp[r.l])
 ·obtain⟨rfl,rfl,_⟩|⟨ne,h3⟩:=get_set h3
  ·cases h4;exact(_,hv,by rw[aT];exact(.fd ax (h2.cA tf (λ_ z=>z) bY),bY))
  ·let(w,h5,h6):=r.g j x u h3 h4;exact(w,h5,by rw[aC ne];exact st h6 (o3 j ne a (by rw[eF];exact g5)))
 ·obtain⟨rfl,rfl,_⟩|⟨ne,h3⟩:=get_set h3
  ·cases h4
  ·rw[aC ne];exact r.n j x h3 h4
 ·rw[QX]at Q;by_cases e:j=i
  ·rw[e,aT]
  ·rw[aC e];exact r.z j Q
 ·obtain⟨rfl,e,_⟩|⟨ne,h3⟩:=get_set h3
  ·rw[aT];exact(mu,λ_ z=>absurd z xH,λ_ _ _ z=>absurd z xH)
  ·rw[aC ne];let(p1,p2,p3):=r.o j u h3;refine(p1,p2,λk hk b P=>?_)
   by_cases ek:k=i
   ·rw[ek,aT];exact xH
   ·rw[aC ek];exact p3 k hk b P
 ·let(Fp,h3,h4):=r.h p hp;refine(Fp,st h3 (h4 i _ ei a (by rw[eF];exact g5)),λj u Q b P z=>?_)
  obtain⟨rfl,e,_⟩|⟨ne,Q⟩:=get_set Q
  ·rw[aT]at P;cases P
  ·rw[aC ne]at P;exact h4 j u Q b P z
 ·let n0:b≠a:=λz=>by rw[z,o2 a (by rw[eF];exact g5)]at P;cases P
  rw[ak n0];exact r.f.k b ob P nb nr
 ·let n0:b≠a:=λz=>by rw[z,o2 a (by rw[eF];exact g5)]at P;cases P
  rw[ak n0];exact r.f.r b x P
def FQ(h:kB K t qt):kB K (Fo i t) (GL i qt):=λdl H₀ hs H σ q Dq D (F,r) hq E=>by
 unfold GL at hq
 split at hq
 ·rename_i ks P;let(v,hv,z):=r.g i _ _ P U;let(a,vs,G,U,Q,h1,h2):=z.r.dic;obtain rfl:=h2.im hq.1;exact(a,vs,hv,h1,λo=>h dl H₀ hs _ σ _ Dq D (r.frz P hv Q z h1 h2) (hq.2 o vs) E)
 ·exact hq.elim
def Gw(h:QPS X K st t qt):QPS X K st (Fo i t) (GL i qt):=(O1 h.h,FQ h.s)
end
section
variable{X:Cx}{σ:St}{s:ϋ}{u1 u2 v1 v2:HO}{C:J}{fs:List (Str×V)}
def Inv.Gd(I:Inv X gV σ H s)(ne:d≠a)(ha:H a=Z v1)(hd:H d=Z v2)(t1:∀xs,v1 ≠ .tup xs)(t2:∀xs,v2 ≠ .tup xs)(b1:∀ps,v1 ≠ .tbl ps)(b2:∀ps,v2 ≠ .tbl ps)(z1:∀o v,v1 ≠ .frz o v)(V:∀o v,v2 ≠ .frz o v)(w1:∀c,v1 ≠ .own c)(w2:∀c,v2=.own c->c=a)
  (UC:da X.prog X.w (upd (upd H a u1) d u2) s.heap a u1) (UB:da X.prog X.w (upd (upd H a u1) d u2) s.heap d u2):Inv X gV σ (upd (upd H a u1) d u2) s:=by
 let g:∀{b:J}{o:HO},H b=Z o->o≠v1->b≠a:=λe n z=>by rw[z,ha]at e;exact n (Option.some.inj e).symm
 let K:∀{b:J}{o:HO},H b=Z o->o≠v2->b≠d:=λe n z=>by rw[z,hd]at e;exact n (Option.some.inj e).symm
 let n0:∀{b:J},H b=Y->b≠a/\b≠d:=λ{b} e=>(λz=>(by rw[z,ha]at e;cases e),λz=>(by rw[z,hd]at e;cases e))
 let st:∀{b:J},b≠a->b≠d->upd (upd H a u1) d u2 b=H b:=λh1 h2=>by rw[ak h2,ak h1]
 refine(I.ok,I.os,I.bare,(I.base.keep,I.base.slot,λb o e n hx=>?_,I.base.there,λb xs e=>?_,λb o v e=>?_,λb ps e=>?_),I.loc,I.cell,?_,λx c e=>?_,λp hp=>?_,λb o e=>?_,I.len)
 ·have:=I.base.free b o e n hx
  rw[st (n0 this).1 (n0 this).2];exact this
 ·have:=I.base.qj b xs e
  rw[st (g this λz=>t1 _ z.symm) (K this λz=>t2 _ z.symm)]
  exact this
 ·have:=I.base.k9 b o v e
  rw[st (g this λz=>z1 _ _ z.symm) (K this λz=>V _ _ z.symm)]
  exact this
 ·let(more,this):=I.base.qm b ps e;refine(more,?_);rw[st (g this λz=>b1 _ z.symm) (K this λz=>b2 _ z.symm)]
  exact this
 ·rw[st (n0 I.free).1 (n0 I.free).2];exact I.free
 ·rw[st (n0 (I.gx x c e)).1 (n0 (I.gx x c e)).2];exact I.gx x c e
 ·let(p1,p2,p3):=I.pin p hp;exact(p1,by rw[st (n0 p2).1 (n0 p2).2];exact p2,p3)
 ·by_cases P:b=d
  ·subst P;rw[ax]at e;cases e;exact UB
  ·by_cases Q:b=a
   ·subst Q;rw[ak P,ax]at e;cases e;exact UC
   ·rw[st Q P]at e;refine(I.hok b o e).cA (λ_ _ _ q=>q) (λc q=>?_) λc xs q=>?_
    ·rw[st (g q λz=>w1 _ z.symm) (λz=>by rw[z,hd]at q;exact Q (w2 b (Option.some.inj q)))];exact q
    ·rw[st (g q λz=>t1 _ z.symm) (K q λz=>t2 _ z.symm)];exact q
def Inv.Rk(I:Inv X gV σ H s)(ha:H a=Z (.ins C d fs)):d≠a/\fs.length<=1000/\H d=Z (.own a)/\Inv X gV σ (upd (upd H a (.ext (xA a C d))) d (.ext (XD d fs))) s:=by
 let(hd,hl,ne,e,mA,n,r,w):=(I.hok a _ ha);exact(ne,hl,hd,I.Gd ne ha hd (λ_ z=>nomatch z) (λ_ z=>nomatch z) (λ_ z=>nomatch z) (λ_ z=>nomatch z) (λ_ _ z=>nomatch z) (λ_ _ z=>nomatch z) (λ_ z=>nomatch z) (λc z=>by cases z;rfl)
  (e,(_,e),λh1 h2 p k=>k _ p) (XD.ok (mA,n,r,w)))
def Inv.Ut(I:Inv X gV σ H s)(ne:d≠a)(hl:fs.length<=1000)(ha:H a=Z (.ext (xA a C d)))(hd:H d=Z (.ext (XD d fs))):Inv X gV σ (upd (upd H a (.ins C d fs)) d (.own a)) s:=by
 let e:=(I.hok a _ ha).1;let(mA,n,r,w):=(I.hok d _ hd).1;refine I.Gd ne ha hd (λ_ z=>nomatch z) (λ_ z=>nomatch z) (λ_ z=>nomatch z) (λ_ z=>nomatch z) (λ_ _ z=>nomatch z) (λ_ _ z=>nomatch z) (λ_ z=>nomatch z) (λc z=>nomatch z) (ax,hl,ne,e,mA,n,r,w) ?_
 let(o,_,_,e',_):=n;exact(o,e')
end
variable{C:J}{prs:List Str}
section
variable{X:Cx}{K:BT}{e:Ev}{es:List Ev}{te:TE}{qe:QE}{tl:TA}{ql:QA}{pos p:Pos}{f:Str}
def Nr(K:BT)(ta:TE)(f:Str):TE:=λσ H Q=>ta σ H λx H1=>∃a C fs v,x=.ref a/\ObH H1 a C fs/\fs.length<=1000/\Cls K C/\bg K C f/\fs.lookup f=Z v/\Q v H1
def Lx(he:PE X e te)(hb:attributeBase e f X.env (eval e X.env)=eval e X.env):PE X (.Attribute e f pos) (Nr X.K te f):=by
 intro gV s σ H Q I h;refine C8 hb (thn (he gV s σ H _ I h) λu s1 z=>?_)
 let(x,H1,I1,rx,a,C,fs,v,ex,(dx,ne,h1,h2),hl,c,n,l,q):=z;subst ex;obtain rfl:=rx;refine k8 (I1.Ut ne hl h1 h2) (by rw[ak ne.symm,ax]) c n l λu' s2 I2 ru=>(v,H1,?_,ru,q)
 let(_,_,_,V):=I2.Rk (by rw[ak ne.symm,ax])
 let e:upd (upd (upd (upd H1 a (.ins C dx fs)) dx (.own a)) a (.ext (xA a C dx))) dx (.ext (XD dx fs))=H1:=by
  funext b
  by_cases g:b=dx
  ·rw[g,ax,h2]
  ·by_cases P:b=a
   ·rw[ak g,P,ax,h1]
   ·rw[ak g,ak P,ak g,ak P]
 rw[e]at V;exact V
def Sb(C:J)(f:Str)(qe:QE):QE:=λq Q=>qe q λt=>match t with
 |.ob g ns ts=>g=C/\ns.length<=1000/\Ex2 (λx=>(ns.zip ts).lookup f=Z x) Q
 |_=>False
def Ca(hc:Cls K C)(hn:bg K C f)(he:QPE X K e te qe)(z:attributeBase e f X.env (eval e X.env)=eval e X.env:=by rfl)(hK:X.K=K:=by rfl):QPE X K (.Attribute e f pos) (Nr K te f) (Sb C f qe):=(by subst hK;exact Lx he.h z,λdl H σ q Q R rd hq k=>he.s dl H σ q _ _ rd hq λv t F H1 e1 V g=>by
 split at g
 ·let(U,hl,x,hx,g):=g;let(a,vs,U,U,ho,rs):=V.r.obj;let(w,G,e2,P,s2):=rs.lookup hx;refine(a,_,_,w,U,ho,?_,hc,hn,e2,k _ _ G H1 e1 (P,λb z=>nomatch s2 b z) g)
  rw[Ii];exact u4 (Nat.min_le_left _ _) hl
 ·exact g.elim)
inductive Ae(C:J)(ns:List Str)(vs:List V)(H:Hp)(Q:VK)(_:XK):Prop
 |mk(x dx args)(h1:vs=.ref x::args)(h2:args.length=ns.length)(h3:H x=Z (.ins C dx []))(h4:Q .non (upd H x (.ins C dx (ns.zip args))))
def Fl(C:J)(ns:List Str)(t:TA):TE:=λσ H Q=>t σ H λvs H1=>vs.length=ns.length/\∀x dx,H1 x=Y->H1 dx=Y->dx≠x->Q (.ref x) (upd (upd H1 x (.ext (xA x C dx))) dx (.ext (XD dx (ns.zip vs))))
theorem Ha(M:Mk X.K C g)(G:a8 X.prog X.w X.K X.mg X.base CX0 k g fd prs (Ae C ns))(hr:cy (k+1) X.A)(hg:Gl X x)(hm:X.mg x=Z (.ref C))(hb:Binds X.K fd prs [])(ha:PA X (e::es) tl)
  (av:AS x:=by decide) (he:AC X e es:=by rfl) (V:AM X pos es:=by rfl):
  PE X (.Call (.Name x p) (e::es) [] pos) (Fl C ns tl):=by
 intro gV s σ H Q I h;refine QR (pP I hg hm (W.callWith_K (h₀:=X.base) I.ok.mod.kin M.kp (thn (ha pos gV s σ H _ I h) λus s1 (vs,H1,I1,r,q)=>(I1.kIn,(thn (yc (Q:=λv H2=>∃a dx fs,v=.ref a/\H2 a=Z (.ins C dx fs)/\Q v (upd (upd H2 a (.ext (xA a C dx))) dx (.ext (XD dx fs)))) M G hr hb .nil kH I1 r λx dx hx hd ne=>(x,dx,vs,by simp,q.1,ax,U,x,dx,ns.zip vs,U,ax,?_)) λu s' (v,H',I',rv,a,dx,fs,e1,e2,qq)=>?_))) he V) av)
 ·let e:upd (upd (upd (upd (upd H1 dx (.own x)) x (.ins C dx [])) x (.ins C dx (ns.zip vs))) x (.ext (xA x C dx))) dx (.ext (XD dx (ns.zip vs)))=upd (upd H1 x (.ext (xA x C dx))) dx (.ext (XD dx (ns.zip vs))):=by
   funext b
   by_cases z:b=dx
   ·rw[z,ax,ax]
   ·by_cases P:b=x
    ·rw[ak z,ak z,P,ax,ax]
    ·rw[ak z,ak P,ak P,ak P,ak z,ak z,ak P]
  rw[e];exact q.2 x dx hx hd ne
 ·let(_,_,_,I2):=I'.Rk e2;exact(v,_,I2,rv,qq)
def OR(C:J)(ns:List Str)(ql:QA):QE:=λq Q=>ql q λts=>T.ims ts=O/\ts.length=ns.length/\Q (.ob C ns ts)
def qU(hK:X.K=K)(M:Mk K C g)(G:a8 X.prog X.w X.K X.mg X.base CX0 k g fd prs (Ae C ns))(hr:cy (k+1) X.A)(hg:Gl X x)(hm:X.mg x=Z (.ref C))(hb:Binds X.K fd prs [])(ha:QPA X K (e::es) tl ql)
  (av:AS x:=by decide) (he:AC X e es:=by rfl) (V:AM X pos es:=by rfl):
  QPF X K (.Call (.Name x p) (e::es) [] pos) (Fl C ns tl) (OR C ns ql):=by
 subst hK;refine(Ha M G hr hg hm hb ha.h av he V,λdl H σ q Q R rd hq k=>ha.s dl H σ q _ _ rd hq λvs ts F H1 e1 P _ hz=>?_)
 let(z1,z2,z3):=hz;obtain rfl:=P.r.im z1;refine(P.r.len.trans z2,λx dx hx hd ne=>?_)
 let ev:Evo dl H1 (upd (upd H1 x (.ext (xA x C dx))) dx (.ext (XD dx (ns.zip vs)))):=((Evo.refl e1.d).new hx).new (by rw[ak ne];exact hd)
 let r2:=P.evo e1.d ev;exact k _ _ [] _ (e1.trans ev) (.ob (dx,ne,by rw[ak ne.symm,ax],ax) r2.r,bY) bY mu z3
end
variable{e:Ev}{g:Tg}
section
variable{X:Cx}{K:BT}
inductive Gh(K:BT)(x:V)(y:V)(H:Hp)(Q:VK):Prop
 |mk(p q vs)(h1:x=.ref p)(h2:y=.ref q)(h3:SqL K H p vs)(h4:SqL K H q [])(h5:Q (.bl (!vs.isEmpty)) H)
def yG(hu:X.A.units+1<cLine)(hK:X.K=K):OpR X (compareOp .NotEq) (Gh K):=by
 subst hK;intro gV s σ H x y v u Q I V P h;let(p,q,vs,U,U,h1,h2,k):=h;cases V;cases P;let(its,r1,p1,_):=I.list h1;let(z,g,p2,_):=I.list h2;let l1:=r1.length;let l2:=g.length;let e2:z.length=0:=l2.symm;by_cases hl:its.length=z.length
 ·refine SeqAt.RcNeAt.lists (e:=λ_=>O) p1.isList p2.isList (by simpa using hl) (by omega) (λj g1 g2=>?_) X.prog X.w X.xe _ (.bl _,H,I,U,?_)
  ·let(a,ea,ra):=g.at' g2;simp at ea
  ·let e:vs=[]:=Nh.mp (by lia)
   subst e;let e3:its.toArray.size=0:=by simp;exact Nh.mp (by lia)
   rw[e3];exact k
 ·refine SeqAt.RcNeAt.lists_lengths p1.isList p2.isList (by simpa using hl) (by omega) X.prog X.w X.xe _ (.bl _,H,I,U,?_)
  cases vs with
  |nil=>exact absurd l1.symm (by rw[<- l2]at hl;exact hl)
  |cons _ _=>exact k
def GH:Q2:=λt u Q=>match t,u with
 |.l xs,.l []=>Q (.b (!xs.isEmpty))
 |_,_=>False
def uz:c9 K (Gh K) GH:=by
 intro dl H x y t u F G Q R D q g hq k;unfold GH at hq
 split at hq
 ·rename_i xs;let(p,vs,G1,U,U,h1,h2):=q.r.lst;let(P,vs',V,U,U,h3,h4):=g.r.lst;cases h4;refine(p,P,vs,U,U,SqL.of h1,SqL.of h3,k _ _ [] H (.refl D) (.c (.b _)) bY mu ?_)
  let e:vs.isEmpty=xs.isEmpty:=by
   have:=h2.len
   cases vs <;> cases xs <;> simp at this ⊢
  rw[e];exact hq
 ·exact hq.elim
def Sv(h1:PI X tg e w1)(h2:PI X tg e w2):PI X tg e (λσ H R=>w1 σ H R\/w2 σ H R):=by
 intro gV s σ H R I h;obtain h|h:=h
 ·exact h1 gV s σ H R I h
 ·exact h2 gV s σ H R I h
def asP(i:Nat):QJ:=λq Q=>match q[i]? with
 |some (.r (.l xs))=>Q xs q
 |some (.r (.t xs))=>Q xs q
 |_=>False
def OI(h:PE X e (bK i))(hK:X.K=K:=by rfl):QPJ X K tg e (λσ H R=>uV K (bK i) σ H R\/H0 K (bK i) σ H R) (asP i):=(Sv (me hK h) (wm hK h),λdl H₀ hs H σ q Q R (F0,r0) hq k=>by
 let hold:∀{t:T}{v:V},q[i]?=Z (.r t)->Rp K dl H v t (F0 i)->Rel K dl H₀ ((v,t)::hs) H σ q F0:=λ{t v} e r=>r0.hold r λj u hj b hb=>by
  let ne:i≠j:=λz=>by rw[z,hj]at e;cases e
  exact(r0.o j u hj).2.2 i ne b hb
 unfold asP at hq
 split at hq
 ·rename_i xs P;let(v,hv,r):=r0.g i _ _ P U;let r1:=hold P r;let(p,vs,G,U,_,h1,h2):=r.r.lst;exact .inl (_,hv,p,U,(vs,SqL.of h1),k _ _ _ H q (F0,r1) my hq)
 ·rename_i xs P;let(v,hv,r):=r0.g i _ _ P U;let r1:=hold P r;let(p,vs,U,h1,h2):=r.r.tup;exact .inr (_,hv,p,U,(vs,SqT.of h1),k _ _ _ H q (F0,r1) Bd hq)
 ·exact hq.elim)
def GC(g:Tg)(i:Nat):QS:=λD q=>match q[i]? with
 |some (.r t)=>Ex2 (λq'=>g.put t q=Z q') D.nx
 |_=>False
def FG:kB K (jj (bK i) (g.h K)) (GC g i):=λdl H₀ hs H σ q Dq D (F,r) hq E=>by
 unfold GC at hq
 split at hq
 ·rename_i t Q;let(q',P,hz):=hq;let(v,hv,rp):=r.g i _ _ Q U;exact(v,hv,Av r rp (λj u V b hb=>(r.o j u V).2.2 i (λz=>by rw[z,V]at Q;cases Q) b hb) P λav r'=>E.nx _ _ _ r' hz)
 ·exact hq.elim
def vU{pos:Pos}(he:PE X e (bK i))(hg:PG X tg (g.h K))(hs:swapsWithSole [tg] e pos.line X.env=pure false:=by rfl)(hw:swappedStores [tg] e X.env=pure none:=by rfl)
  (h1:(assignEach [tg] X.env).map (·.2)=[assign tg X.env]:=by rfl):QPS X K (.Assign [tg] e pos) (jj (bK i) (g.h K)) (GC g i):=(v8 he hg hs hw h1,FG)
def za{dl:Dl}:uu K dl (Ite K ϊ a) (jO xs) [(.ref a,.l xs)] where
 go:=λH i D h hi=>by
  let(F,r):=h (.ref a,.l xs) (by simp)
  let(p,vs,G,e,_,h1,h2):=r.r.lst;cases e;rw[dU]at hi;let l1:i<vs.length:=by rw[h2.len];omega
  exact(vs,vs[i],SqL.of h1,by simp[l1])
 yld:=λH i x fp v H' D h hx y=>by
  let r:=h (.ref a,.l xs) (by simp)
  let(p,vs,G,e,eF,h1,h2):=r.r.lst;cases e;let(x1,V,U):=jN hx;let(w1,G1,av,Q,aD):=h2.get V;let(q,u1,hq,U,U,P):=y;let e1:=P vs (SqL.of h1);rw[av]at e1;cases e1;let sub:∀b∈G1,b∈fp (.ref a,.l xs):=λb g=>by rw[eF];exact j0 _ (aD b g)
  let rs:Rps K dl H [.int (i),w1] [.i (i),x1] ([]++(G1 ++ [])):=Rps.cons (.i _,bY) (Rps.cons (Q,λb g=>r.n b (sub b g)) (.nil,bY))
  refine((Evo.refl D).new hq,_,rs.tup D hq,λc g=>.inr ?_)
  rw[sQ]at g;exact(_,by simp,sub c g)
 stop:=λH D h=>by
  let(F,r):=h (.ref a,.l xs) (by simp)
  let(p,vs,G,e,_,h1,h2):=r.r.lst;cases e;exact(vs,SqL.of h1,by rw[dU,h2.len];exact mW _)
def N1(i:Nat):QJ:=λq Q=>match q[i]? with
 |some (.o (.l xs))=>Q (jO xs) (q.set i (.r (.l xs)))
 |some (.r (.l xs))=>Q (jO xs) q
 |_=>False
def Gx{a:Ev}{x1}{pos p:Pos}(hg:Gl X "enumerate")(hm:X.mg "enumerate"=Y)(gu:bootBuiltins "enumerate"=Z (.type "enumerate"))(h:PE X a (bK i))(hs:AD X a:=by rfl)(av:AC X a []:=by rfl)(hK:X.K=K:=by rfl):
  QPJ X K (.Tuple elts x1 pos') (.Call (.Name "enumerate" p) [a] [] pos) (zb K ϊ (di (bK i) fY)) (N1 i):=(rh hK hg hm gu (bL h eu av) hs,λdl H₀ hs H σ q Q R (F0,V) hq k=>by
 unfold N1 at hq
 split at hq
 ·rename_i xs e1;let(v,hv,r):=V.g i _ _ e1 U;let r1:=(V.down e1).hold r λj u P b hb=>by
   obtain⟨_,z,_⟩|⟨ne,P⟩:=get_set P
   ·cases z
   ·exact(V.o j u P).2.2 i (λz=>ne z.symm) b hb
  let(p,vs,G,U,_,h1,h2):=r.r.lst;exact(_,hv,p,U,(vs,SqL.of h1),k _ _ _ H _ (F0,r1) za hq)
 ·rename_i xs e1;let(v,hv,r):=V.g i _ _ e1 U;let r1:=V.hold r λj u P b hb=>(V.o j u P).2.2 i (λz=>by subst z;rw[e1]at P;cases P) b hb
  let(p,vs,G,U,_,h1,h2):=r.r.lst;exact(_,hv,p,U,(vs,SqL.of h1),k _ _ _ H _ (F0,r1) za hq)
 ·exact hq.elim)
end
def Alk:Nat->T->T->Prop
 | 0,t,u=>(∃x y,t=.s x/\u=.s y)\/∃x y,t=.i x/\u=.i y
 |n+1,t,u=>(∃x y,t=.s x/\u=.s y)\/(∃x y,t=.i x/\u=.i y)\/∃ts us,t=.t ts/\u=.t us/\∀(j:Nat)(x y:T),ts[j]?=Z x->us[j]?=Z y->Alk n x y
def Dep:Nat->T->Prop
 | 0,t=>(∃x,t=.s x)\/∃x,t=.i x
 |n+1,t=>(∃x,t=.s x)\/(∃x,t=.i x)\/∃ts,t=.t ts/\∀x∈ts,Dep n x
theorem Dep.s:Dep n (.s x):=by cases n <;> exact .inl (x,U)
theorem Dep.i{x:Int}:Dep n (.i x):=by
 cases n
 ·exact .inr (x,U)
 ·exact .inr (.inl (x,U))
theorem Dep.t(h:∀x∈ts,Dep n x):Dep (n+1) (.t ts):=.inr (.inr (ts,U,h))
def Dep.mono{t:T}(h:Dep n t)(hm:n<=m):Dep m t:=by
 induction n generalizing m t with
 |zero =>
  obtain⟨x,rfl⟩|⟨x,rfl⟩:=h
  ·exact Dep.s
  ·exact Dep.i
 |succ n g =>
  obtain⟨x,rfl⟩|⟨x,rfl⟩|⟨ts,rfl,h⟩:=h
  ·exact Dep.s
  ·exact Dep.i
  ·obtain⟨k,rfl⟩:∃k,m=k+1:=(m - 1,by lia)
   exact Dep.t λx hx=>g (h x hx) (by lia)
variable{G:List J}
section
variable{X:Cx}{K:BT}{dl:Dl}
def Bu{t u:T}{x y:B}(h:(∃x y,t=.s x/\u=.s y)\/∃x y,t=.i x/\u=.i y)(r1:ay K dl H v t F)(Q:ay K dl H w u G)(P:RelV v x)(q:RelV w y):∃c:Bool,(c=O ↔ t=u)/\SeqAt.EqAt A s x y c:=by
 obtain⟨z,g,rfl,rfl⟩|⟨z,g,rfl,rfl⟩:=h
 ·let(U,_):=r1.str;let(U,_):=Q.str;exact(_,(λh=>congrArg T.s (eq_of_beq (show(z==g)=O from h)),λh=>by cases h;exact beq_self_eq_true z),nT P q U U)
 ·let(U,_):=r1.int;let(U,_):=Q.int;exact(_,(λh=>congrArg T.i (eq_of_beq (show(z==g)=O from h)),λh=>by cases h;exact beq_self_eq_true z),nT P q U U)
def p9{ts us:List T}{n z q:Nat}{e:Nat->Bool}(hn:z=ts.length)(hm:q=us.length)(he:∀(j:Nat)(x y:T),ts[j]?=Z x->us[j]?=Z y->(e j=O ↔ x=y)):((E3 (min z q)).all e&&z==q)=O ↔ ts=us:=by
 subst hn hm;rw[sO,Fq,beq_iff_eq]
 constructor
 ·rintro⟨h1,h2⟩
  exact WC h2 λi g1 g2=>((he i _ _ (eO g1) (eO g2)).mp (h1 i (V7.mpr (by omega))))
 ·rintro rfl
  refine(λj g=>?_,U)
  let g:j<ts.length:=by have:=V7.mp g;lia
  exact(he j _ _ (eO g) (eO g)).mpr U
def IZ:∀(n:Nat){t u:T}{v:V}{F G:List J},Alk n t u->ay K dl H v t F->ay K dl H v u G->t=u:=by
 intro n;let sc:∀{t u:T}{v:V}{F G:List J},((∃x y,t=.s x/\u=.s y)\/∃x y,t=.i x/\u=.i y)->ay K dl H v t F->ay K dl H v u G->t=u:=λh q g=>by
  obtain⟨z,z',rfl,rfl⟩|⟨z,z',rfl,rfl⟩:=h
  ·let(U,_):=q.str;let(e,_):=g.str;cases e;rfl
  ·let(U,_):=q.int;let(e,_):=g.int;cases e;rfl
 induction n with
 |zero=>exact λh q g=>sc h q g
 |succ n ih =>
  intro t u v F G h q g;obtain h|h |⟨ts,us,rfl,rfl,ht⟩:=h
  ·exact sc (.inl h) q g
  ·exact sc (.inr h) q g
  ·let(a,vs,U,h1,f1):=q.tup;let(b,ws,e,h2,f2):=g.tup;cases e;rw[h1]at h2;cases h2;let l3:=f1.len;let l4:=f2.len;refine congrArg L2.T.t (WC (by lia) λi g1 g2=>?_)
   let gv:i<vs.length:=by lia
   let(t1,G1,Q,aD):=ft f1 (eO gv);let(t2,G2,P,av):=ft f2 (eO gv);rw[eO g1]at Q;rw[eO g2]at P;cases Q;cases P;exact ih (ht i _ _ (eO g1) (eO g2)) aD av
def zi{σ:St}(I:Inv X gV σ H s)(hK:X.K=K):∀(n:Nat)(A:Db)(t u:T)(v w:V)(F G:List J)(x y:B),Alk n t u->ay K dl H v t F->ay K dl H w u G->RelV v x->RelV w y->A.units+n<cLine->∃c:Bool,(c=O ↔ t=u)/\SeqAt.EqAt A s x y c:=by
 intro n
 induction n with
 |zero =>
  intro A t u v w F G x y P z q rx ry hu;exact Bu P z q rx ry
 |succ n ih =>
  intro A t u v w F G x y P z q rx ry hu;obtain h|h |⟨ts,us,rfl,rfl,P⟩:=P
  ·exact Bu (.inl h) z q rx ry
  ·exact Bu (.inr h) z q rx ry
  ·let(a,vs,U,h1,f1):=z.tup;let(b,ws,U,h2,f2):=q.tup;cases rx;cases ry;let(its,q1,p1,_):=I.tuple (SqT.of h1);let(Q,q2,p2,_):=I.tuple (SqT.of h2);let l1:=q1.length;let l2:=q2.length;let l3:=f1.len;let l4:=f2.len;let go:∀j,∃c:Bool,∀g1 (g2:j<Q.toArray.size),(∀x y,ts[j]?=Z x->us[j]?=Z y->(c=O ↔ x=y))/\SeqAt.EqAt A.in1 s its.toArray[j] Q.toArray[j] c:=λj=>by
    by_cases g:j<its.toArray.size/\j<Q.toArray.size
    ·let(g1,g2):=g;let(v1,e1,aI):=q1.at' g1;let(v2,e2,aH):=q2.at' g2;let(t1,G1,aE,aQ):=ft f1 e1;let(t2,G2,aD,aM):=ft f2 e2;let(c,hc,hE):=ih A.in1 t1 t2 v1 v2 G1 G2 _ _ (P j t1 t2 aE aD) aQ aM aI aH (by show A.units+1+n<_;lia)
     refine(c,λ_ _=>(λx y hx hy=>?_,hE))
     rw[aE]at hx;rw[aD]at hy;cases hx;cases hy;exact hc
    ·exact(O,λg1 g2=>absurd (g1,g2) g)
   let hc:=λj=>Classical.choose_spec (go j)
   let key:((E3 (min its.toArray.size Q.toArray.size)).all (λj=>Classical.choose (go j))&&its.toArray.size==Q.toArray.size)=O ↔ ts=us:=by
    let e1:its.toArray.size=ts.length:=by simp;omega
    let e2:Q.toArray.size=us.length:=by simp;omega
    refine p9 (n:=n) e1 e2 λj x y hx hy=>?_
    let g1:=(j3.mp hx).1;let g2:=(j3.mp hy).1;exact(hc j (by omega) (by omega)).1 x y hx hy
   by_cases av:a=b
   ·subst av;exact(O,(λ_=>IZ (n+1) (.inr (.inr (ts,us,U,U,P))) z q,λ_=>rfl),SeqAt.EqAt.same _)
   ·refine(_,(λh=>congrArg L2.T.t (key.mp h),λh=>key.mpr (by cases h;rfl)),SeqAt.EqAt.of_refs av (SeqAt.RcAt.tuples (p1) (p2) (by omega) λj g1 g2=>(hc j g1 g2).2))
def RL(K:BT):R2:=λx y H Q=>Kr K x y H Q\/∃dl ts us n F G,ay K dl H x (.t ts) F/\ay K dl H y (.t us) G/\(∀(j:Nat)(x y:T),ts[j]?=Z x->us[j]?=Z y->Alk n x y)/\n<=100/\∀c:Bool,(c=O ↔ ts=us)->Q (.bl c) H
def Pl(hu:X.A.units+150<cLine)(hK:X.K=K):OpR X (compareOp .Eq) (RL K):=by
 subst hK;refine OpR.or (wB (X:=X) (by omega) U) ?_
 intro gV s σ H x y v u Q I rx ry h;let(dl,ts,us,n,F,G,r1,r2,ht,hn,k):=h;let(a,vs,U,h1,f1):=r1.tup;let(b,ws,U,h2,f2):=r2.tup;cases rx;cases ry;let(its,q1,p1,_):=I.tuple (SqT.of h1);let(q,q2,p2,_):=I.tuple (SqT.of h2);let l1:=q1.length;let l2:=q2.length;let l3:=f1.len;let l4:=f2.len;let go:∀j,∃c:Bool,∀(g1:j<its.toArray.size)(g2:j<q.toArray.size),(∀(x y:T),ts[j]?=Z x->us[j]?=Z y->(c=O ↔ x=y))/\SeqAt.EqAt X.A.in1 s its.toArray[j] q.toArray[j] c:=λj=>by
  by_cases g:j<its.toArray.size/\j<q.toArray.size
  ·let(g1,g2):=g;let(v1,e1,aD):=q1.at' g1;let(v2,e2,av):=q2.at' g2;let(t1,G1,V,aH):=ft f1 e1;let(t2,G2,P,aE):=ft f2 e2;let(c,hc,hE):=zi I U n X.A.in1 t1 t2 v1 v2 G1 G2 _ _ (ht j t1 t2 V P) aH aE aD av (by show X.A.units+1+n<_;omega)
   refine(c,λ_ _=>(λx y hx z=>?_,hE))
   rw[V]at hx;rw[P]at z;cases hx;cases z;exact hc
  ·exact(O,λg1 g2=>absurd (g1,g2) g)
 let hc:=λj=>Classical.choose_spec (go j)
 let key:((E3 (min its.toArray.size q.toArray.size)).all (λj=>Classical.choose (go j))&&its.toArray.size==q.toArray.size)=O ↔ ts=us:=by
  let e1:its.toArray.size=ts.length:=by simp;omega
  let e2:q.toArray.size=us.length:=by simp;omega
  refine p9 (n:=n) e1 e2 λj x y hx z=>?_
  let g1:=(j3.mp hx).1;let g2:=(j3.mp z).1;exact(hc j (by omega) (by omega)).1 x y hx z
 exact SeqAt.eq_tupleAt (e:=λj=>Classical.choose (go j)) (show s.heap.IsTuple a its.toArray from p1) (show s.heap.IsTuple b q.toArray from p2) (by omega) (λj g1 g2=>(hc j g1 g2).2) (.bl _,H,I,U,k _ key)
def Se:Q2:=λt u Q=>match t,u with
 |.t ts,.t us=>∃n,n<=100/\(∀(j:Nat)(x y:T),ts[j]?=Z x->us[j]?=Z y->Alk n x y)/\∀c:Bool,(c=O ↔ ts=us)->Q (.b c)
 |t,u=>GN t u Q
def J8:c9 K (RL K) Se:=by
 intro dl H x y t u F G Q R D q g hq k;unfold Se at hq
 split at hq
 ·let(n,hn,P,hq):=hq;exact .inr (dl,_,_,n,F,G,q.r,g.r,P,hn,λc V=>k _ _ [] H (.refl D) (.c (.b _)) bY mu (hq c V))
 ·exact .inl (pH dl H x y t u F G Q R D q g hq k)
end
variable{N':List Str}{sc:Scope}{fp:List J}
section
variable{X:Cx}{K:BT}{a b:Ev}{es:List Ev}{te ta tb:TE}{qe qa qb:QE}{tl:TA}{ql:QA}{pos p:Pos}{st:EQ}{k k':Nat}{f:J}
structure Dn(K:BT)(mg:Str->Option B)(x:Str)(st:EQ)(f:J)(fd:Ch)(ps:List Str):Prop where
 F:Fun K x x st f fd
 m:mg x=Z (.ref f)
 b:Binds K fd ps []
def aX(F:a8 X.prog X.w X.K X.mg X.base CX0 k f fd prs (spQ K ps))(hr:cy k' X.A)(D:Dn X.K X.mg x st f fd prs)(ha:QPA X K (e::es) tl ql)(z:k<=k':=by first|decide|omega)(hg:Gl X x:=by exact U)
  (q:AS x:=by decide) (he:AC X e es:=by rfl) (g:AM X pos es:=by rfl):
  QPF X K (.Call (.Name x p) (e::es) [] pos) (qz (spQ K ps) [] E0 tl) (ie ps ql):=KZ F (hr.mono z) hg D.m D.F.kp D.b ha q he g
def aw:QPA X K [] fY fb:=xx.w aj
def ah:QPE X K (.Constant (.int i) j pos) (tC (.int i)) (qC (.i i)):=QPF.w bO
def bN(hm:X.mg "len"=Y)(ha:QPA X K (e::es) tl ql)(hg:Gl X "len":=by exact U)(q:X.K=K:=by exact U)
  (he:AC X e es:=by rfl) (g:AM X pos es:=by rfl):QPF X K (.Call (.Name "len" p) (e::es) [] pos) (tCB (Gj K) tl) (qCB DZ ql):=cn (ES q) J3 hg hm (by kernel_rfl) ha (by decide) (by decide) he g
def aB(i:Nat)(g:X.N.Nodup)(he:QPF X K e te qe)(hi:X.N[i]?=Z x:=by rfl)(hx:Loc X.env.scope x:=by first|exact .inl rfl|exact .inr U)(hs:swapsWith e (Z (.Name x pos')) pos.line X.env=pure false:=by rfl)(hf:AT X x:=by first|exact .inl rfl|exact .inr rfl|assumption):
  QPS X K (.Assign [.Name x pos'] e pos) (jj te (gw i)) (Az i qe):=OG g hi hx he hs hf
def bo(i:Nat)(g:X.N.Nodup)(hi:X.N[i]?=Z x:=by rfl)(hx:Loc X.env.scope x:=by first|exact .inl rfl|exact .inr U)(hf:AT X x:=by first|exact .inl rfl|exact .inr rfl|assumption):PG X (.Name x pos) (gw i):=mf g hi hx hf
def eh{cl:List (Str×J)}{s₂:ϋ}{H₂:Hp}(i:Nat)(g:N'.Nodup:=by decide +kernel)(hi:N'[i]?=Z x:=by rfl)(hx:Loc (blk X N' sc cl C s₂ H₂ fp).env.scope x:=by first|exact .inl rfl|exact .inr U)(hf:(blk X N' sc cl C s₂ H₂ fp).env.scope.names.lookup x=Z .local:=by rfl):PG (blk X N' sc cl C s₂ H₂ fp) (.Name x pos) (gw i):=mf (X:=blk X N' sc cl C s₂ H₂ fp) g hi hx (.inr hf)
def ig{q g:Str}{t1 t2:TG}(h1:PG X (.Name q p1) t1)(h2:PG X (.Name g p2) t2)(Q:X.K=K:=by exact U)(P:X.calm=true:=by exact U)
  (hn:(assignEach [.Name q p1,.Name g p2] X.env).length=2:=by rfl) (z:(assignEach [.Name q p1,.Name g p2] X.env).findIdx? (·.1)=none:=by rfl):PG X (.Tuple [.Name q p1,.Name g p2] j pos) (MN K 2 (CK t1 (CK t2 Qh))):=d9 Q P (aL h1 (aL h2 d8)) hn z
def bV(g:X.A.units+1<cLine)(ha:QPE X K a ta qa)(q:QPE X K b tb qb)(z:X.K=K:=by exact U):QPT X K (.Compare a [.Eq] [b] pos) (BM (tOp (Kr K) ta tb)) (uJ (qOp GN qa qb)):=bW (wB g z) pH (bH _) ha q
def uH(ha:QPE X K a ta qa)(g:QPE X K b tb qb):=bW (pos:=pos) Sx (qH (K:=K) (g':=λi j=>.b (decide (i<j))) λ_ _ _ _=>.b _) (bH _) ha g
def RO(ha:QPE X K a ta qa)(g:QPE X K b tb qb):=bW (pos:=pos) Sy (qH (K:=K) (g':=λi j=>.b (decide (i<=j))) λ_ _ _ _=>.b _) (bH _) ha g
def qT(ha:QPE X K a ta qa)(g:QPE X K b tb qb):=bW (pos:=pos) Cp (qH (K:=K) (g':=λi j=>.b (decide (j<i))) λ_ _ _ _=>.b _) (bH _) ha g
end
abbrev NI(K:BT)(x:Str)(f:J):Prop:=W.nsIn K mainGlobals x=Z (Z (.ref f))
abbrev LK(K:BT)(f:J)(x q:Str)(st:EQ)(oc:B)(od:Option J)(kV dc pm:B)(an:Option J)(cd ct:B)(sl:Array (Option B)):Prop:=K.lookup f=Z (oc,od,.func (W.fnOf x q (eI st) (cf st) (ao st) .none kV dc pm an cd ct),sl)
abbrev CI(K:BT)(cd:B)(x:Str):Prop:=W.codeIn K cd x=O
abbrev KI(K:BT)(f:J):Prop:=W.keepIn K (.ref f)=O
section
variable{K:BT}{q:Str}{f:J}{st:EQ}{oc kV dc pm cd ct:B}{od an:Option J}{sl:Array (Option B)}
abbrev NB(K:BT)(x:Str):Prop:=W.nsIn K mainGlobals x=Z Y
inductive DY(K:BT)(x:Str)(st:EQ)(f:J):Prop
 |mk(n:NI K x f)(fd:Ch)(F:Fun K x x st f fd)
inductive DM(K:BT)(C:J)(x q:Str)(st:EQ)(f:J):Prop
 |mk(M:Meth K C x f)(fd:Ch)(F:Fun K x q st f fd)
def DY.of(n:NI K x f)(l:LK K f x x st oc od kV dc pm an cd ct sl)(c:CI K cd x)(k:KI K f):DY K x st f:=(n,_,Bj l c k)
theorem DM.of(m:W.findIn K (.ref C) x=Z (Z (.ref f)))(l:LK K f x q st oc od kV dc pm an cd ct sl)(c:CI K cd q)(k:KI K f)(i:W.isFn K (.ref f)=O):DM K C x q st f:=((m,i,k),_,Bj l c k)
theorem Fun.b1{p1:Str}(F:Fun K x q st f fd)(g:∀kV dc pm an cd ct u1,bindArgs (W.fnOf x q (eI st) (cf st) (ao st) .none kV dc pm an cd ct) ([u1],[])=pure [(p1,u1)]:=by intros;rfl):Binds K fd [p1] []:=F.binds λkV dc pm an cd ct us hl=>SR (P:=λus=>bindArgs _ (us,[])=pure (XU _ us)) (g kV dc pm an cd ct) us hl
theorem Fun.b2{p1 p2:Str}(F:Fun K x q st f fd)(g:∀kV dc pm an cd ct u1 u2,bindArgs (W.fnOf x q (eI st) (cf st) (ao st) .none kV dc pm an cd ct) ([u1,u2],[])=pure [(p1,u1),(p2,u2)]:=by intros;rfl):Binds K fd [p1,p2] []:=F.binds λkV dc pm an cd ct us hl=>SQ (P:=λus=>bindArgs _ (us,[])=pure (XU _ us)) (g kV dc pm an cd ct) us hl
theorem Fun.b3{p1 p2 p3:Str}(F:Fun K x q st f fd)(z:∀kV dc pm an cd ct u1 u2 g,bindArgs (W.fnOf x q (eI st) (cf st) (ao st) .none kV dc pm an cd ct) ([u1,u2,g],[])=pure [(p1,u1),(p2,u2),(p3,g)]:=by intros;rfl):Binds K fd [p1,p2,p3] []:=F.binds λkV dc pm an cd ct us hl=>SO (P:=λus=>bindArgs _ (us,[])=pure (XU _ us)) (z kV dc pm an cd ct) us hl
theorem Fun.b4{p1 p2 p3 Q:Str}(F:Fun K x q st f fd)(V:∀kV dc pm an cd ct u1 u2 z g,bindArgs (W.fnOf x q (eI st) (cf st) (ao st) .none kV dc pm an cd ct) ([u1,u2,z,g],[])=pure [(p1,u1),(p2,u2),(p3,z),(Q,g)]:=by intros;rfl):Binds K fd [p1,p2,p3,Q] []:=F.binds λkV dc pm an cd ct us hl=>SN (P:=λus=>bindArgs _ (us,[])=pure (XU _ us)) (V kV dc pm an cd ct) us hl
theorem Fun.b5{p1 p2 p3 p4 V:Str}(F:Fun K x q st f fd)(hb:∀kV dc pm an cd ct u1 u2 Q z g,bindArgs (W.fnOf x q (eI st) (cf st) (ao st) .none kV dc pm an cd ct) ([u1,u2,Q,z,g],[])=pure [(p1,u1),(p2,u2),(p3,Q),(p4,z),(V,g)]:=by intros;rfl):Binds K fd [p1,p2,p3,p4,V] []:=F.binds λkV dc pm an cd ct us hl=>UG (P:=λus=>bindArgs _ (us,[])=pure (XU _ us)) (hb kV dc pm an cd ct) us hl
end
mutual
def T.pln:T->Bool
 |.n=>O
 |.b _=>O
 |.i _=>O
 |.s _=>O
 |.t xs=>T.dv xs
 |.zl xs=>T.dv xs
 |.fd _ _ ks=>T.gc ks
 |_=>ϊ
def T.dv:List T->Bool
 |[]=>O
 |x::r=>x.pln&&T.dv r
def T.gc:List (Key×T)->Bool
 |[]=>O
 | (_,x)::r=>x.pln&&T.gc r
end
def nof{A:Prop}(h:ϊ=O):A:=absurd h qf
theorem ay.plain{K:BT}{dl:Dl}(kt:∀a vs,H a=Z (.tup vs)->H' a=Z (.tup vs))(z:∀a o u,H a=Z (.frz o u)->H' a=Z (.frz o u)){v:V}{t:T}(h:ay K dl H v t F):t.pln=O->ay K dl H' v t F :=
 ay.rec (motive_2:=λv t F _=>T.dv t=O->aq K dl H' v t F) (motive_3:=λv t F _=>T.gc t=O->aN K dl H' v t F)
  (λ_=>.n) (λx _=>.b x) (λx _=>.i x) (λx _=>.s x) (λ_ h=>nof h) (λh _ g q=>.t (kt _ _ h) (g q)) (λ_ _ _ h=>nof h) (λ_ _ _ h=>nof h) (λ_ h=>nof h) (λ_ h=>nof h) (λ_ h=>nof h) (λh _ g q=>.fd (z _ _ _ h) (g q)) (λ_ h=>nof h) (λ_ _ _ h=>nof h)
  (λ_ _ h=>nof h) (λ_ _ _ h=>nof h) (λ_ _ _ h=>nof h) (λ_ _ _ h=>nof h) (λh _ g q=>.zl (z _ _ _ h) (g q)) (λ_ h=>nof h) (λ_ _ _ _ _ h=>nof h) (λ_=>.nil) (λ_ _ i1 i2 q=>.cons (i1 (sO _ _▸q).1) (i2 (sO _ _▸q).2)) (λ_=>.nil) (λ_ _ i1 i2 q=>.cons (i1 (sO _ _▸q).1) (i2 (sO _ _▸q).2)) h
theorem aq.plain{K:BT}{dl:Dl}(kt:∀a vs,H a=Z (.tup vs)->H' a=Z (.tup vs))(g:∀a o u,H a=Z (.frz o u)->H' a=Z (.frz o u)){vs:List V}(h:aq K dl H vs ts F):T.dv ts=O->aq K dl H' vs ts F :=
 h.ind (λ_=>.nil) (λ_ _ _ _ _ _ h _ z q=>.cons (h.plain kt g (sO _ _▸q).1) (z (sO _ _▸q).2))
theorem ay.Pb{K:BT}{dl:Dl}{v:V}{t:T}(h:ay K dl H v t F):t.pln=O->F=[] :=
 ay.rec (motive_3:=λ_ _ _ _=>True)
  (λ_=>rfl) (λ_ _=>rfl) (λ_ _=>rfl) (λ_ _=>rfl) (λ_ h=>nof h) (λ_ _ g=>g) (λ_ _ _ h=>nof h) (λ_ _ _ h=>nof h) (λ_ h=>nof h) (λ_ h=>nof h) (λ_ h=>nof h) (λ_ _ _ _=>rfl) (λ_ h=>nof h) (λ_ _ _ h=>nof h)
  (λ_ _ h=>nof h) (λ_ _ _ h=>nof h) (λ_ _ _ h=>nof h) (λ_ _ _ h=>nof h) (λ_ _ _ _=>rfl) (λ_ h=>nof h) (λ_ _ _ _ _ h=>nof h) (λ_=>rfl) (λ_ _ i1 i2=>rW i1 i2) trivial (λ_ _ _ _=>trivial) h
theorem aq.Pb{K:BT}{dl:Dl}{vs:List V}(h:aq K dl H vs ts F):T.dv ts=O->F=[]:=h.ind (λ_=>rfl) (λ_ _ _ _ _ _ h _ g=>rW h.Pb g)
variable{its:List B}
section
variable{X:Cx}{K:BT}{dl:Dl}{σ:St}{s:ϋ}{o:Ev}{te:TE}{qe:QE}
def Inv.MO(I:Inv X gV σ H s)(ha:H a=Z (.lst xs)):∃o,Inv X gV σ (upd H a (.frz o (.lst xs))) s:=by
 let g:∀o v,X.H₀ a≠Z (.frz o v):=λo v e=>by
  have:=I.base.k9 a o v e
  rw[ha]at this;cases this
 let(z,its,n,r,e):=(I.hok a _ ha);exact(_,I.B5 ha (λ_ z=>nomatch z) (λ_ z=>nomatch z) (λ_ z=>nomatch z) g (e,z,its,n,r,e))
def Nq(te:TE):TE:=λσ H Q=>te σ H λv H1=>∃a xs,v=.ref a/\H1 a=Z (.lst xs)/\∀o,Q v (upd H1 a (.frz o (.lst xs)))
def Lw(he:PE X e te):PE X e (Nq te):=by
 intro gV s σ H Q I h;refine thn (he gV s σ H _ I h) λu s' g=>?_
 let(v,H',P,r,a,xs,V,z,q):=g;let(o,K):=P.MO z;exact(v,_,K,r,q o)
def R9(qe:QE):QE:=λq Q=>qe q λt=>match t with
 |.l ts=>T.dv ts=O/\Q (.zl ts)
 |_=>False
def df(he:QPF X K e te qe):QPF X K e (Nq te) (R9 qe):=(Lw he.h,λdl H σ q Q R rd hq k=>he.s dl H σ q _ _ rd hq λv t F H1 e1 P f1 n1 g=>by
 split at g
 ·let(p,vs,G,U,U,h1,h2):=P.r.lst;obtain rfl:=h2.Pb g.1;refine(p,vs,U,h1,λo=>?_)
  let V:=e1.fresh (o:=.frz o (.lst vs)) (f1 p g5) (P.n p g5);let ne:∀{a:J}{u:HO},H1 a=Z u->(∀xs,u ≠ .lst xs)->a≠p:=λh n z=>by rw[z,h1]at h;exact n _ (Option.some.inj h).symm
  let ts:=h2.plain (H':=upd H1 p (.frz o (.lst vs))) (λa us h=>by rw[ak (ne h λ_ z=>nomatch z)];exact h) (λa o u h=>by rw[ak (ne h λ_ z=>nomatch z)];exact h) g.1
  exact k _ (.zl _) [] _ V (.zl ax ts,bY) bY mu g.2
 ·exact g.elim)
inductive RJ(K:BT)(neg:Bool)(x:V)(y:V)(H:Hp)(Q:VK):Prop
 |mk(dl ts us vs ws n p q F G)(h1:x=.ref p)(h2:y=.ref q)(h3:SqL K H p vs)(h4:SqL K H q ws)(h5:aq K dl H vs ts F)(h6:aq K dl H ws us G)(h7:(∀(j:Nat)(x y:T),ts[j]?=Z x->us[j]?=Z y->Alk n x y))(h8:n<=100)(h9:∀c:Bool,(c=O ↔ ts=us)->Q (.bl (if neg then !c else c)) H)
def C9(I:Inv X gV σ H s)(hK:X.K=K){ts us:List T}{q:List B}(q1:Vals vs its)(q2:Vals ws q)(f1:aq K dl H vs ts F)(f2:aq K dl H ws us G)(ht:∀(j:Nat)(x y:T),ts[j]?=Z x->us[j]?=Z y->Alk n x y)(hu:A.units+n<cLine):
  ∃e:Nat->Bool,(∀(j:Nat)(g1:j<its.toArray.size)(g2:j<q.toArray.size),SeqAt.EqAt A s its.toArray[j] q.toArray[j] (e j))/\∀(j:Nat)(x y:T),ts[j]?=Z x->us[j]?=Z y->(e j=O ↔ x=y):=by
 let l1:=q1.length;let l2:=q2.length;let l3:=f1.len;let l4:=f2.len;let go:∀j,∃c:Bool,∀g1 (g2:j<q.toArray.size),(∀x y,ts[j]?=Z x->us[j]?=Z y->(c=O ↔ x=y))/\SeqAt.EqAt A s its.toArray[j] q.toArray[j] c:=λj=>by
  by_cases g:j<its.toArray.size/\j<q.toArray.size
  ·let(g1,g2):=g;let(v1,e1,aD):=q1.at' g1;let(v2,e2,av):=q2.at' g2;let(t1,G1,Q,aH):=ft f1 e1;let(t2,G2,P,aE):=ft f2 e2;let(c,hc,hE):=zi I hK n A t1 t2 v1 v2 G1 G2 _ _ (ht j t1 t2 Q P) aH aE aD av hu;refine(c,λ_ _=>(λx y hx z=>?_,hE))
   rw[Q]at hx;rw[P]at z;cases hx;cases z;exact hc
  ·exact(O,λg1 g2=>absurd (g1,g2) g)
 refine(λj=>Classical.choose (go j),λj g1 g2=>(Classical.choose_spec (go j) g1 g2).2,λj x y hx z=>?_)
 let g1:=(j3.mp hx).1;let g2:=(j3.mp z).1;exact(Classical.choose_spec (go j) (by simp;lia) (by simp;lia)).1 x y hx z
def Pj(hu:X.A.units+150<cLine)(hK:X.K=K):OpR X (compareOp .Eq) (RJ K ϊ):=by
 subst hK;intro gV s σ H x y v u Q I V P h;let(dl,ts,us,vs,ws,n,p,q,F,G,U,U,h1,h2,f1,f2,ht,hn,k):=h;cases V;cases P;let(its,q1,p1,_):=I.list h1;let(bD,g,p2,_):=I.list h2;let l1:=q1.length;let l2:=g.length;let l3:=f1.len;let l4:=f2.len;let(e,hE,he):=C9 (A:=X.A.in1) I U q1 g f1 f2 ht (by show X.A.units+1+n<_;lia)
 by_cases hl:its.length=bD.length
 ·refine SeqAt.eq_listAt p1.isList p2.isList (by simpa using hl) (by omega) hE (.bl _,H,I,U,k _ ?_)
  let key:=p9 (n:=n) U U he;rw[show(ts.length==us.length)=O from by simp;lia,Xx,show min ts.length us.length=its.toArray.size from by simp;lia]at key
  exact key
 ·exact SeqAt.eq_list_lengthsAt p1.isList p2.isList (by simpa using hl) (by omega) (.bl _,H,I,U,k ϊ (λz=>absurd z qf,λz=>by rw[z]at l3;lia))
def T.lst:T->Option (List T)
 |.l xs=>Z xs
 |.zl xs=>Z xs
 |_=>Y
def Um(neg:Bool):Q2:=λt u Q=>∃ts us n,t.lst=Z ts/\u.lst=Z us/\n<=100/\(∀(j:Nat)(x y:T),ts[j]?=Z x->us[j]?=Z y->Alk n x y)/\∀c:Bool,(c=O ↔ ts=us)->Q (.b (if neg then !c else c))
def Rp.SI(r:Rp K dl H v t F)(h:t.lst=Z ts):∃p vs G,v=.ref p/\SqL K H p vs/\aq K dl H vs ts G:=by
 cases t with
 |l xs=>cases h;let(p,vs,G,U,U,h1,h2):=r.r.lst;exact(p,vs,G,U,SqL.of h1,h2)
 |zl xs=>cases h;let(p,o,vs,U,U,h1,h2):=r.r.zls;exact(p,vs,[],U,.inl (.inr (o,h1)),h2)
 |_=>cases h
def J7:c9 K (RJ K neg) (Um neg):=by
 intro dl H x y t u F G Q R D q g hq k;let(ts,us,n,e1,e2,hn,V,hq):=hq;let(p,vs,G1,U,h1,f1):=q.SI e1;let(P,ws,G2,U,h2,f2):=g.SI e2;exact(dl,ts,us,vs,ws,n,p,P,G1,G2,U,U,h1,h2,f1,f2,V,hn,λc hc=>k _ _ [] H (.refl D) (.c (.b _)) bY mu (hq c hc))
end
end L2
namespace L2
open PySem PySem.Spec PyProof.Rows
def mw(H:Hp)(F:List J):Hp:=λb=>if b∈F then Y else H b
variable{H:Hp}
def y0(h:b∈F):mw H F b=none:=if_pos h
def rQ(h:b ∉ F):mw H F b=H b:=if_neg h
structure fR(dl:Dl)(H:Hp)(F:List J)(H':Hp):Prop where
 k:∀b o,H b=Z o->b ∉ F->Nd dl b->NR o->H' b=Z o
 r:∀a x,H a=Z (.room x)->a ∉ F->∃y,y<=x/\H' a=Z (.room y)
 l:∀b xs,b∈F->H b=Z (.lst xs)->∃ys,H' b=Z (.lst ys)
 d:Dls dl H'
abbrev xy:=List T->(T->T->Prop)->Prop
inductive Oth(K:BT)(dl:Dl)(H:Hp)(vs:List V)(ts:List T)(j:Nat)(F0:List J):Prop
 |mk(G:Nat->List J)(h1:(∀i v t,i≠j->vs[i]?=Z v->ts[i]?=Z t->Rp K dl H v t (G i)/\∀b∈G i,b ∉ F0))(h2:∀i,ts.length<=i->G i=[])
variable{j:Nat}
theorem Oth.im{K:BT}{dl:Dl}(h:∀i v t,i≠j->vs[i]?=Z v->ts[i]?=Z t->Rp K dl H v t []):Oth K dl H vs ts j F0:=(λ_=>[],λi v t h1 h2 h3=>(h i v t h1 h2 h3,bY),λ_ _=>rfl)
inductive spL(K:BT)(j:Nat)(ps:xy)(vs:List V)(H:Hp)(Q:VK)(_:XK):Prop
 |mk(dl:Dl)(ts:List T)(v0:V)(t0:T)(F0:List J)(Qp:T->T->Prop)(h1:Dls dl H)(h2:vs.length=ts.length)(h3:vs[j]?=Z v0)(h4:ts[j]?=Z t0)(h5:Rp K dl H v0 t0 F0)(h6:F0.Nodup)(h7:Oth K dl H vs ts j F0)(h8:ps ts Qp)(h9:∀v r Fr t' F' H',fR dl H F0 H'->Rp K dl H' v0 t' F'->F'.Nodup->(∀b∈F',b∈F0\/H b=Y)->Rp K dl H' v r Fr->Fr.Nodup->(∀b∈Fr,b∈F0\/H b=Y)->(∀b∈Fr,b ∉ F')->Qp r t'->Q v H')
def hsq(H:Hp)(F:List J):List (V×T):=F.filterMap λb=>match H b with
 |some (.lst _)=>Z (.ref b,.q)
 |_=>Y
theorem P6{K:BT}{dl:Dl}:∀p∈hsq H F,Rp K dl H p.1 p.2 []:=λp hp=>by
 let(b,_,e):=Wr.mp hp
 split at e
 ·rename_i xs h;cases e;exact(.q h,bY)
 ·cases e
def MH{xs:List V}(g:b∈F)(h:H b=Z (.lst xs)):(V.ref b,T.q)∈hsq H F:=Wr.mpr (b,g,by rw[h])
variable{N:List Str}
theorem Ax{K:BT}{dl:Dl}{ts:List T}(D:Dls dl H)(hl:vs.length=ts.length)(hv:vs[j]?=Z v0)(r0:Rp K dl H v0 t0 F0)(n0:F0.Nodup){G:Nat->List J}(ro:∀i v t,i≠j->vs[i]?=Z v->ts[i]?=Z t->Rp K dl H v t (G i)/\∀b∈G i,b ∉ F0)(rz:∀i,ts.length<=i->G i=[])(hj:j<ts.length)(hh:∀p∈hs,Rp K dl H p.1 p.2 []):
  Rel K dl (mw H F0) hs H (start N vs) ((ts.map Sl.r).set j (.o t0)++BA (N.length - ts.length) .no) (λi=>if i=j then F0 else G i):=by
 let lk:∀i y,((ts.map Sl.r).set j (.o t0)++BA (N.length - ts.length) Sl.no)[i]?=Z y->(i=j/\y=.o t0)\/(i≠j/\∃t,ts[i]?=Z t/\y=.r t)\/(ts.length<=i/\y=.no):=λi y h=>by
  by_cases hi:i<ts.length
  ·rw[wh (by simpa using hi)]at h
   obtain⟨e1,Q,_⟩|⟨e1,Q⟩:=get_set h
   ·exact .inl (e1,Q)
   ·rw[j5,eO hi]at Q;exact .inr (.inl (e1,ts[i],by simp,(Option.some.inj Q).symm))
  ·rw[xD (by simpa using hi),V8]at h
   split at h
   ·exact .inr (.inr (by omega,(Option.some.inj h).symm))
   ·cases h
 let g:∀i v,vs[i]?=Z v->(start N vs)[i]?=Z (Z v):=λi v e=>by
  let hi:=(j3.mp e).1;show(vs.map Z++BA (N.length - vs.length) Y)[i]?=_;rw[wh (by simpa using hi),j5,e]
  rfl
 let q:∀b o,mw H F0 b=Z o->H b=Z o:=λb o h=>by
  by_cases e:b∈F0
  ·rw[y0 e]at h;cases h
  ·rw[rQ e]at h;exact h
 refine(D,λi y t h1 h2=>?_,λi y h1 h2=>?_,λi hi=>?_,λi t h1=>?_,λp hp=>([],hh p hp,λ_ _ _ _ _ z=>nomatch z),(λb o h _ _=>q b o h,λb x h=>(x,E6 _,q b _ h)),?_)
 ·obtain⟨rfl,rfl⟩|⟨ne,u,e,rfl⟩|⟨_,rfl⟩:=lk i y h1
  ·cases h2;refine(v0,g _ _ hv,?_);rw[if_pos rfl];exact r0
  ·cases h2;obtain⟨v,ev⟩:∃v,vs[i]?=Z v:=(vs[i]'(by rw[hl];exact(j3.mp e).1),eO _)
   refine(v,g _ _ ev,?_);rw[if_neg ne];exact(ro i v t ne ev e).1
  ·cases h2
 ·obtain⟨rfl,rfl⟩|⟨ne,u,e,rfl⟩|⟨hi,rfl⟩:=lk i y h1
  ·cases h2
  ·cases h2
  ·rw[if_neg (by lia)];exact rz i hi
 ·let av:ts.length<=i:=by simp at hi;lia
  rw[if_neg (by lia)];exact rz i av
 ·obtain⟨rfl,e⟩|⟨ne,u,e,z⟩|⟨_,z⟩:=lk i _ h1
  ·refine(by rw[if_pos rfl];exact n0,λb P=>?_,λk hk b P=>?_)
   ·rw[if_pos rfl]at P;exact y0 P
   ·rw[if_pos rfl]at P;rw[if_neg hk];intro z;by_cases aD:k<ts.length
    ·exact(ro k (vs[k]'(by lia)) ts[k] hk (eO _) (eO _)).2 b z P
    ·rw[rz k (by omega)]at z;cases z
  ·cases z
  ·cases z
 ·show _=(vs.map Z++BA (N.length - vs.length) Y).length;simp[hl]
def T.adr:T->Option J
 |.lp a _=>Z a
 |.dp a _=>Z a
 |.om a _ _ _=>Z a
 |_=>Y
theorem ay.adr{K:BT}{dl:Dl}{v:V}{t:T}(h:ay K dl H v t F)(e:t.adr=Z a):v=.ref a:=by
 cases t with
 |lp b xs=>cases e;let(_,_,z,_):=h.lpp;exact z
 |dp b xs=>cases e;let(_,_,z,_):=h.dpp;exact z
 |om b _ _ _=>cases e;let(_,_,_,z,_):=h.omm;exact z
 |_=>cases e
def dW.ow(j:Nat)(a:J)(Q:T->T->Prop):dW:={nx:=λq=>∃t',q[j]?=Z (.o t')/\t'.adr=Z a/\Q .n t',rt:=λ_=>False,ru:=λq r=>∃t',q[j]?=Z (.o t')/\t'.adr=Z a/\Q r t'}
variable{P:Da}{mg:Str->Option B}{base:Do}{x:Str}{qual:Str}{fd:Ch}
theorem Fun.okL{K:BT}{st:EQ}(F:Fun K x qual st f fd)(S:aA N ps (ao st))(len:∀ts Q,av ts Q->ts.length=ps.length)
  (jM:∀(cdv:B)(A:Db)(outer:List Env)(s:ϋ)(H:Hp)(E:XK),cy k (A.deeper (envOfC qual (ao st) s.heap.objs.size f cdv)) ->
   ∃t qs,oh (so CX0 P w K mg base N qual (ao st) f cdv A outer s H E).nox K (cf st) t qs/\∀ts Q t0 a,av ts Q->ts[j]?=Z t0->t0.adr=Z a->qs (.ow j a Q) ((ts.map Sl.r).set j (.o t0)++BA (N.length - ts.length) .no))
  (U6:∀ts Q,av ts Q->∃t0 a,ts[j]?=Z t0/\t0.adr=Z a):a8 P w K mg base CX0 (k+1) f fd ps (spL K j av):=by
 refine F.ok S (λvs H Q E h=>?_) (λcdv A outer s H vs Q E hr h=>?_)
 ·let(dl,ts,v0,t0,F0,Qp,_,hl,_,_,_,_,_,h,_):=h;rw[hl];exact len ts Qp h
 ·let(dl,ts,v0,t0,F0,Qp,D,hl,hv,ht,r0,n0,ro,h,fin):=h;let(t,qs,hb,hq):=jM cdv A outer s H E hr;refine(t,hb.h,?_);let(aI,a,aE,ea):=U6 ts Qp h;rw[ht]at aE;cases aE;let z:=hq ts Qp t0 a h ht ea;let hj:=(j3.mp ht).1;let(G,ro,rz):=ro;let R:=Ax (N:=N) (hs:=hsq H F0) D hl hv r0 n0 ro rz hj P6;let aH:=r0.r.adr ea;let aD:∀{b:J}{o:HO},H b=Z o->b ∉ F0->mw H F0 b=Z o:=λh n=>by rw[rQ n];exact h
  let t7:∀{H':Hp}{σ:St}{q:Sq}{F':Nat->List J},Rel K dl (mw H F0) (hsq H F0) H' σ q F'->fR dl H F0 H':=λ{H' σ q F'} V =>
   (λb o e n nd nr=>V.f.k b o (aD e n) nd nr,λb x e n=>V.f.r b x (aD e n),λb xs hb e=>(by
    let(Fp,rq,_):=V.h _ (MH hb e);cases rq.r with
    |q h=>exact(_,h)),V.d)
  let fr:∀{b:J},mw H F0 b=Y->b∈F0\/H b=none:=λ{b} h=>by
   by_cases e:b∈F0
   ·exact .inl e
   ·rw[rQ e]at h;exact .inr h
  let at':∀{H':Hp}{σ:St}{q:Sq}{F':Nat->List J}{t':T},Rel K dl (mw H F0) (hsq H F0) H' σ q F'->q[j]?=Z (.o t')->t'.adr=Z a->Rp K dl H' v0 t' (F' j):=λ{H' σ q F' t'} V e1 e2=>by
   let(v',_,rp):=V.g j _ _ e1 U;rw[aH,<- rp.r.adr e2];exact rp
  refine hb.s dl (mw H F0) (hsq H F0) H _ _ _ _ (_,R) z (λH' σ q hr hz=>?_,λ_ _ _ _ hz=>hz.elim,λ_ _ _ _ hz=>hz.elim,λ_ _ _ _ _ _ _ _ _ hz=>hz.elim,λH' σ q F' v r Fr V rv f1 n1 dj hz=>?_)
  ·let(F',V):=hr;let(t',e1,e2,hz):=hz;let(o1,o2,_):=V.o j t' e1;exact fin .non .n [] t' (F' j) H' (t7 V) (at' V e1 e2) o1 (λb hb=>fr (o2 b hb)) (.n,bY) mu bY bY hz
  ·let(t',e1,e2,hz):=hz;let(o1,o2,_):=V.o j t' e1;exact fin v r Fr t' (F' j) H' (t7 V) (at' V e1 e2) o1 (λb hb=>fr (o2 b hb)) rv n1 (λb hb=>fr (f1 b hb)) (dj j) hz
variable{F':List J}
section
variable{K:BT}{dl:Dl}{H₀ H':Hp}{hs:List (V×T)}{σ:St}{q:Sq}{F:Nat->List J}
def Rel.SM(r:Rel K dl H₀ hs H σ q F)(hi:q[i]?=Z (.o t))(hv:σ[i]?=Z (Z v))(f:fR dl H (F i) H')(hr:Rp K dl H' v t' F')(n':F'.Nodup)(hF:∀b∈F',b∈F i\/H b=Y):Rel K dl H₀ hs H' σ (q.set i (.o t')) (qJ F i F'):=by
 let th:∀{b:J},b∈F i->fE H b:=λP=>r.dX P
 let ne:∀{b:J}{o:HO},H b=Z o->o.mt=ϊ->b ∉ F i:=λ{b o} h n1 z=>by
  let(_,e,m):=th z;rw[h]at e;cases e;rw[n1]at m;cases m
 let tf:TF H H':=(λb vs h=>f.k b _ h (ne h U) (r.d.nd h (λ_ z=>nomatch z) λ_ z=>nomatch z) (λ_ z=>nomatch z),λb o u h=>f.k b _ h (ne h U) (r.d.nd h (λ_ z=>nomatch z) λ_ z=>nomatch z) (λ_ z=>nomatch z),
  λb φ h=>f.k b _ h (ne h U) (r.d.nd h (λ_ z=>nomatch z) λ_ z=>nomatch z) (λ_ z=>nomatch z),λb xs h=>(by
  by_cases P:b∈F i
  ·exact f.l b xs P h
  ·by_cases hn:Nd dl b
   ·exact(xs,f.k b _ h P hn (λ_ z=>nomatch z))
   ·obtain⟨p,hp,z⟩:∃p∈dl,¬(b≠p.1/\b≠p.2):=Classical.byContradiction λc=>hn λp hp=>Classical.byContradiction λz=>c (p,hp,z)
    let(s,n,ls,Q):=r.d p hp;let(s',n',ls',Q'):=f.d p hp;let h1:=ij h Q.hd (λz=>nomatch z)
    let h2:=Classical.byContradiction λz'=>z (h1,z')
    exact(_,by rw[h2];exact Q'.hl)),λb x h=>f.r b x h (ne h U))
 let st:∀{w:V}{u:T}{Fw:List J},Rp K dl H w u Fw->(∀b∈Fw,b ∉ F i)->Rp K dl H' w u Fw:=λ{w u Fw} h np =>
  (h.r.cA tf (λ_ z=>z) λb P o e=>f.k b o e (np b P) (h.n b P) (.of (h.r.there b P) e),h.n)
 let(o1,o2,o3):=r.o i t hi;let out:∀j,j≠i->∀b∈F',b ∉ F j:=λj hj b P z=>by
  obtain h|h:=hF b P
  ·exact o3 j hj b h z
  ·exact(r.dX z).no h
 refine(f.d,λj x u h1 h2=>?_,λj x h1 h2=>?_,λj hj=>?_,λj u h1=>?_,λp hp=>?_,(λb o h n nr=>?_,λb x h=>?_),by simp[r.l])
 ·obtain⟨rfl,rfl,_⟩|⟨ne',h1⟩:=get_set h1
  ·cases h2;exact(v,hv,by rw[aT];exact hr)
  ·let(w,h3,h4):=r.g j x u h1 h2;exact(w,h3,by rw[aC ne'];exact st h4 λb P z=>o3 j ne' b z P)
 ·obtain⟨rfl,rfl,_⟩|⟨ne',h1⟩:=get_set h1
  ·cases h2
  ·rw[aC ne'];exact r.n j x h1 h2
 ·let hl:=(j3.mp hi).1;rw[QX]at hj;rw[aC (by lia)]
  exact r.z j hj
 ·obtain⟨rfl,e,_⟩|⟨ne',h1⟩:=get_set h1
  ·rw[aT];exact(n',λb P=>(hF b P).elim (o2 b) r.fz,λk hk b P=>by rw[aC hk];exact out k hk b P)
  ·let(p1,p2,p3):=r.o j u h1;rw[aC ne'];refine(p1,p2,λk hk b P z=>?_)
   by_cases ek:k=i
   ·subst ek;rw[aT]at z;exact out j ne' b z P
   ·rw[aC ek]at z;exact p3 k hk b P z
 ·let(Fp,h1,h2):=r.h p hp;refine(Fp,st h1 (λb P z=>h2 i t hi b z P),λj u hj b P z=>?_)
  obtain⟨rfl,e,_⟩|⟨ne',hj⟩:=get_set hj
  ·rw[aT]at P;obtain h|h:=hF b P
   ·exact h2 j t hi b h z
   ·exact fE.no (h1.r.there b z) h
  ·rw[aC ne']at P;exact h2 j u hj b P z
 ·exact f.k b o (r.f.k b o h n nr) (λz=>by rw[o2 b z]at h;cases h) n nr
 ·let(y,hy,e1):=r.f.r b x h;let(y',av,e2):=f.r b y e1 (λz=>by rw[o2 b z]at h;cases h)
  exact(y',VN av hy,e2)
end
section
variable{X:Cx}{K:BT}{dl:Dl}{H₀ H':Hp}{hs:List (V×T)}{σ:St}{q:Sq}{F:Nat->List J}{b e:Ev}{te:TE}{qe:QE}{pos:Pos}
def Kw(he:QPF X K e te qe):QPS X K (.Return (Z e) pos) (JL te) (λD q=>qe q λr=>D.ru q r):=(nC he.h,λdl H₀ hs H σ q Dq D (F,r) hq E =>
 he.s dl H σ q _ _ r.rd hq λv t F' H' e1 P f1 Q V=>E.ru H' σ q F v t F' (r.evo e1) P (λb g=>r.fz (f1 b g)) Q (λ_ b g z=>(r.dX z).no (f1 b g)) V)
end
section
variable{X:Cx}{K:BT}{a b:Ev}{ta tb:TE}{qa qb:QE}{pos p:Pos}
inductive Gp(x:V)(y:V)(H:Hp)(Q:VK):Prop
 |mk(l b xs zs)(h1:x=.ref l)(h2:y=.ref b)(h3:Rd H l (.lst xs))(h4:Rd H b (.lst zs))(h5:xs.length+zs.length<=mV)(h6:∀p,H p=Y->Q (.ref p) (upd H p (.lst (xs++zs))))
def LW:OpR X (binaryOp .Add) Gp:=by
 intro gV s σ H x y v u Q I rx V h;let(l,b,xs,zs,U,U,hH,hB,hz,q):=h;cases rx;cases V;let(z,its,n,r,e):=(hH.ok I.hok);let(z2,K,n2,g,e2):=(hB.ok I.hok);let hl:=r.length;let av:=g.length;refine PySem.P.add_list e e2 ?_ (by rw[p5,p5];lia)
 let ea:its.toArray++K.toArray=(its++K).toArray:=by simp
 rw[ea];exact(.ref _,_,I.SK (r.append g) (by rw[px];omega),U,q _ I.fresh)
def Rp.SJ{dl:Dl}(r:Rp K dl H v t F)(h:t.lst=Z ts):∃p vs G,v=.ref p/\Rd H p (.lst vs)/\aq K dl H vs ts G:=by
 cases t with
 |l xs=>cases h;let(p,vs,G,U,U,h1,h2):=r.r.lst;exact(p,vs,G,U,.inl h1,h2)
 |zl xs=>cases h;let(p,o,vs,U,U,h1,h2):=r.r.zls;exact(p,vs,[],U,.inr (o,h1),h2)
 |_=>cases h
def NG:Q2:=λt u Q=>∃xs ys,t.lst=Z xs/\u.lst=Z ys/\xs.length+ys.length<=mV/\T.ims xs=O/\T.ims ys=O/\Q (.l (xs++ys))
def FU:c9 K Gp NG:=by
 intro dl H x y t u F G Q R D q g hq k;let(xs,ys,e1,e2,hl,i1,i2,hq):=hq;let(p,vs,G1,U,h1,f1):=q.SJ e1;let(z,ws,G2,U,h2,f2):=g.SJ e2;obtain rfl:=f1.im i1;obtain rfl:=f2.im i2;refine(p,z,vs,ws,U,U,h1,h2,by rw[f1.len,f2.len];exact hl,λp hp=>?_)
 let rs:Rps K dl H (vs++ws) _ ([] ++ []):=(f1.append f2,λc P=>nomatch P)
 exact k _ _ _ _ ((Evo.refl D).new hp) (rs.lst D hp) (λb V=>by rw[ej.mp V];exact hp) (by simp) hq
def K0(ha:QPE X K a ta qa)(g:QPE X K b tb qb):QPF X K (.BinOp a .Add b pos) (tOp Gp ta tb) (qOp NG qa qb):=(cJ LW ha.h g.h,vy FU ha.s g.s)
end
end L2
namespace PySem
open Sem (wp)
end PySem
namespace PySem
open Sem (wp)
end PySem
namespace PySem
open Sem (wp)
namespace F
end F
end PySem
namespace PySem
open Sem (wp)
end PySem
namespace PySem
open Sem (wp)
open PyProof.Rows (StrsAre strsAre_map)
end PySem
namespace PySem
open Sem (wp)
open PyProof.Rows (StrsAre strsAre_map seqObj)
end PySem
namespace L2
open PySem PySem.Spec PyProof.Rows
abbrev Way:=List (Sum Str Nat)
def putN(f:Str):List Str->List Str
 |[]=>[f]
 |g::r=>if g=f then g::r else g::putN f r
def fc{α:Type}(f:Str)(y:α):List Str->List α->List α
 |[],_=>[y]
 |g::r,x::ts=>if g=f then y::ts else x::fc f y r ts
 |_::_,[]=>[]
def T.sub:Way->T->Option T
 |[],x=>Z x
 |.inl f::p,.om _ _ ns ts=>match(ns.zip ts).lookup f with
  |some u=>T.sub p u
  |none=>Y
 |.inr m::p,.l ts=>match ts[m]? with
  |some u=>T.sub p u
  |none=>Y
 |_::_,_=>Y
def T.put(u:T):Way->T->T
 |[],_=>u
 |.inl f::p,.om a C ns ts=>match(ns.zip ts).lookup f with
  |some x=>.om a C ns (fc f (T.put u p x) ns ts)
  |none=>.om a C ns ts
 |.inr m::p,.l ts=>match ts[m]? with
  |some x=>.l (ts.set m (T.put u p x))
  |none=>.l ts
 |_::_,x=>x
def VAt(H:Hp):Way->V->V->Prop
 |[],v,w=>v=w
 |.inl f::p,v,w=>∃a C dx fs x,v=.ref a/\H a=Z (.ins C dx fs)/\fs.lookup f=Z x/\VAt H p x w
 |.inr m::p,v,w=>∃a xs x,v=.ref a/\H a=Z (.lst xs)/\xs[m]?=Z x/\VAt H p x w
variable{H:Hp}
def VAt.uniq:∀{v w K:V},VAt H p v w->VAt H p v K->w=K:=by
 induction p with
 |nil=>exact λh h'=>h.symm.trans h'
 |cons s p P =>
  intro v w K h h';cases s with
  |inl f =>
   let(a,C,dx,fs,x,e,h1,h2,h3):=h;let(a',C',aD,av,x',e',z,q,g):=h';subst e;cases e';cases h1.symm.trans z;cases h2.symm.trans q;exact P h3 g
  |inr m =>
   let(a,xs,x,e,h1,h2,h3):=h;let(a',Q,x',e',z,q,g):=h';subst e;cases e';cases h1.symm.trans z;cases h2.symm.trans q;exact P h3 g
def VAt.snoc:∀{v w x:V},VAt H p v w->VAt H [s] w x->VAt H (p ++ [s]) v x:=by
 induction p with
 |nil=>intro v w x h h';cases h;exact h'
 |cons t p g =>
  intro v w x h h';cases t with
  |inl f=>let(a,C,dx,fs,x,e,h1,h2,h3):=h;exact(a,C,dx,fs,x,e,h1,h2,g h3 h')
  |inr m=>let(a,xs,x,e,h1,h2,h3):=h;exact(a,xs,x,e,h1,h2,g h3 h')
def T.BU{p:Way}(h:T.sub (.inl f::p) y=Z u):∃a C ns ts x,y=.om a C ns ts/\(ns.zip ts).lookup f=Z x/\T.sub p x=Z u:=by
 cases y with
 |om a C ns ts =>
  unfold T.sub at h;cases e:(ns.zip ts).lookup f with
  |none=>rw[e]at h;cases h
  |some x=>rw[e]at h;exact(a,C,ns,ts,x,U,e,h)
 |_=>cases h
def T.BS{p:Way}(h:T.sub (.inr m::p) y=Z u):∃ts x,y=.l ts/\ts[m]?=Z x/\T.sub p x=Z u:=by
 cases y with
 |l ts =>
  unfold T.sub at h;cases e:ts[m]? with
  |none=>rw[e]at h;cases h
  |some x=>rw[e]at h;exact(ts,x,U,e,h)
 |_=>cases h
def T.sub_snoc{s:Sum Str Nat}:∀{t u x:T},T.sub p t=Z u->T.sub [s] u=Z x->T.sub (p ++ [s]) t=Z x:=by
 induction p with
 |nil=>intro t u x h h';cases h;exact h'
 |cons r p g =>
  intro t u x h h';cases r with
  |inl f =>
   let(a,C,ns,ts,y,U,e,h):=T.BU h;show T.sub (.inl f ::(p ++ [s])) _=_;unfold T.sub;rw[e];exact g h h'
  |inr m =>
   let(ts,y,U,e,h):=T.BS h;show T.sub (.inr m ::(p ++ [s])) _=_;unfold T.sub;rw[e];exact g h h'
def JB:∀{ns:List Str}{vs:List V},ns.length=vs.length->eT f v (ns.zip vs)=(putN f ns).zip (fc f v ns vs):=by
 intro ns
 induction ns with
 |nil=>intro vs h;cases vs with|nil=>rfl|cons=>cases h
 |cons g r q =>
  intro vs h;cases vs with
  |nil=>cases h
  |cons x vs =>
   show eT f v ((g,x)::r.zip vs)=_;unfold eT putN fc
   split
   ·rfl
   ·rw[q (Nat.succ.inj h)];rfl
theorem Cd:∀{ns:List Str}{ts:List α},ns.length=ts.length->(putN f ns).length=(fc f y ns ts).length
 |[],[],_=>rfl
 |g::r,x::ts,h=>by
  unfold putN fc
  split
  ·exact h
  ·exact congrArg (· + 1) (Cd (Nat.succ.inj h))
theorem yq:∀{ns:List Str}{vs:List V},(ns.zip vs).lookup f=Z v->putN f ns=ns/\(ns.length=vs.length->fc f v ns vs=vs)
 |[],_,h=>by cases h
 |g::r,[],h=>by cases h
 |g::r,x::vs,h=>by
  rw[show(g::r).zip (x::vs)=(g,x)::r.zip vs from U,vr]at h;unfold putN fc;by_cases e:g=f
  ·subst e;rw[beq_self_eq_true]at h;cases h;exact(if_pos U,λ_=>if_pos U)
  ·let q:=beq_eq_false_iff_ne.mpr λz=>e z.symm
   rw[q]at h;let(h1,h2):=yq h;rw[if_neg e,if_neg e,h1];exact(U,λl=>by rw[h2 (Nat.succ.inj l)])
theorem HK:∀{ns:List Str}{vs:List α}{ts:List β},vs.length=ts.length->((ns.zip ts).lookup f=Y ↔ (ns.zip vs).lookup f=Y)
 |[],_,_,_=>by simp
 |g::r,[],[],_=>by simp
 |g::r,x::vs,y::ts,h=>by
  rw[show(g::r).zip (x::vs)=(g,x)::r.zip vs from U,show(g::r).zip (y::ts)=(g,y)::r.zip ts from U,vr,vr]
  split
  ·simp
  ·exact HK (Nat.succ.inj h)
variable{a:J}
section
variable{K:BT}{dl:Dl}
theorem aq.fld{vs:List V}(h:aq K dl H vs ts F):∀{c:T},(ns.zip ts).lookup f=Z c->∃w Fc G,(ns.zip vs).lookup f=Z w/\ay K dl H w c Fc/\F.Perm (Fc++G) /\
  ∀H' Q c' q,TF H H'->(∀b∈G,∀o,H b=Z o->H' b=Z o)->ay K dl H' Q c' q->∃F',aq K dl H' (fc f Q ns vs) (fc f c' ns ts) F'/\F'.Perm (q++G) :=
 h.ind (M:=λvs ts F=>∀{ns:List Str}{c:T},(ns.zip ts).lookup f=Z c->∃w Fc G,(ns.zip vs).lookup f=Z w/\ay K dl H w c Fc/\F.Perm (Fc++G) /\   ∀H' Q c' q,TF H H'->(∀b∈G,∀o,H b=Z o->H' b=Z o)->ay K dl H' Q c' q->∃F',aq K dl H' (fc f Q ns vs) (fc f c' ns ts) F'/\F'.Perm (q++G)) 
  (λ{ns c} e=>by cases ns <;> cases e) λv x vs ts F G hx hr ih ns c e=>by
  cases ns with
  |nil=>cases e
  |cons g r =>
   rw[show(g::r).zip (x::ts)=(g,x)::r.zip ts from U,vr]at e;by_cases eg:g=f
   ·subst eg;rw[beq_self_eq_true]at e;cases e;refine(v,F,G,?_,hx,.refl _,λH' Q c' q tf k h'=>(q++G,?_,.refl _))
    ·rw[show(g::r).zip (v::vs)=(g,v)::r.zip vs from U,vr,beq_self_eq_true]
    ·unfold fc;rw[if_pos U,if_pos rfl];exact .cons h' (hr.cA tf (λ_ z=>z) k)
   ·let P:=beq_eq_false_iff_ne.mpr λz=>eg z.symm
    rw[P]at e;let(w,Fc,G1,h1,h2,h3,h4):=ih e;refine(w,Fc,F++G1,?_,h2,((h3.append_left F).trans (VU _ _ _)),λH' Q c' q tf k h'=>?_)
    ·rw[show(g::r).zip (v::vs)=(g,v)::r.zip vs from U,vr,P];exact h1
    ·let(F',q1,q2):=h4 H' Q c' q tf (λb P=>k b (p6 _ P)) h'
     unfold fc;rw[if_neg eg,if_neg eg];exact(F++F',.cons (hx.cA tf (λ_ z=>z) λb P=>k b (qr _ P)) q1,(q2.append_left F).trans (VU _ _ _))
theorem aq.Iv(hw:ay K dl H w c P):∀{ns:List Str}{vs:List V}{ts:List T}{F:List J},aq K dl H vs ts F->ns.length=ts.length->(ns.zip ts).lookup f=Y->aq K dl H (fc f w ns vs) (fc f c ns ts) (F++(P ++ []))
 |[],_,_,_,.nil,_,_=>.cons (F:=P) hw .nil
 |[],_,_,_,.cons _ _,l,_=>nomatch l
 |g::r,_,_,_,.nil,l,_=>nomatch l
 |g::r,_,_,_,.cons (x:=x) (ts:=ts) hx hr,l,e=>by
  rw[show(g::r).zip (x::ts)=(g,x)::r.zip ts from U,vr]at e;by_cases q:g=f
  ·subst q;rw[beq_self_eq_true]at e;cases e
  ·let Q:=beq_eq_false_iff_ne.mpr λz=>q z.symm
   rw[Q]at e;unfold fc;rw[if_neg q,if_neg q,Nj];exact .cons hx (aq.Iv hw hr (Nat.succ.inj l) e)
theorem aq.itm{vs:List V}(h:aq K dl H vs ts F):∀{c:T},ts[i]?=Z c->∃w Q G,vs[i]?=Z w/\ay K dl H w c Q/\F.Perm (Q++G) /\
  ∀H' q P g,TF H H'->(∀b∈G,∀o,H b=Z o->H' b=Z o)->ay K dl H' q P g->∃F',aq K dl H' (vs.set i q) (ts.set i P) F'/\F'.Perm (g++G) :=
 h.ind (M:=λvs ts F=>∀{i:Nat}{c:T},ts[i]?=Z c->∃w Q G,vs[i]?=Z w/\ay K dl H w c Q/\F.Perm (Q++G) /\   ∀H' q P g,TF H H'->(∀b∈G,∀o,H b=Z o->H' b=Z o)->ay K dl H' q P g->∃F',aq K dl H' (vs.set i q) (ts.set i P) F'/\F'.Perm (g++G)) 
  (λ{i c} e=>nomatch e) λv x vs ts F G hx hr ih i c e=>by
  cases i with
  |zero =>
   cases e;exact(v,F,G,U,hx,.refl _,λH' q P g tf k h'=>(g++G,.cons h' (hr.cA tf (λ_ z=>z) k),.refl _))
  |succ i =>
   let(w,Q,G1,h1,h2,h3,h4):=ih (by simpa using e)
   refine(w,Q,F++G1,by simpa using h1,h2,((h3.append_left F).trans (VU _ _ _)),λH' q P g tf k h'=>?_)
   let(F',q1,q2):=h4 H' q P g tf (λb hb=>k b (p6 _ hb)) h'
   exact(F++F',.cons (hx.cA tf (λ_ z=>z) λb hb=>k b (qr _ hb)) q1,(q2.append_left F).trans (VU _ _ _))
def pm2:(a::b ::(A++Yb++C)).Perm (A++(a::b ::(Yb++C))):=by
 rw[Nj];exact(X4.trans (List.perm_middle.cons _)).symm
def pm1:(a ::(A++Yb++C)).Perm (A++(a ::(Yb++C))):=by
 rw[Nj];exact X4.symm
def DK{xs:List α}(h:xs[i]?=Z x):xs.set i x=xs:=by
 let(hl,U):=j3.mp h;exact Xk hl
theorem ay.zip:∀(p:Way){v:V}{t u:T}{F:List J},ay K dl H v t F->T.sub p t=Z u->∃w Q G,(∀H1:Hp,(∀b∈G,∀o,H b=Z o->H1 b=Z o)->VAt H1 p v w)/\ay K dl H w u Q/\F.Perm (Q++G) /\
  ∀H' u' g,TF H H'->(∀b∈G,∀o,H b=Z o->H' b=Z o)->ay K dl H' w u' g->∃F',ay K dl H' v (T.put u' p t) F'/\F'.Perm (g++G):=by
 intro p
 induction p with
 |nil =>
  intro v y u F h ex;cases ex;exact(v,F,[],λ_ _=>rfl,h,by rw[sQ],λH' u' g _ _ h'=>(g,h',by rw[sQ]))
 |cons s p ih =>
  intro v y u F h ex;cases s with
  |inl f =>
   let(a,C,ns,ts,c,U,ec,ex):=T.BU ex;let(dx,vs,G0,U,U,h1,h2,h3,h4):=h.omm;let(w1,F1,z,a1,a2,a3,a4):=h4.fld ec;let(w,Q,G2,b1,b2,b3,b4):=ih a2 ex;refine(w,Q,a::dx ::(G2++z),λH1 k1=>(a,C,dx,_,w1,U,k1 a g5 _ h1,a1,b1 H1 λb q=>k1 b (j0 _ (j0 _ (qr _ q)))),b2,((a3.trans (b3.append_right z)).cons dx |>.cons a).trans pm2,λH' u' g tf k h'=>?_)
   let(F',q1,q2):=b4 H' u' g tf (λb q=>k b (j0 _ (j0 _ (qr _ q)))) h'
   let(F2,P,q4):=a4 H' w1 _ F' tf (λb q=>k b (j0 _ (j0 _ (p6 _ q)))) q1
   let(s1,s2):=yq a1;let hl:=h4.len;rw[s2 (by lia)]at P
   refine(a::dx::F2,?_,((q4.trans (q2.append_right z)).cons dx |>.cons a).trans pm2)
   unfold T.put;rw[ec];exact .om (k a g5 _ h1) (k dx (j0 _ g5) _ h2) (h3.trans (h4.len.symm.trans P.len)) P
  |inr m =>
   let(ts,c,U,ec,ex):=T.BS ex;let(a,vs,G0,U,U,h1,h4):=h.lst;let(w1,F1,z,a1,a2,a3,a4):=h4.itm ec;let(w,Q,G2,b1,b2,b3,b4):=ih a2 ex;refine(w,Q,a ::(G2++z),λH1 k1=>(a,_,w1,U,k1 a g5 _ h1,a1,b1 H1 λb q=>k1 b (j0 _ (qr _ q))),b2,((a3.trans (b3.append_right z)).cons a).trans pm1,λH' u' g tf k h'=>?_)
   let(F',q1,q2):=b4 H' u' g tf (λb q=>k b (j0 _ (qr _ q))) h'
   let(F2,P,q4):=a4 H' w1 _ F' tf (λb q=>k b (j0 _ (p6 _ q))) q1
   rw[DK a1]at P;refine(a::F2,?_,((q4.trans (q2.append_right z)).cons a).trans pm1);unfold T.put;rw[ec];exact .l (k a g5 _ h1) P
end
variable{H':Hp}
def fR.tf{dl:Dl}(f:fR dl H F H')(th:∀b∈F,fE H b)(D:Dls dl H):TF H H':=by
 let ne:∀{b:J}{o:HO},H b=Z o->o.mt=ϊ->b ∉ F:=λ{b o} h K z=>by
  let(_,e,m):=th b z;rw[h]at e;cases e;rw[K]at m;cases m
 refine(λb vs h=>f.k b _ h (ne h U) (D.nd h (λ_ z=>nomatch z) λ_ z=>nomatch z) (λ_ z=>nomatch z),λb o u h=>f.k b _ h (ne h U) (D.nd h (λ_ z=>nomatch z) λ_ z=>nomatch z) (λ_ z=>nomatch z),
  λb φ h=>f.k b _ h (ne h U) (D.nd h (λ_ z=>nomatch z) λ_ z=>nomatch z) (λ_ z=>nomatch z),λb xs h=>?_,λb x h=>f.r b x h (ne h U))
 by_cases g:b∈F
 ·exact f.l b xs g h
 ·by_cases hn:Nd dl b
  ·exact(xs,f.k b _ h g hn (λ_ z=>nomatch z))
  ·obtain⟨p,hp,z⟩:∃p∈dl,¬(b≠p.1/\b≠p.2):=Classical.byContradiction λc=>hn λp hp=>Classical.byContradiction λz=>c (p,hp,z)
   let(s,n,ls,Q):=D p hp;let(s',n',ls',Q'):=f.d p hp;let h1:=ij h Q.hd (λz=>nomatch z)
   let h2:=Classical.byContradiction λq=>z (h1,q)
   exact(_,by rw[h2];exact Q'.hl)
variable{j:Nat}
section
variable{K:BT}{dl:Dl}{H₀:Hp}{hs:List (V×T)}{σ:St}{q:Sq}{F:Nat->List J}
def Rel.mod(r:Rel K dl H₀ hs H σ q F)(hi:q[i]?=Z (.o t))(hu:T.sub p t=Z u):∃v w Fu,σ[i]?=Z (Z v)/\(∀H1,Evo dl H H1->VAt H1 p v w)/\Rp K dl H w u Fu/\Fu.Nodup /\
  ∀H' u' V,fR dl H Fu H'->Rp K dl H' w u' V->V.Nodup->(∀b∈V,b∈Fu\/H b=Y)->∃F',Rel K dl H₀ hs H' σ (q.set i (.o (T.put u' p t))) F':=by
 let(v,hv,rp):=r.g i _ t hi U;let(w,Fu,G,h1,h2,h3,h4):=rp.r.zip p hu;let(o1,o2,o3):=r.o i t hi;let nd:=(h3.nodup_iff.mp o1);let(n1,n2,n3):=Dc.mp nd;let P:∀b,b∈Fu\/b∈G->b∈F i:=λb Q=>h3.mem_iff.mpr (p7.mpr Q)
 refine(v,w,Fu,hv,λH1 e=>h1 H1 λb Q o eo=>e.k b o eo (rp.n b (P b (.inr Q))) (.of (r.dX (P b (.inr Q))) eo),(h2,λb Q=>rp.n b (P b (.inl Q))),n1,λH' u' V f r' n' hF=>?_)
 let kG:=λb Q o e=>f.k b o e (λz=>n3 b z b Q U) (rp.n b (P b (.inr Q))) (.of (r.dX (P b (.inr Q))) e)
 let(F',q1,q2):=h4 H' u' V (f.tf (λb Q=>h2.there b Q) r.d) kG r'.r
 let f2:fR dl H (F i) H':=(λb o e n=>f.k b o e λz=>n (P b (.inl z)),λb x e n=>f.r b x e λz=>n (P b (.inl z)),λb xs Q e=>(by
  by_cases z:b∈Fu
  ·exact f.l b xs z e
  ·exact(xs,f.k b _ e z (rp.n b Q) λ_ z=>nomatch z)),f.d)
 refine(_,r.SM hi hv f2 (q1,λb Q=>?_) (q2.nodup_iff.mpr (Dc.mpr (n',n2,λx hx y hy e=>?_))) λb Q=>?_)
 ·obtain z|z:=p7.mp (q2.mem_iff.mp Q)
  ·exact r'.n b z
  ·exact rp.n b (P b (.inr z))
 ·subst e;obtain z|z:=hF x hx
  ·exact n3 x z x hy U
  ·exact(r.dX (P x (.inr hy))).no z
 ·obtain z|z:=p7.mp (q2.mem_iff.mp Q)
  ·obtain z|z:=hF b z
   ·exact .inl (P b (.inl z))
   ·exact .inr z
  ·exact .inl (P b (.inr z))
def RdR.part(rd:RdR K dl H σ q)(hj:q[j]?=Z (.o t))(hv:σ[j]?=Z (Z v))(hu:T.sub p t=Z u)(hw:VAt H p v w):∃P,Rp K dl H w u P:=by
 let(v',F,h1,Q):=rd.g j _ t hj U;rw[hv]at h1;cases h1;let(w',P,G,h1,h2,h3,_):=Q.r.zip p hu;cases hw.uniq (h1 H λ_ _ _ z=>z)
 exact(P,h2,λb hb=>Q.n b (h3.mem_iff.mpr (qr _ hb)))
end
abbrev QL:=Sq->(Way->T->Prop)->Prop
def TR(K:BT)(j:Nat)(te:TE)(ql:QL):Prop:=∀(dl:Dl)(H:Hp)(σ:St)(q:Sq)(P:Way->T->Prop)(R:V->Hp->Prop),RdR K dl H σ q->ql q P ->
 (∀t v p u w,q[j]?=Z (.o t)->σ[j]?=Z (Z v)->T.sub p t=Z u->VAt H p v w->P p u->R w H)->te σ H R
structure QPL(X:Cx)(K:BT)(j:Nat)(e:Ev)(te:TE)(ql:QL):Prop where
 h:PE X e te
 s:TR K j te ql
variable{x:Str}
section
variable{X:Cx}{K:BT}{a b e o:Ev}{te tb:TE}{ql:QL}{pos:Pos}{f:Str}{C:J}
def Ny(j:Nat):QL:=λq P=>match q[j]? with
 |some (.o t)=>P [] t
 |_=>False
def aR(Q:X.N[j]?=Z x:=by rfl)(hv:Vis X.env.scope x:=by first|exact Or.inl rfl|exact Or.inr (Or.inl U)|exact Or.inr (Or.inr U))(hd:AS x:=by decide)
  (z:(x ==("__classdict__":Str))=false:=by decide):QPL X K j (.Name x pos) (bK j) (Ny j):=(wq Q hv hd z,λdl H σ q P R rd hq k=>by
 unfold Ny at hq
 split at hq
 ·rename_i t e;let(v,F,h1,h2):=rd.g j _ t e U;exact(v,h1,k t v [] t v e h1 U U hq)
 ·exact hq.elim)
inductive TY(j i:Nat)(q:Sq)(P:Way->T->Prop):Prop
 |mk(x t p C ns ts)(h1:q[i]?=Z (.r (.rf x))\/q[i]?=Z (.o (.rf x)))(h2:q[j]?=Z (.o t))(h3:T.sub p t=Z (.om x C ns ts))(h4:P p (.om x C ns ts))
def RP(j i:Nat):QL:=λq P=>TY j i q P
def cR(hN:X.N[i]?=Z x:=by rfl)(hv:Vis X.env.scope x:=by first|exact Or.inl rfl|exact Or.inr (Or.inl U)|exact Or.inr (Or.inr U))(hd:AS x:=by decide)
  (V:(x ==("__classdict__":Str))=false:=by decide):QPL X K j (.Name x pos) (bK i) (RP j i):=(wq hN hv hd V,λdl H σ q P R rd hq k=>by
 let(x,t,p,C,ns,ts,hi,hj,hs,hp):=hq;let(v,F,h1,rp):=rd.g j _ t hj U;let(w,Fu,G,h2,h3,_,_):=rp.r.zip p hs;let(dx,vs,G',U,_):=h3.omm;let Q:σ[i]?=Z (Z (.ref x)):=by
  obtain hi|hi:=hi
  ·let(vi,Fi,e1,e2):=rd.g i _ _ hi U;let(U,_):=e2.r.rff;exact e1
  ·let(vi,Fi,e1,e2):=rd.g i _ _ hi U;let(U,_):=e2.r.rff;exact e1
 exact(_,Q,k t v p _ _ hj h1 hs (h2 H λ_ _ _ z=>z) hp))
def RQ(C:J)(f:Str)(ql:QL):QL:=λq P=>ql q λp u=>match u with
 |.om _ g ns ts=>g=C/\∃x,(ns.zip ts).lookup f=Z x/\P (p ++ [.inl f]) x
 |_=>False
def bA(hc:Cls K C)(hn:bg K C f)(he:QPL X K j e te ql)(hb:attributeBase e f X.env (eval e X.env)=eval e X.env:=by rfl)(hK:X.K=K:=by rfl):QPL X K j (.Attribute e f pos) (Oi K te f) (RQ C f ql) :=
 (by subst hK;exact He he.h hb,λdl H σ q P R rd hq k=>he.s dl H σ q _ _ rd hq λt v p u w Q hv hs hw g=>by
  split at g
  ·rename_i x C' ns ts;let(U,y,z,g):=g;let(Fu,V):=rd.part Q hv hs hw;let(dx,vs,G,U,U,h1,h2,h3,h4):=V.r.omm;let(w1,_,_,l1,_):=h4.fld z;exact(x,_,dx,_,w1,U,h1,hc,hn,l1,k t v _ y w1 Q hv (T.sub_snoc hs (by unfold T.sub;rw[z];rfl)) (hw.snoc (show VAt H [.inl f] (.ref x) w1 from(x,_,dx,_,w1,U,h1,l1,U))) g)
  ·exact g.elim)
def Ud(n:Int)(ql:QL):QL:=λq P=>ql q λp u=>match u with
 |.l xs=>∃m x,ixN xs.length n=Z m/\xs[m]?=Z x/\P (p ++ [.inr m]) x
 |_=>False
def Nx{n:Int}(he:QPL X K j e te ql)(V:PE X b tb)(hn:∀σ H R,R (.int n) H->tb σ H R)(hs:i7 b:=by intro _ _;rfl)(hK:X.K=K:=by rfl):QPL X K j (.Subscript e b pos) (tOp (rIx K) te tb) (Ud n ql) :=
 (by subst hK;exact rD wQ he.h V hs,λdl H σ q P R rd hq k=>he.s dl H σ q _ _ rd hq λt v p u w z hv hs hw g=>by
  split at g
  ·let(m,x,hm,hx,g):=g;let(Fu,Q):=rd.part z hv hs hw;let(a,vs,G,U,U,h1,h2):=Q.r.lst;let(w1,_,_,l1,_):=h2.itm hx;refine hn _ _ _ (.inl (a,vs,n,w1,U,U,SqL.of h1,nZ (by rw[h2.len];exact hm) l1,k t v _ x w1 z hv (T.sub_snoc hs (by unfold T.sub;rw[hx];rfl)) (hw.snoc (show VAt H [.inr m] (.ref a) w1 from(a,_,w1,U,h1,l1,U))) g))
  ·exact g.elim)
def Uh(ql:QL):QE:=λq Q=>ql q λ_ u=>Q u
def bF(he:QPL X K j e te ql):QPE X K e te (Uh ql):=(he.h,λdl H σ q Q R rd hq k=>he.s dl H σ q _ _ rd hq λt v p u w P hv hs hw z=>by
 let(V,g):=rd.part P hv hs hw;exact k w u V H (.refl rd.d) g z)
def Ug(ql:QL):QE:=λq Q=>ql q λ_ u=>match u with
 |.om x _ _ _=>Q (.rf x)
 |_=>False
def OJ(he:QPL X K j e te ql):QPF X K e te (Ug ql):=(he.h,λdl H σ q Q R rd hq k=>he.s dl H σ q _ _ rd hq λt v p u w V hv hs hw g=>by
 split at g
 ·let(Fu,P):=rd.part V hv hs hw;let(dx,vs,G,U,_):=P.r.omm;exact k _ _ [] H (.refl rd.d) (.rf _,bY) bY mu g
 ·exact g.elim)
end
def zX{x b:J}{S:List J}(hx:x ∉ S)(g:b∈S):upd H x o b=H b:=ak λz=>hx (by rw[<- z];exact g)
def Fd{x b:J}{S:List J}(hx:x∈S)(g:b ∉ S):upd H x o b=H b:=ak λz=>g (by rw[z];exact hx)
variable{H1:Hp}
def fR.zY{dl:Dl}{x:J}(e:Evo dl H H1)(hx:x∈g)(hn:∀b∈g,Nd dl b)(hl:∀xs,H x=Z (.lst xs)->∃ys,o=.lst ys):fR dl H g (upd H1 x o) where
 k:=λb ob h nb n q=>by rw[Fd hx nb];exact e.k b ob h n q
 r:=λb y h nb=>by rw[Fd hx nb];exact e.r b y h
 l:=λb xs K h=>by
  by_cases z:b=x
  ·subst z;let(ys,U):=hl xs h;exact(ys,ax)
  ·exact(xs,by rw[ak z];exact e.k b _ h (hn b K) λ_ z=>nomatch z)
 d:=λp hp=>(e.d p hp).other (hn x hx p hp).1 (hn x hx p hp).2
section
variable{K:BT}{dl:Dl}
theorem Rp.eT{x C dx:J}(hu:Rp K dl H w (.om x C ns ts) (x::dx::G))(e:Evo dl H H1)(D:Dls dl H)(q:H1 x=Z (.ins C dx (ns.zip vs)))(hy:Rp K dl H1 y ty Fy)(nu:(x::dx::G).Nodup)(ny:Fy.Nodup)(fy:∀b∈Fy,H b=Y)(hv:vs.length=ns.length):
  ∃av,Rp K dl (upd H1 x (.ins C dx (L2.eT f y (ns.zip vs)))) w (.om x C (putN f ns) (fc f ty ns ts)) av/\av.Nodup/\∀b∈av,b∈x::dx::G\/H b=none:=by
 let aH:=hu.evo D e;let(aM,vs',G',U,eG,h1,h2,h3,h4):=aH.r.omm;injection eG with _ eG
 injection eG with e1 eG
 subst e1 eG;rw[q]at h1;injection h1 with h1
 injection h1 with _ _ h1
 let aI:=h4.len;obtain rfl:=zip_inj hv (aI.trans h3.symm) h1;let aD:x≠dx:=λz=>(sP.mp nu).1 (by rw[z];exact g5)
 let Q:=λz=>(sP.mp nu).1 (j0 _ z)
 let P:TF H1 (upd H1 x (.ins C dx (L2.eT f y (ns.zip vs)))):=fR.tf (fR.zY (.refl e.d) (g5) (λb g=>by rw[ej.mp g];exact hu.n x g5) (λxs h=>by rw[h]at q;cases q)) (λb g=>by rw[ej.mp g];exact(_,q,U)) e.d
 let th:=λb g=>hu.r.there b g
 let yx:=λb g z=>(th b z).no (fy b g)
 let ky:∀b∈Fy,∀o,H1 b=Z o->upd H1 x (.ins C dx (L2.eT f y (ns.zip vs))) b=Z o:=λb g o h=>by
  rw[ak λz=>yx b g (by rw[z];exact g5)];exact h
 let ry:=hy.r.cA P (λ_ z=>z) ky
 let hd2:upd H1 x (.ins C dx (L2.eT f y (ns.zip vs))) dx=Z (.own x):=by rw[ak aD.symm];exact h2
 let aE:upd H1 x (.ins C dx (L2.eT f y (ns.zip vs))) x=Z (.ins C dx ((putN f ns).zip (fc f y ns vs))):=by rw[ax,JB (by lia)]
 obtain⟨F',q1,q2,q3⟩:∃F',aq K dl (upd H1 x (.ins C dx (L2.eT f y (ns.zip vs)))) (fc f y ns vs) (fc f ty ns ts) F'/\F'.Nodup/\∀b∈F',b∈G\/b∈Fy:=by
  let nG:=(sP.mp (sP.mp nu).2).2;cases hl:(ns.zip ts).lookup f with
  |none =>
   refine(G++(Fy ++ []),aq.Iv ry (h4.cA P (λ_ z=>z) λb g o h=>by rw[zX Q g];exact h) h3 hl,?_,λb g=>?_)
   ·rw[sQ];exact Dc.mpr (nG,ny,λa ha b g z=>yx b g (by rw[<- z];exact j0 _ (j0 _ ha)))
   ·rw[sQ]at g;exact p7.mp g
  |some c =>
   let(w1,Fc,G1,_,_,a3,a4):=h4.fld hl;let(F',q1,q2):=a4 _ y ty Fy P (λb g o h=>by rw[zX Q (a3.mem_iff.mpr (p6 _ g))];exact h) ry
   let n1:=(Dc.mp (a3.nodup_iff.mp nG)).2.1;refine(F',q1,q2.nodup_iff.mpr (Dc.mpr (ny,n1,λa ha b g z=>yx a ha (by rw[z];exact j0 _ (j0 _ (a3.mem_iff.mpr (p6 _ g)))))),λb g=>?_)
   obtain z|z:=p7.mp (q2.mem_iff.mp g)
   ·exact .inr z
   ·exact .inl (a3.mem_iff.mpr (p6 _ z))
 let out:∀b∈F',b≠x/\b≠dx:=λb g=>by
  obtain z|z:=q3 b g
  ·exact(λe=>Q (e▸z),λe=>(sP.mp (sP.mp nu).2).1 (e▸z))
  ·exact(λe=>yx b z (by rw[e];exact g5),λe=>yx b z (by rw[e];exact j0 _ g5))
 refine(x::dx::F',(.om aE hd2 (Cd (by omega)) q1,λb g=>?_),sP.mpr (λz=>?_,sP.mpr (λz=>(out dx z).2 U,q2)),λb g=>?_)
 ·obtain z|g:=kf.mp g
  ·rw[z];exact hu.n x g5
  ·obtain z|g:=kf.mp g
   ·rw[z];exact hu.n dx (j0 _ g5)
   ·obtain z|z:=q3 b g
    ·exact hu.n b (j0 _ (j0 _ z))
    ·exact hy.n b z
 ·obtain z|z:=kf.mp z
  ·exact aD z
  ·exact(out x z).1 U
 ·obtain z|g:=kf.mp g
  ·rw[z];exact .inl g5
  ·obtain z|g:=kf.mp g
   ·rw[z];exact .inl (j0 _ g5)
   ·obtain z|z:=q3 b g
    ·exact .inl (j0 _ (j0 _ z))
    ·exact .inr (fy b z)
end
section
variable{X:Cx}{K:BT}{b o:Ev}{te tv:TE}{qv:QE}{ql:QL}{pos pos':Pos}{f:Str}{C:J}
def RU(j:Nat)(C:J)(f:Str)(ql:QL)(qv:QE):QS:=λD q=>qv q λy=>ql q λp u=>match u with
 |.om x g ns ts=>g=C/\ns.length<1000/\Ex3 (λt=>q[j]?=Z (.o t)) (λt=>(q.set j (.o (T.put (.om x C (putN f ns) (fc f y ns ts)) p t)))) D.nx
 |_=>False
def dC(hc:Cls K C)(hn:bg K C f)(he:QPL X K j o te ql)(hv:QPF X K b tv qv)(hs:swapsWith b (Z (.Attribute o f pos')) pos.line X.env=pure false:=by rfl)(hK:X.K=K:=by rfl):
  QPS X K (.Assign [.Attribute o f pos'] b pos) (Rw K te tv f) (RU j C f ql qv):=(by subst hK;exact v7 he.h hv.h hs,λdl H₀ hs H σ q Dq D (F,r) hq E=>by
 refine hv.s dl H σ q _ _ r.rd hq λy ty Fy H1 e1 r1 f1 n1 g=>(he.s dl H1 σ q _ _ (r.rd.evo e1) g λt v p u w hj aD hs hw g=>?_)
 split at g
 ·rename_i x C' ns ts;let(U,hl,t',V,g):=g;rw[hj]at V;cases V;let(v2,w2,Fu,Q,av,ru,nu,md):=r.mod hj hs;rw[aD]at Q;cases Q;cases hw.uniq (av H1 e1);let(dx,vs,G,U,U,h1,h2,h3,h4):=ru.r.omm;let aH:=h4.len;let P:=e1.k x _ h1 (ru.n x g5) (λ_ z=>nomatch z)
  let(aE,q1,q2,q3):=Rp.eT ru e1 r.d P r1 nu n1 f1 (by lia)
  let(F',r'):=md _ _ aE (fR.zY e1 g5 ru.n λxs h=>by rw[h]at h1;cases h1) q1 q2 q3
  exact(x,_,dx,_,U,P,hc,hn,by rw[Ii];lia,E.nx _ σ _ (_,r') g)
 ·exact g.elim)
end
variable{l:J}{G:List J}{d:J}
section
variable{K:BT}{dl:Dl}
def Rp.putL(P:Rp K dl H w (.l xs) (l::G))(D:Dls dl H)(nu:(l::G).Nodup)(e:Evo dl H H1)(rs:aq K dl H1 ws ys q)(nG:∀b∈q,Nd dl b)(hn:q.Nodup)(hG:∀b∈q,b∈G\/H b=Y):
  Rp K dl (upd H1 l (.lst ws)) w (.l ys) (l::q)/\(l::q).Nodup/\(∀b∈l::q,b∈l::G\/H b=Y)/\fR dl H (l::G) (upd H1 l (.lst ws)):=by
 let(l',vs,G0,U,eG,h1,h2):=P.r.lst;injection eG with e1 eG
 subst e1 eG;let lG:l ∉ q:=λz=>by
  obtain z|z:=hG l z
  ·exact(sP.mp nu).1 z
  ·rw[h1]at z;cases z
 let av:=e.k l _ h1 (P.n l g5) (λ_ z=>nomatch z)
 let Q:=fR.tf (fR.zY (.refl e.d) (g5) (λb g=>by rw[ej.mp g];exact P.n l g5) (λxs _=>(ws,U))) (λb g=>by rw[ej.mp g];exact(_,av,U)) e.d
 refine((.l ax (rs.cA Q (λ_ z=>z) λb g o h=>by rw[zX lG g];exact h),λb g=>?_),sP.mpr (lG,hn),λb g=>?_,fR.zY e g5 P.n λxs _=>(ws,U))
 ·obtain z|z:=kf.mp g
  ·rw[z];exact P.n l g5
  ·exact nG b z
 ·obtain z|z:=kf.mp g
  ·rw[z];exact .inl g5
  ·exact(hG b z).imp (j0 _) id
def Rp.putD(q:Rp K dl H w (.d xs) (d::G))(D:Dls dl H)(e:Evo dl H H1)(rs:aN K dl H1 ws ys []):
  Rp K dl (upd H1 d (.dK ws)) w (.d ys) [d]/\fR dl H (d::G) (upd H1 d (.dK ws)):=by
 let(d',vs,G0,U,eG,h1,h2):=q.r.dic;injection eG with e1 eG
 subst e1 eG;let g:=e.k d _ h1 (q.n d g5) (λ_ z=>nomatch z)
 let Q:TF H1 (upd H1 d (.dK ws)):=fR.tf (fR.zY (.refl e.d) (g5) (λb P=>by rw[ej.mp P];exact q.n d g5) (λxs h=>by rw[h]at g;cases g)) (λb P=>by rw[ej.mp P];exact(_,g,U)) e.d
 exact((.d ax (rs.cA Q (λ_ z=>z) bY),λb P=>by rw[ej.mp P];exact q.n d g5),fR.zY e g5 q.n λxs h=>by rw[h]at h1;cases h1)
end
section
variable{X:Cx}{K:BT}{a b e o:Ev}{te tk tv:TE}{qk qv:QE}{ql:QL}{pos pos' apos aS dG Fg:Pos}{f:Str}{C:J}
def Sh(j:Nat)(C:J)(f:Str)(ql:QL)(qv:QE):QS:=λD q=>ql q λp u=>match u with
 |.om x g ns ts=>g=C/\ns.length<1000/\∃n,(ns.zip ts).lookup f=Z (.i n)/\qv q λy=>match y with
  |.i m=>Ex3 (λt=>q[j]?=Z (.o t)) (λt=>(q.set j (.o (T.put (.om x C (putN f ns) (fc f (.i (n+m)) ns ts)) p t)))) D.nx
  |_=>False
 |_=>False
def vV(hc:Cls K C)(hn:bg K C f)(aE:QP X .Add OD)(he:QPL X K j o te ql)(hv:QPE X K b tv qv)(hK:X.K=K:=by rfl):
  QPS X K (.AugAssign (.Attribute o f Fg) .Add b pos) (B3 K te tv OD f) (Sh j C f ql qv):=(by subst hK;exact D4 he.h hv.h aE,λdl H₀ hs H σ q Dq D (F,r) hq E=>by
 refine he.s dl H σ q _ _ r.rd hq λt v p u w hj aD hs hw g=>?_
 split at g
 ·rename_i x C' ns ts;let(U,hl,n,aH,g):=g;let(v2,w2,Fu,Q,av,ru,nu,md):=r.mod hj hs;rw[aD]at Q;cases Q;cases hw.uniq (av H (.refl r.d));let(dx,vs,G,U,U,h1,h2,h3,h4):=ru.r.omm;let(w1,_,_,l1,l2,_):=h4.fld aH;let(U,_):=l2.int;refine(x,_,dx,_,_,U,h1,hc,hn,l1,hv.s dl H σ q _ _ r.rd g λy ty Fy H1 e1 r1 g=>?_)
  split at g
  ·rename_i m;let(t',V,g):=g;rw[hj]at V;cases V;let(U,U):=r1.r.int;let aM:=h4.len;let P:=e1.k x _ h1 (ru.n x g5) (λ_ z=>nomatch z)
   let(aI,q1,q2,q3):=Rp.eT ru e1 r.d P (.i _,bY) nu mu bY (by lia)
   let(F',r'):=md _ _ aI (fR.zY e1 g5 ru.n λxs h=>by rw[h]at h1;cases h1) q1 q2 q3
   exact(n,m,U,U,dx,_,P,by rw[Ii];lia,E.nx _ σ _ (_,r') g)
  ·exact g.elim
 ·exact g.elim)
def Si(j:Nat)(ql:QL)(qv:QE):QS:=λD q=>ql q λp u=>match u with
 |.l xs=>xs.length<mV/\qv q λy=>Ex3 (λt=>q[j]?=Z (.o t)) (λt=>(q.set j (.o (T.put (.l (xs ++ [y])) p t)))) D.nx
 |_=>False
def KD(he:QPL X K j o te ql)(hv:QPF X K e tv qv)(hK:X.K=K:=by rfl)(cL:attributeBase o "append" X.env (eval o X.env)=eval o X.env:=by rfl)
  (iU:At X aS [e]:=by rfl)
  (cK:(apos.endLine==aS.line)=true:=by rfl) (hs:AC X e []:=by rfl) (cG:(backTo aS (kz [] X.env)).any (·.1)=false:=by rfl)
  (aI:swapsWith (.Call (.Attribute o "append" apos) [e] [] aS) Y dG.line X.env=pure false:=by rfl):
  QPS X K (.Expr (.Call (.Attribute o "append" apos) [e] [] aS) dG) (gD (tBM K "list" lX te (di tv fY))) (Si j ql qv) :=
 (fP (by subst hK;exact rF PySem.F.plainAttrs_list PySem.F.slot_list_append PySem.F.type_list_append uR he.h (bL hv.h eu hs) cL iU cK hs cG) aI,λdl H₀ hs H σ q Dq D (F,r) hq E=>by
 refine he.s dl H σ q _ _ r.rd hq λt v p u w hj aH hs hw g=>?_
 split at g
 ·let(hl,g):=g;let(v2,w2,Fu,Q,aE,ru,nu,md):=r.mod hj hs;rw[aH]at Q;cases Q;cases hw.uniq (aE H (.refl r.d));let(l,vs,G,U,U,h1,h2):=ru.r.lst;refine(.inl (U,vs,SqL.of h1),hv.s dl H σ q _ _ r.rd g λy ty Fy H1 e1 r1 f1 n1 g=>?_)
  let(t',V,g):=g;rw[hj]at V;cases V;let aD:=ru.evo r.d e1;let(l',vs',G',el,eG,av,aM):=aD.r.lst;cases eG;let e0:=e1.k l _ h1 (ru.n l g5) (λ_ z=>nomatch z)
  rw[e0]at av;cases av;let(q1,q2,q3,q4):=Rp.putL ru r.d nu e1 (aM.append (.cons r1.r .nil)) (λb P=>by
   rw[sQ]at P;obtain z|z:=p7.mp P
   ·exact ru.n b (j0 _ z)
   ·exact r1.n b z) (by
   rw[sQ];exact Dc.mpr ((sP.mp nu).2,n1,λa ha b P z=>(ru.r.there a (j0 _ ha)).no (f1 a (by rw[z];exact P)))) (λb P=>by
   rw[sQ]at P;obtain z|z:=p7.mp P
   ·exact .inl z
   ·exact .inr (f1 b z))
  let(F',r'):=md _ _ _ q4 q1 q2 q3;exact(l,_,y,U,U,e0,by rw[h2.len];exact hl,E.nx _ σ _ (_,r') g)
 ·exact g.elim)
def RX(j:Nat)(ql:QL):QS:=λD q=>ql q λp u=>match u with
 |.l xs=>xs ≠ []/\Ex3 (λt=>q[j]?=Z (.o t)) (λt=>(q.set j (.o (T.put (.l xs.dropLast) p t)))) D.nx
 |_=>False
def Ky(he:QPL X K j o te ql)(hK:X.K=K:=by rfl)(cL:attributeBase o "pop" X.env (eval o X.env)=eval o X.env:=by rfl)(cK:(apos.endLine==aS.line)=true:=by rfl)
  (av:swapsWith (.Call (.Attribute o "pop" apos) [] [] aS) Y dG.line X.env=pure false:=by rfl):
  QPS X K (.Expr (.Call (.Attribute o "pop" apos) [] [] aS) dG) (gD (JM K "list" Ko te)) (RX j ql) :=
 (fP (by subst hK;exact AV PySem.F.plainAttrs_list PySem.F.slot_list_pop PySem.F.type_list_pop A2 he.h cL cK) av,λdl H₀ hs H σ q Dq D (F,r) hq E=>by
 refine he.s dl H σ q _ _ r.rd hq λt v p u w hj V hs hw g=>?_
 split at g
 ·rename_i xs;let(hl,t',P,g):=g;rw[hj]at P;cases P;let(v2,w2,Fu,z,Q,ru,nu,md):=r.mod hj hs;rw[V]at z;cases z;cases hw.uniq (Q H (.refl r.d));let(l,vs,G,U,U,h1,h2):=ru.r.lst;let hlen:=h2.len;let VC:0<vs.length:=by rw[hlen];exact V6.mpr hl
  let(G',g1,g2):=h2.take (xs.length - 1);rw[<- Xl,<- hlen,<- Xl]at g1;let(q1,q2,q3,q4):=Rp.putL ru r.d nu (.refl r.d) g1 (λb hb=>ru.n b (j0 _ (g2.subset hb))) (g2.nodup (sP.mp nu).2) (λb hb=>.inl (g2.subset hb))
  let(F',r'):=md _ _ _ q4 q1 q2 q3;exact(.inl (U,vs,SqL.of h1),l,vs,vs[vs.length - 1],U,U,h1,eO (by omega),E.nx _ σ _ (_,r') g)
 ·exact g.elim)
def RW(j:Nat)(ql:QL)(qk qv:QE):QS:=λD q=>qv q λy=>ql q λp u=>match u with
 |.d xs=>qk q λz=>match z.key with
  |some k=>xs.length<mV/\T.imk xs=O/\y.im=O/\Ex3 (λt=>q[j]?=Z (.o t)) (λt=>(q.set j (.o (T.put (.d (cX xs k y)) p t)))) D.nx
  |none=>False
 |_=>False
def Kx(hu:X.A.units+1<cLine)(he:QPL X K j o te ql)(hk:QPE X K a tk qk)(hv:QPE X K b tv qv)(hs:swapsWith b (Z (.Subscript o a pos')) pos.line X.env=pure false:=by rfl):
  QPS X K (.Assign [.Subscript o a pos'] b pos) (uC te tk tv) (RW j ql qk qv):=(ke hu he.h hk.h hv.h hs,λdl H₀ hs H σ q Dq D (F,r) hq E=>by
 refine hv.s dl H σ q _ _ r.rd hq λy ty Fy H1 e1 r1 g=>(he.s dl H1 σ q _ _ (r.rd.evo e1) g λt v p u w hj aE hs hw g=>?_)
 split at g
 ·refine hk.s dl H1 σ q _ _ (r.rd.evo e1) g λz tz Fz H2 e2 r2 g=>?_
  split at g
  ·rename_i k ek;let(hl,im1,av,t',V,g):=g;rw[hj]at V;cases V;let(v2,w2,Fu,Q,aD,ru,nu,md):=r.mod hj hs;rw[aE]at Q;cases Q;cases hw.uniq (aD H1 e1);obtain rfl:=r1.r.im av;let P:=e1.trans e2;let(d,vs,G,U,U,h1,h2):=ru.r.dic;obtain rfl:=h2.im im1;let aH:=P.k d _ h1 (ru.n d g5) (λ_ z=>nomatch z)
   rw[r2.r.key ek];let(q1,q2):=Rp.putD ru r.d P (aN.put (r1.evo e1.d e2).r (h2.cA (P.tf r.d) (λ_ z=>z) bY))
   let(F',r'):=md _ _ _ q2 q1 (by simp) (λb hb=>by rw[ej.mp hb];exact .inl g5)
   exact(d,_,U,sW.k aH (by rw[h2.len];exact hl),E.nx _ σ _ (_,r') g)
  ·exact g.elim
 ·exact g.elim)
def RS(j:Nat)(ql:QL)(qv:QE):QS:=λD q=>ql q λp u=>match u with
 |.d xs=>qv q λy=>match y with
  |.l ys=>T.imk xs=O/\T.ims ys=O/\∃kts t,fe ys=Z kts/\xs.length+kts.length<=mV/\q[j]?=Z (.o t)/\D.nx (q.set j (.o (T.put (.d (aP xs kts)) p t)))
  |_=>False
 |_=>False
def Ku(hc:X.calm=O)(he:QPL X K j o te ql)(hv:QPF X K e tv qv)(hK:X.K=K:=by rfl)(cL:attributeBase o "update" X.env (eval o X.env)=eval o X.env:=by rfl)
  (iU:At X aS [e]:=by rfl)
  (cK:(apos.endLine==aS.line)=true:=by rfl) (hs:AC X e []:=by rfl) (cG:(backTo aS (kz [] X.env)).any (·.1)=false:=by rfl)
  (aE:swapsWith (.Call (.Attribute o "update" apos) [e] [] aS) Y dG.line X.env=pure false:=by rfl):
  QPS X K (.Expr (.Call (.Attribute o "update" apos) [e] [] aS) dG) (gD (tBM K "dict" Nw te (di tv fY))) (RS j ql qv) :=
 (fP (by subst hK;exact rF PySem.F.plainAttrs_dict PySem.F.slot_dict_update PySem.F.type_dict_update (HF hc) he.h (bL hv.h eu hs) cL iU cK hs cG) aE,λdl H₀ hs H σ q Dq D (F,r) hq E=>by
 refine he.s dl H σ q _ _ r.rd hq λt v p u w hj aD hs hw g=>?_
 split at g
 ·let(v2,w2,Fu,P,av,ru,nu,md):=r.mod hj hs;rw[aD]at P;cases P;cases hw.uniq (av H (.refl r.d));let(d,vs,G,U,U,h1,h2):=ru.r.dic;refine(.inr (.inr (.inl (U,.inl (_,h1)))),hv.s dl H σ q _ _ r.rd g λy ty Fy H1 e1 r1 f1 n1 g=>?_)
  split at g
  ·let(im1,V,kts,t',ek,hl,Q,g):=g;rw[hj]at Q;cases Q;obtain rfl:=h2.im im1;let aI:=e1.k d _ h1 (ru.n d g5) (λ_ z=>nomatch z)
   let aH:=h2.cA (e1.tf r.d) (λ_ z=>z) bY
   let(p2,ws,G2,U,aM,h3,h4):=r1.r.lst;obtain rfl:=h4.im V;let(ps,more,U,hlen,ht,hk):=h4.pairs U ek;let(q1,q2):=Rp.putD ru r.d e1 (aN.aP (kvs':=[]) (kts':=[]) hk U aH);let(F',r'):=md _ _ _ q2 q1 (by simp) (λb hb=>by rw[ej.mp hb];exact .inl g5)
   exact(d,p2,ps,vs,more,U,U,aI,h3,hlen,ht,by rw[h2.len,hk.len];exact hl,E.nx _ σ _ (_,r') g)
  ·exact g.elim
 ·exact g.elim)
end
def fR.pre{dl:Dl}(e:Evo dl H H1)(f:fR dl H1 F H')(hn:∀b∈F,Nd dl b):fR dl H F H' where
 k:=λb o h nb n g=>f.k b o (e.k b o h n g) nb n g
 r:=λb x h nb=>let(y,P,V):=e.r b x h;let(z,K,Q):=f.r b y V nb;(z,VN K P,Q)
 l:=λb xs q h=>f.l b xs q (e.k b _ h (hn b q) λ_ z=>nomatch z)
 d:=f.d
variable{n:Nat}{H₀:Hp}{q:Sq}
section
variable{X:Cx}{K:BT}{k:Nat}{b e o:Ev}{es:List Ev}{to:TE}{qo:QE}{tl:TA}{qa:QA}{ql:QL}{pos pos' apos dG:Pos}{m:Str}{C f:J}{fd:Ch}{prs:List Str}{ps:PSp}{pl:xy}
def AB(C:J)(m:Str)(ps:PSp)(qo:QE)(qa:QA):QE:=λq Q=>qo q λt=>match t with
 |.om x g ns ts=>g=C/\(ns.zip ts).lookup m=Y/\qa q λus=>ps (.om x g ns ts::us) Q
 |_=>False
def uA(ho:iy K to qo)(ha:zG K n tl qa):mT K (lK C m (spQ K ps) [] E0 to tl) (AB C m ps qo qa):=λdl H σ q Q R rd hq kk=>ho dl H σ q _ _ rd hq λw t Fu H1 V r1 g=>by
 split at g
 ·rename_i x C' ns ts;let(U,hl,g):=g;let(dx,vs,G,U,U,h1,h2,h3,h4):=r1.r.omm;refine(x,dx,_,U,h1,(HK h4.len).mp hl,ha dl H1 σ q _ _ (rd.evo V) g λws us Fa H2 P r2 _ g=>?_)
  rw[sQ];let z:=r1.evo V.d P;refine(dl,_,_,_,P.d,(.cons z.r r2.r,λb hb=>(p7.mp hb).elim (z.n b) (r2.n b)),g,λv t F' H' e3 r3 f3 n3 g=>kk v t F' H' ((V.trans P).trans e3) r3 (λb hb=>(V.trans P).free (f3 b hb)) n3 g)
 ·exact g.elim
def yj(V:Cls K C)(hm:Meth K C m f)(G:a8 X.prog X.w X.K X.mg X.base CX0 k f fd prs (spQ K ps))(hr:cy k X.A)(hb:Binds K fd prs [])(ho:QPE X K o to qo)(ha:QPA X K (e::es) tl qa)(hK:X.K=K:=by rfl)
  {g:Sem Bool} (q:AC X e es:=by rfl) (z:AM X pos es:=by rfl)
  (Q:eval (.Call (.Attribute o m apos) (e::es) [] pos) X.env=(do
   let P <- eval o X.env
   standAt apos.atName
   let(f,first) <- holding [P] (getMethod P m g)
   callWith pos f first (backTo pos (kz (e::es) X.env)) (backToKw pos (keywordEach [] X.env))):=by rfl):
  QPF X K (.Call (.Attribute o m apos) (e::es) [] pos) (lK C m (spQ K ps) [] E0 to tl) (AB C m ps qo qa):=(by subst hK;exact Cm ho.h V hm G hr hb .nil kH ha.h q z Q,uA ho.s ha.s)
def qG:zG K 0 fY (λ_ Q=>Q []):=λdl H σ q Q R rd hq g=>g [] [] [] H (.refl rd.d) (.nil,bY) U hq
def ic(P:Cls K C)(hm:Meth K C m f)(G:a8 X.prog X.w X.K X.mg X.base CX0 k f fd prs (spQ K ps))(hr:cy k X.A)(V:Binds K fd prs [])(ho:QPE X K o to qo)(hK:X.K=K:=by rfl)
  {g:Sem Bool} (z:eval (.Call (.Attribute o m apos) [] [] pos) X.env=(do
   let q <- eval o X.env
   standAt apos.atName
   let(f,first) <- holding [q] (getMethod q m g)
   callWith pos f first (backTo pos (kz [] X.env)) (backToKw pos (keywordEach [] X.env))):=by rfl):
  QPF X K (.Call (.Attribute o m apos) [] [] pos) (lK C m (spQ K ps) [] E0 to fY) (AB C m ps qo λ_ Q=>Q []):=(by subst hK;exact rB ho.h P hm G hr V .nil kH z,uA ho.s qG)
def vX(j:Nat)(C:J)(m:Str)(pl:xy)(ql:QL)(qa:QA)(q:Sq)(R:T->Sq->Prop):Prop:=ql q λp u=>match u with
 |.om x g ns ts=>g=C/\(ns.zip ts).lookup m=Y/\qa q λus=>T.ims us=O/\pl (.om x g ns ts::us) λr u'=>u'.adr=Z x/\r.im=O/\Ex3 (λt=>q[j]?=Z (.o t)) (λt=>q.set j (.o (T.put u' p t))) (R r)
 |_=>False
def m9{dl:Dl}(ho:TR K j to ql)(ha:zG K n tl qa)(hr:fF K dl H₀ hs H σ q)(hq:vX j C m pl ql qa q R)
  (kk:∀v r q' H',fF K dl H₀ hs H' σ q'->Rp K dl H' v r []->R r q'->Q v H'):lK C m (spL K 0 pl) [] E0 to tl σ H Q:=by
 let(F,r):=hr;refine ho dl H σ q _ _ r.rd hq λt v p u w hj hv aH hw g=>?_
 split at g
 ·rename_i x C' ns ts;let(U,hl,g):=g;let(v2,w2,Fu,P,aE,ru,nu,md):=r.mod hj aH;rw[hv]at P;cases P;cases hw.uniq (aE H (.refl r.d));let(dx,vs,G,U,eF,h1,h2,h3,h4):=ru.r.omm;refine(x,dx,_,U,h1,(HK h4.len).mp hl,ha dl H σ q _ _ r.rd g λws us Fa H2 e2 r2 _ g=>?_)
  let(aI,g):=g;rw[sQ];refine(dl,_,.ref x,.om x C' ns ts,Fu,_,e2.d,by rw[rl,rl,r2.r.len],U,U,ru.evo r.d e2,nu,.im λi v t ne a1 a2=>?_,g,λv rr Fr t' F' H' t7 aD n' aM rv _ _ _ g=>?_)
  ·cases i with
   |zero=>exact absurd U ne
   |succ i=>exact(r2.r.im1 aI i v t (by simpa using a1) (by simpa using a2),bY)
  ·let(_,ri,t0,av,g):=g;rw[hj]at av;cases av;let(F2,r'):=md H' t' F' (t7.pre e2 ru.n) aD n' λb hb=>(aM b hb).imp id e2.free
   obtain rfl:=rv.r.im ri;exact kk v rr _ H' (F2,r') rv g
 ·exact g.elim
def cC(hc:Cls K C)(hm:Meth K C m f)(G:a8 X.prog X.w X.K X.mg X.base CX0 k f fd prs (spL K 0 pl))(hr:cy k X.A)(hb:Binds K fd prs [])(ho:QPL X K j o to ql)(ha:QPA X K (e::es) tl qa)(hK:X.K=K:=by rfl)
  {g:Sem Bool} (z:AC X e es:=by rfl) (P:AM X pos es:=by rfl)
  (ht:eval (.Call (.Attribute o m apos) (e::es) [] pos) X.env=(do
   let Q <- eval o X.env
   standAt apos.atName
   let(f,first) <- holding [Q] (getMethod Q m g)
   callWith pos f first (backTo pos (kz (e::es) X.env)) (backToKw pos (keywordEach [] X.env))):=by rfl) (hs:swapsWith (.Call (.Attribute o m apos) (e::es) [] pos) Y dG.line X.env=pure false:=by rfl):
  QPS X K (.Expr (.Call (.Attribute o m apos) (e::es) [] pos) dG) (gD (lK C m (spL K 0 pl) [] E0 to tl)) (λD q=>vX j C m pl ql qa q λ_ q'=>D.nx q') :=
 (fP (by subst hK;exact Cm ho.h hc hm G hr hb .nil kH ha.h z P ht) hs,λdl H₀ hs H σ q Dq D r hq E=>m9 ho.s ha.s r hq λv rr q' H' V _ hz=>E.nx H' σ q' V hz)
def DW(hc:Cls K C)(hm:Meth K C m f)(G:a8 X.prog X.w X.K X.mg X.base CX0 k f fd prs (spL K 0 pl))(hr:cy k X.A)(hb:Binds K fd prs [])(ho:QPL X K j o to ql)(hK:X.K=K:=by rfl)
  {g:Sem Bool} (ht:eval (.Call (.Attribute o m apos) [] [] pos) X.env=(do
   let z <- eval o X.env
   standAt apos.atName
   let(f,first) <- holding [z] (getMethod z m g)
   callWith pos f first (backTo pos (kz [] X.env)) (backToKw pos (keywordEach [] X.env))):=by rfl) (hs:swapsWith (.Call (.Attribute o m apos) [] [] pos) Y dG.line X.env=pure false:=by rfl):
  QPS X K (.Expr (.Call (.Attribute o m apos) [] [] pos) dG) (gD (lK C m (spL K 0 pl) [] E0 to fY)) (λD q=>vX j C m pl ql (λ_ Q=>Q []) q λ_ q'=>D.nx q') :=
 (fP (by subst hK;exact rB ho.h hc hm G hr hb .nil kH ht) hs,λdl H₀ hs H σ q Dq D r hq E=>m9 ho.s qG r hq λv rr q' H' P _ V=>E.nx H' σ q' P V)
def aq.each{dl:Dl}{vs:List V}(h:aq K dl H vs ts F):∃G:Nat->List J,(∀i v t,vs[i]?=Z v->ts[i]?=Z t->ay K dl H v t (G i)/\∀b∈G i,b∈F)/\∀i,ts.length<=i->G i=[] :=
 h.ind (λ_=>[],λi v t h=>by simp at h,λ_ _=>rfl) λv x vs ts z P r _ q=>by
  let(G,g1,g2):=q;refine(λi=>match i with | 0=>z|i+1=>G i,λi w t h1 h2=>?_,λi hi=>?_)
  ·cases i with
   |zero=>cases h1;cases h2;exact(r,λb g=>qr _ g)
   |succ i=>exact((g1 i w t (by simpa using h1) (by simpa using h2)).1,λb g=>p6 _ ((g1 i w t (by simpa using h1) (by simpa using h2)).2 b g))
  ·cases i with
   |zero=>simp at hi
   |succ i=>exact g2 i (by simpa using hi)
def GI(C:J)(pl:xy)(qa:QA):QE:=λq Q=>qa q λus=>∀x,pl (.om x C [] []::us) λr u'=>r=.n/\u'.adr=Z x/\Q u'
def DJ(ha:zG K n tl qa):mT K (Fm C (spL K 0 pl) [] E0 tl) (GI C pl qa):=λdl H σ q Q R rd hq kk=>ha dl H σ q _ _ rd hq λws us Fa H1 g r1 _ hz=>by
 intro x dx nx P ne;rw[sQ];let e2:Evo dl H1 (upd (upd H1 dx (.own x)) x (.ins C dx [])):=((Evo.refl g.d).new P).new (by rw[ak ne.symm];exact nx)
 let r2:=r1.evo g.d e2;let ro:Rp K dl (upd (upd H1 dx (.own x)) x (.ins C dx [])) (.ref x) (.om x C [] []) [x,dx]:=(.om ax (by rw[ak ne,ax]) U .nil,λb V=>by
  obtain z|z:=kf.mp V
  ·rw[z];exact g.d.nd0 nx
  ·rw[ej.mp z];exact g.d.nd0 P)
 refine(dl,_,.ref x,.om x C [] [],[x,dx],_,e2.d,by rw[rl,rl,r2.r.len],U,U,ro,by simp[ne.symm],?_,hz x,λv rr Fr t' F' H' t7 av n' aD rv _ _ _ hz=>?_)
 ·let(G,g1,g2):=r1.r.each;refine(λi=>match i with | 0=>[]|i+1=>G i,λi v t hi a1 a2=>?_,λi hi=>?_)
  ·cases i with
   |zero=>exact absurd U hi
   |succ i =>
    let(p1,p2):=g1 i v t (by simpa using a1) (by simpa using a2)
    let rp:Rp K dl H1 v t (G i):=(p1,λb V=>r1.n b (p2 b V))
    refine(rp.evo g.d e2,λb V z=>?_)
    let th:=p1.there b V;obtain z|z:=kf.mp z
    ·rw[z]at th;exact th.no nx
    ·rw[ej.mp z]at th;exact th.no P
  ·cases i with
   |zero=>rfl
   |succ i=>exact g2 i (by simpa using hi)
 ·let(U,_,hz):=hz;let(U,_):=rv.r.non;let out:∀{b:J}{o:HO},H b=Z o->b ∉ [x,dx]:=λ{b o} h z=>by
   obtain z|z:=kf.mp z
   ·rw[z,g.free nx]at h;cases h
   ·rw[ej.mp z,g.free P]at h;cases h
  let ev:Evo dl H H':=(λb o h n nr=>t7.k b o (e2.k b o (g.k b o h n nr) n nr) (out h) n nr,t7.d,λb y h=>let(y1,l1,h1):=(g.trans e2).r b y h;let(y2,l2,h2):=t7.r b y1 h1 (out h);(y2,VN l2 l1,h2))
  refine(U,kk _ t' F' H' ev av (λb V=>?_) n' hz)
  obtain z|z:=aD b V
  ·obtain z|z:=kf.mp z
   ·rw[z];exact g.free nx
   ·rw[ej.mp z];exact g.free P
  ·exact(g.trans e2).free z
def qV(M:Mk K C f)(G:a8 X.prog X.w X.K X.mg X.base CX0 k f fd prs (spL K 0 pl))(hr:cy (k+1) X.A)(hg:Gl X x)(hm:X.mg x=Z (.ref C))(P:Binds K fd prs [])(ha:QPA X K (e::es) tl qa)(Q:X.K=K:=by rfl)
  (z:AS x:=by decide) (g:AC X e es:=by rfl) (q:AM X pos es:=by rfl):
  QPF X K (.Call (.Name x pos') (e::es) [] pos) (Fm C (spL K 0 pl) [] E0 tl) (GI C pl qa):=(by subst Q;exact Lu M G hr hg hm P .nil kH ha.h z g q,DJ ha.s)
end
abbrev QTL:=Sq->(Bool->Sq->Prop)->Prop
def N4(K:BT)(tc:TT)(qc:QTL):Prop:=∀(dl:Dl)(H₀:Hp)(hs:List (V×T))(H:Hp)(σ:St)(q:Sq)(R:Bool->Sq->Prop)(Q:Bool->Hp->Prop),fF K dl H₀ hs H σ q->qc q R->(∀b q' H',fF K dl H₀ hs H' σ q'->R b q'->Q b H')->tc σ H Q
structure E2(X:Cx)(K:BT)(c:Ev)(tc:TT)(qc:QTL):Prop where
 h:PT X c tc
 s:N4 K tc qc
structure EZ(X:Cx)(K:BT)(c:Ev)(tc:TT)(qc:QTL):Prop where
 h:PW X c tc
 s:N4 K tc qc
section
variable{X:Cx}{K:BT}{k:Nat}{a b c o:Ev}{rest:List Ev}{tA tB tc:TT}{qA:QT}{qa' qB qc:QTL}{to:TE}{ql:QL}{pos apos:Pos}{m:Str}{C f:J}{fd:Ch}{prs:List Str}{pl:xy}{body:List EQ}{t:TS}{qt:QS}
def OE(h:QPT X K a tA qA):E2 X K a tA (λq R=>qA q λb=>R b q):=(h.h,λdl H₀ hs H σ q R Q (F,r) hq g=>h.s dl H σ q _ _ r.rd hq λb H' P z=>g b q H' (F,r.evo P) z)
theorem EZ.pt(h:EZ X K a tA qa'):E2 X K a tA qa':=(PW.pt h.h,h.s)
def Gr(h:E2 X K a tA qa'):EZ X K (.BoolOp .And [a] pos) tA qa':=(v5 h.h,h.s)
def Kt(h:E2 X K a tA qa')(h2:EZ X K (.BoolOp .And (b::rest) pos) tB qB):EZ X K (.BoolOp .And (a::b::rest) pos) (JN tA tB) (λq R=>qa' q λc q'=>if c=O then qB q' R else R ϊ q'):=(AE h.h h2.h,λdl H₀ hs H σ q R Q r hq z=>h.s dl H₀ hs H σ q _ _ r hq λb q' H' g P=>by
 cases b with
 |true=>exact h2.s dl H₀ hs H' σ q' _ _ g P z
 |false=>exact z ϊ q' H' g P)
def DU(hc:Cls K C)(hm:Meth K C m f)(G:a8 X.prog X.w X.K X.mg X.base CX0 k f fd prs (spL K 0 pl))(hr:cy k X.A)(hb:Binds K fd prs [])(ho:QPL X K j o to ql)(hK:X.K=K:=by rfl)
  {g:Sem Bool} (ht:eval (.Call (.Attribute o m apos) [] [] pos) X.env=(do
   let P <- eval o X.env
   standAt apos.atName
   let(f,first) <- holding [P] (getMethod P m g)
   callWith pos f first (backTo pos (kz [] X.env)) (backToKw pos (keywordEach [] X.env))):=by rfl)
  (he:∀whole,isTrue (.Call (.Attribute o m apos) [] [] pos) X.env whole=(do let v <- whole;standAt (Expr.pos (.Call (.Attribute o m apos) [] [] pos));holding [v] (truthy v)):=by intro _;rfl):
  E2 X K (.Call (.Attribute o m apos) [] [] pos) (L2.tB (lK C m (spL K 0 pl) [] E0 to fY)) (λq R=>vX j C m pl ql (λ_ Q=>Q []) q λr q'=>match r with|.b x=>R x q' |_=>False) :=
 (OY (by subst hK;exact rB ho.h hc hm G hr hb .nil kH ht) he,λdl H₀ hs H σ q R Q r hq kk=>m9 ho.s qG r hq λv rr q' H' V rv z=>by
  split at z
  ·let(U,_):=rv.r.bl;exact(_,U,kk _ q' H' V z)
  ·exact z.elim)
inductive QK(c:QTL)(tb:QS)(D:dW)(q:Sq):Prop
 |mk (W:Nat->Sq->Prop) (h0:∃m,W m q) (turn:∀m q,W m q->c q λb q'=>if b=O then N3 tb D W m q' else D.nx q')
def DV(hp:Xr (model X.prog X.w) X.A X.env X.xe)(Q:E2 X K c tc qc)(V:oh X K body t qt):QPS X K (.While c body [] pos) (vq tc t) (λD q=>QK qc qt D q):=(qY hp Q.h V.h,λdl H₀ hs H σ q Dq D r hq E=>by
 let(W,(m0,w0),turn):=hq;refine(λm σ H=>∃q,fF K dl H₀ hs H σ q/\W m q,(m0,q,r,w0),?_)
 rintro m σ H ⟨q,r,w⟩
 refine Q.s dl H₀ hs H σ q _ _ r (turn m q w) λb q1 H1 P z=>?_
 cases b with
 |false=>exact E.nx H1 σ q1 P z
 |true =>
  let(N,hN,z):=z;refine(λg H'=>∃q',fF K dl H₀ hs H' g q'/\N q',λg H' (q',r',n')=>?_,?_)
  ·let(m',hm,w'):=hN q' n';exact(m',hm,q',r',w')
  ·exact V.s dl H₀ hs H1 σ q1 _ _ P z (λH σ q r n=>(q,r,n),λH σ q r n=>E.nx H σ q r n,λH σ q r n=>(q,r,n),E.rt,E.ru))
end
end L2
namespace PySem
open Sem (wp)
section
variable{prog:Da}{w:Cl}{A:Db}{E:B->ϋ->Prop}
def t8:typeLookup (.type "zip") "keys"=pure none:=am_miss_of_fast (by decide +kernel)
def kx:typeLookup (.type "zip") "__getattr__"=pure none:=by kernel_rfl
def gC:entryFor table "zip.__getattribute__"=Z Builtin.«object.__getattribute__» :=
 entryFor_alias (id':="object.__getattribute__") (by kernel_rfl) (by decide +kernel) (by decide +kernel) (by kernel_rfl)
def rH(a:J)(vs:Array B)(sl:Array (Option B))(u:Tok):
  Meets (Builtin.«object.__getattribute__» ([.ref a,.str "keys" u],[])) (λA R s=>s.heap.get? a=Z {cls:=.type "zip",dict:=Y,data:=.fields vs,slots:=sl}/\raisesAttr (.ref a) "keys" A R s) :=
 Meets.of_wp λprog w A R s hs=>by
  let(hp,g,d,tk,os):=s;let(hx,hs):=hs;let hT:((hp,g,d,tk,os):ϋ).TypeIs (.ref a) "zip":=(_,hx,U);let q:=t8;unfold Builtin.«object.__getattribute__»
  repeat (any_goals (first|assumption|wp_step))
  exact wpAny_raiseAttrError hs.1 hs.2 (attrMsg_fits (by decide +kernel) (by size_fits))
set_option maxRecDepth 8000 in
theorem t9{s:ϋ}{a:J}{vs:Array B}{sl:Array (Option B)}{Q:Option B->ϋ->Prop}
  (hx:s.heap.get? a=Z {cls:=.type "zip",dict:=Y,data:=.fields vs,slots:=sl}) (K:A.handled=Y)
  (h:∀h' tk,(∀b o,s.heap.get? b=Z o->h'.get? b=Z o)->Q Y {s with heap:=h',toks:=tk}):
  wpAny (model prog w) A (getAttr? (.ref a) "keys") Q E s:=by
 let(hp,g,d,tk,os):=s;let hT:∀q,((hp,g,d,q,os):ϋ).TypeIs (.ref a) "zip":=λ_=>(_,hx,U)
 let f1:=sub_AttributeError;let V:=F.slot_zip_getattribute.lookup;let f4:=F.slot_zip_getattribute.bind (.ref a);let P:=kx;unfold getAttr? getAttrBy? getAttrBy
 repeat (any_goals (first|assumption|exact hT _|((with_reducible show wpAny _ _ (call (B.builtin "zip.__getattribute__") _ _) _ _ _);refine call_meets F.slot_zip_getattribute (hT _) gC (F.args_zip_getattribute_2 _ _) (rH a vs sl _) (hx,K,λh' q e z=>?_))|wp_step))
 let(t',u',he):=z.there;show wpAny _ _ (getattributeRaised _ _ _ _ _ _ _) _ _ _;unfold getattributeRaised
 repeat (any_goals (first|assumption|wp_step))
 exact h _ _ z.keeps
end
end PySem
namespace L2
open PySem PySem.Spec PyProof.Rows
variable{R:Result->ϋ->Prop}{S:J}{z:J}{i1:J}{i2:J}{l1:J}{l2:J}{xs:Array B}{ys:Array B}{n:Nat}
section
variable{prog:Da}{w:Cl}{A:Db}{s:ϋ}{κ:Type}[DecidableEq κ]{knd:KeyKind prog w κ}
def JE{TI TO:J}{t1 t2:Bool}{pairs:List (κ×B)}(hh:A.handled=Y)(D:ZipApart z TI TO i1 i2 l1 l2)(Q:z≠S)(wX:TI≠S)(nS:TO≠S)(aD:i1≠S)(av:i2≠S)(wW:l1≠S)(wV:l2≠S)
  (en:n=min xs.size ys.size) (hn:n<=mV) (aQ:pairs.length=n) (aM:∀(i:Nat) x y,xs[i]?=Z x->ys[i]?=Z y->∃k,pairs[i]?=Z (k,y)/\knd.is k x=O) (res:B) {h₁:Do}
  (hR:∀h' tk,(∀b o,b≠S->b≠z->b≠TO->b≠i1->b≠i2->h₁.get? b=Z o->h'.get? b=Z o)->h'.DictOf knd S (merged [] pairs)->R (.ok (.ret res)) {s with heap:=h',toks:=tk}):
  ∀(k i:Nat)(h:Do)(tk:Nat),n - i=k->i<=n->ZSt h z TI TO i1 i2 l1 l2 S t1 t2 i->a9 h t1 l1 xs->a9 h t2 l2 ys->(∀b o,b≠S->b≠z->b≠TO->b≠i1->b≠i2->h₁.get? b=Z o->h.get? b=Z o) ->
   h.DictOf knd S (merged [] (pairs.take i))->codeAny (model prog w) A (.builtin "dict.update.loop" ([.ref S,.ref z,rawInt i,res],[])) R {s with heap:=h,toks:=tk}:=by
 intro k
 induction k with
 |zero =>
  intro i h tk hk hi V P K rY hS;let a4:i=n:=by omega
  refine VI PySem.F.bR ?_;refine cO (BH hh D V P K ?_ λh' he=>?_)
  ·by_cases q:xs.size<=i
   ·exact .inl (VS q)
   ·exact .inr (VS (by omega))
  refine cO (k4 (k4 (hR h' tk (λb o b1 b2 b3 b4 b5 e=>he b o b2 b3 b4 b5 (rY b o b1 b2 b3 b4 b5 e)) ?_)))
  rw[a4,<- aQ,uj]at hS;let(o,es,ep,ho,r):=hS;exact(o,es,ep,he S o Q.symm nS.symm aD.symm av.symm ho,r)
 |succ k ih =>
  intro i h tk hk hi V P K rY hS;let aE:=Wk hk;let hm:=X7.mp (en▸aE);let hx:=VJ hm.1;let hy:=VJ hm.2;let(key,a3,aS):=aM i _ _ hx hy;let U7:S<h.objs.size:=by let(_,_,_,e,_):=hS;exact kE e
  refine VI PySem.F.bR ?_;refine cO (BG D V U7 P K hx hy λh' ua ht hz g=>?_)
  let a5:h'.DictOf knd S (merged [] (pairs.take i)):=by
   let(o,es,ep,ho,r):=hS;exact(o,es,ep,g S o Q.symm nS.symm aD.symm av.symm ho,r)
  refine cO (E7 (cO (wpAny_tryCatch ?_)));refine cO (Vx (_,ht,U) ?_);refine cO (wpAny_seqItems ht U (k4 ?_));let a6:(merged [] (pairs.take i)).length<=mV:=by
   let h1:=PySem.kJ [] (pairs.take i);rw[zL,Wi]at h1;omega
  refine E7 (wpAny_dictSet_pairs aS a5 λaH Bi aI=>?_)
  let e:=merged_take_succ [] pairs i (key,_) a3;rw[<- e]at Bi;let fr:∀b o,b≠S->h'.get? b=Z o->aH.get? b=Z o:=λb o hb eb=>(aI.2 b hb).trans eb
  refine k4 (QY PySem.F.bq _,ih (i+1) aH (tk+1) (by rw[WV,hk];rfl) aE (ua.keep fr Q wX nS aD av) ?_ ?_ (λb o b1 b2 b3 b4 b5 eb=>fr b o b1 (g b o b2 b3 b4 b5 (rY b o b1 b2 b3 b4 b5 eb))) Bi)
  ·exact P.at λo e=>fr _ o wW (g _ o D.l1z D.l1TO D.l1i1 D.l1i2 e)
  ·exact K.at λo e=>fr _ o wV (g _ o D.l2z D.l2TO D.l2i1 D.l2i2 e)
end
def xY(K:BT)(t1 t2:Bool)(tl:TA):TE:=λσ H R=>tl σ H λvs H1=>∃(l1 l2:J)(ks:List Key)(ys:List V),vs=[.ref l1,.ref l2]/\SqB K t1 H1 l1 (ks.map kV)/\SqB K t2 H1 l2 ys/\∀d,H1 d=Y->R (.ref d) (upd H1 d (.dK (dr [] (ks.zip ys))))
theorem HU:∀{ks:List Key}{ys:List V}{us:List B},Vals ys us->KV (ks.zip ys) (ks.zip us)
 |[],_,_,_=>.nil
 |_::_,_,_,.nil=>.nil
 |k::ks,_,_,.cons h r=>.cons (U,h) (HU r)
section
variable{X:Cx}{a b:Ev}{tl:TA}{pos p cq p2:Pos}{t1 t2:Bool}
theorem AU(hg:Gl X "dict")(hm:X.mg "dict"=Y)(b0:Gl X "zip")(bw:X.mg "zip"=Y)(ha:PA X [a,b] tl)(hs:kz [a,b] X.env=[(ϊ,eval a X.env),(ϊ,eval b X.env)])(aM:AD X b)
  (aI:kz [.Call (.Name "zip" p2) [a,b] [] cq] X.env=(ϊ,eval (.Call (.Name "zip" p2) [a,b] [] cq) X.env)::kz [] X.env) (hc:X.calm=O):
  PE X (.Call (.Name "dict" p) [.Call (.Name "zip" p2) [a,b] [] cq] [] pos) (xY X.K t1 t2 tl):=by
 intro gV s σ H R I h;refine Call_ (dM I hg hm (by kernel_rfl) (PyProof.Rows.callWith_type1 (T:="dict") ?_ aI (by rfl)))
 rw[aI];refine Calls.spliced_cons ?_;refine Call_ (dM I b0 bw (by kernel_rfl) (PyProof.Rows.callWith_type1 (T:="zip") (thn (ha cq gV s σ H _ I h) λus s1 (vs,H1,I1,r1,q1)=>?_) (by rw[hs,aM]) (by rw[aM];rfl)))
 let(l1,l2,ks,ys,e,q2,q3,q):=q1;subst e;let(u1,u2,U,bt,a7):=vals2 r1;cases bt;cases a7;let(Ey,aE,o1,z1):=I1.ng (tp:=t1) q2;let(bD,aD,o2,z2):=I1.ng (tp:=t2) q3;let(cz,e1):=o1.obj;let(cx,e2):=o2.obj;let g1:l1<s1.heap.objs.size:=kE e1;let g2:l2<s1.heap.objs.size:=kE e2;let hh:X.A.handled=none:=I1.ok.hd hc;refine iZ o1 o2 λh1 Q a5 a4 a3 aS V=>?_
 refine Calls.spliced_nil ?_;let nz:s1.heap.objs.size+4<h1.objs.size:=kE Q;let aH:=aE.length;let cb:=aD.length;rw[dz]at aH z1;refine callType_codes (s:={s1 with heap:=h1}) (Q₁:=λobj P=>obj=.ref h1.objs.size/\P={s1 with heap:=h1.push {cls:=.type "dict",data:=.dict #[]}}) F.kt_called_dict (F.kt_typeCall_dict_1 _) F.entry_dict_init (kt_code_dict_new _ (U,U)) ?_
 rintro obj P ⟨rfl,rfl⟩
 let rX:(h1.push {cls:=.type "dict",data:=.dict #[]}).DictOf (bB X.prog X.w) h1.objs.size []:=Heap.DictOf.new h1;refine(rX.typeIs,F.args_dict_init_2 _ _,?_);unfold Builtin.«dict.__init__»;refine cO ?_;unfold Builtin.Dict.selfAndRest;refine cO (wpAny_notOrdered_dict rX.typeIs ?_);refine k4 ?_;show wpAny _ _ (Builtin.Dict.updateFrom "dict.__init__" h1.objs.size (.ref (s1.heap.objs.size+4)) [] .none) _ _ _;unfold Builtin.Dict.updateFrom;let up:∀b o,h1.get? b=Z o->(h1.push {cls:=.type "dict",data:=.dict #[]}).get? b=Z o:=λb o e=>ja _ e
 refine cO (Vx (T:="zip") (_,up _ _ Q,U) ?_);rw[if_pos (by decide)]
 refine cO (t9 (up _ _ Q) hh λh2 av k2=>?_)
 refine cO (VL ?_);refine cO (wpAny_pyIter_zip (s:={s1 with heap:=h2,toks:=av}) (k2 _ _ (up _ _ Q)) ?_)
 let g:=λb o e=>k2 b o (up b o e)
 let(ct,b7,_):=a3.obj;let(cc,b6,_):=aS.obj;let ne:∀{b:J}{o:Obj},h1.get? b=Z o->b≠h1.objs.size:=λe=>sR (kE e)
 refine k4 (QY F.bq _,JE (A:=X.A.in1) (s:=s1) (knd:=bB X.prog X.w) (h₁:=h2) (t1:=t1) (t2:=t2) (xs:=Ey.toArray) (ys:=bD.toArray) (pairs:=ks.zip bD) hh (jr g1 g2) (ne Q) (ne a5) (ne a4) (ne b7) (ne b6) (ne (V _ _ e1)) (ne (V _ _ e2)) U ?_ ?_ (λi x y hx hy=>?_) .none (λh' a6 bP hd=>?_) _ 0 h2 av U (Jf _) (g _ _ a5,a3.at λo e=>g _ o e,aS.at λo e=>g _ o e,.inl (g _ _ Q,.none,.none,g _ _ a4)) (o1.at λo e=>g _ o (V _ o e)) (o2.at λo e=>g _ o (V _ o e)) (λ_ _ _ _ _ _ _ e=>e) ?_)
 ·rw[p5,p5];omega
 ·rw[Ii,p5,p5];omega
 ·rw[Wl]at hx hy;let aQ:i<ks.length:=by rw[aH];exact(j3.mp hx).1
  let(u,hu,ru):=aE.get (i:=i) (x:=kV ks[i]) (by rw[j5,eO aQ];rfl)
  rw[hx]at hu;cases hu;exact(ks[i],Fs.mpr (eO aQ,hy),jJ ru)
 ·let fr:∀b u,s1.heap.get? b=Z u->h'.get? b=Z u:=λb u e=>by
   let lt:b<s1.heap.objs.size:=kE e;let ne':∀m:Nat,s1.heap.objs.size<=m->b≠m:=λm hm z=>absurd (z▸lt:m<s1.heap.objs.size) (by omega)
   exact bP b u (ne (V _ _ e)) (ne' _ (by omega)) (ne' _ (by omega)) (ne' _ (mW _)) (ne' _ (by omega)) (g b u (V b u e))
  let fresh:s1.heap.objs.size<=h1.objs.size:=by omega
  refine(U,.ref h1.objs.size,_,I1.laid (t':=a6) (h':=h') (a:=h1.objs.size) (o:=.dK (dr [] (ks.zip ys))) fr fresh ?_,U,q _ (I1.hok.fresh fresh));refine nU ?_ ?_ (KV.merge (HU aD) .nil) hd
  ·have:=dw (ks.zip ys) []
   rw[Ii,Wi]at this;omega
  ·have:=I1.big
   exact beq_eq_false_iff_ne.mpr (Jh (zI this fresh))
 ·let(o,es,ep,ho,r):=rX;exact(o,es,ep,k2 _ _ ho,r)
end
def jI:List T->Option (List Key)
 |[]=>Z []
 |x::r=>match x.key,jI r with
  |some k,Z ks=>Z (k::ks)
  |_,_=>Y
theorem aq.NN{K:BT}{dl:Dl}:∀{xs:List T}{vs:List V}{F:List J}{ks:List Key},aq K dl H vs xs F->jI xs=Z ks->vs=ks.map kV
 |[],_,_,_,h,e=>by cases h;cases e;rfl
 |x::r,_,_,_,h,e=>by
  cases h with
  |cons h1 h2 =>
   unfold jI at e
   split at e
   ·next k ks q g =>
    cases e;rw[h1.key q,aq.NN h2 g];rfl
   ·cases e
theorem aN.Q6{K:BT}{dl:Dl}:∀{ks:List Key}{vs:List V}{ts:List T}{F:List J},aq K dl H vs ts F->F=[]->aN K dl H (ks.zip vs) (ks.zip ts) []
 |[],_,_,_,_,_=>.nil
 |_::_,_,_,_,.nil,_=>.nil
 |k::ks,_,_,_,.cons h r,e=>by
  let(q,g):=Dd.mp e;subst q g;exact .cons h (aN.Q6 r U)
section
variable{X:Cx}{K:BT}{a b:Ev}{tl:TA}{ql:QA}{pos p cq p2:Pos}
def GO(t2:Bool)(ql:QA):QE:=λq Q=>ql q λts=>on2 ts λt u=>match t with
 |.l xs=>match u with
  |.t ys=>t2=O/\T.ims ys=O/\Ex3 (λks=>jI xs=Z ks) (λks=>(.d (aP [] (ks.zip ys)))) Q
  |.zl ys=>t2=ϊ/\T.ims ys=O/\Ex3 (λks=>jI xs=Z ks) (λks=>(.d (aP [] (ks.zip ys)))) Q
  |.l ys=>t2=ϊ/\T.ims ys=O/\Ex3 (λks=>jI xs=Z ks) (λks=>(.d (aP [] (ks.zip ys)))) Q
  |_=>False
 |_=>False
def qX{t2:Bool}(hg:Gl X "dict")(hm:X.mg "dict"=Y)(aH:Gl X "zip")(aE:X.mg "zip"=Y)(ha:QPA X K [a,b] tl ql)(hK:X.K=K:=by rfl)(hs:kz [a,b] X.env=[(ϊ,eval a X.env),(ϊ,eval b X.env)]:=by rfl)(aD:AD X b:=by rfl)
  (av:kz [.Call (.Name "zip" p2) [a,b] [] cq] X.env=(ϊ,eval (.Call (.Name "zip" p2) [a,b] [] cq) X.env)::kz [] X.env:=by rfl) (hc:X.calm=true:=by rfl):
  QPF X K (.Call (.Name "dict" p) [.Call (.Name "zip" p2) [a,b] [] cq] [] pos) (xY K ϊ t2 tl) (GO t2 ql):=(by subst hK;exact AU hg hm aH aE ha.h hs aD av hc,λdl H σ q Q R rd hq k=>ha.s dl H σ q _ _ rd hq λvs ts F H1 e1 r1 l1 g=>by
 let go:∀{v1 v2:V}{xs ys:List T}{F1:List J},ay K dl H1 v1 (.l xs) F1->(∃l2 ws G,v2=.ref l2/\SqB K t2 H1 l2 ws/\aq K dl H1 ws ys G)->T.ims ys=O->(Ex3 (λks=>jI xs=Z ks) (λks=>(.d (aP [] (ks.zip ys)))) Q) ->
   ∃(l1 l2:J)(ks:List Key)(ws:List V),[v1,v2]=[.ref l1,.ref l2]/\SqB K ϊ H1 l1 (ks.map kV)/\SqB K t2 H1 l2 ws/\∀d,H1 d=Y->R (.ref d) (upd H1 d (.dK (dr [] (ks.zip ws)))):=by
  rintro v1 v2 xs ys F1 h1 ⟨l2,ws,G,rfl,h2,h3⟩ im ⟨ks,ek,hq⟩
  let(l,vs,G1,U,U,a1,a2):=h1.lst;obtain rfl:=aq.NN a2 ek;obtain rfl:=h3.im im;refine(l,l2,ks,ws,U,SqL.of a1,h2,λd hd=>?_)
  let rk:aN K dl H1 (dr [] (ks.zip ws)) (aP [] (ks.zip ys)) []:=aN.aP (kvs':=[]) (kts':=[]) (aN.Q6 h3 U) U .nil;let e2:=(Evo.refl e1.d).new (o:=.dK (dr [] (ks.zip ws))) hd;exact k _ _ [d] _ (e1.new hd) (.d ax (rk.cA (e2.tf e1.d) (λ_ z=>z) bY),λb hb=>by rw[ej.mp hb];exact e1.d.nd0 hd) (λb hb=>by rw[ej.mp hb];exact e1.free hd) (by simp) hq
 replace g:=on2.inv g
 let(t,u,U,g):=g
 split at g
 ·cases u with
  |t _ =>
   let(U,im,g):=g;cases r1.r with
   |cons h1 r=>cases r with
    |cons h2 P =>
     cases P;let(l2,ws,U,b1,b2):=h2.tup;exact go h1 (l2,ws,_,U,SqT.of b1,b2) im g
  |zl _ =>
   let(U,im,g):=g;cases r1.r with
   |cons h1 r=>cases r with
    |cons h2 P =>
     cases P;let(l2,o,ws,U,_,b1,b2):=h2.zls;exact go h1 (l2,ws,_,U,.inl (.inr (o,b1)),b2) im g
  |l _ =>
   let(U,im,g):=g;cases r1.r with
   |cons h1 r=>cases r with
    |cons h2 P =>
     cases P;let(l2,ws,G,U,_,b1,b2):=h2.lst;exact go h1 (l2,ws,_,U,SqL.of b1,b2) im g
  |_=>exact g.elim
 ·exact g.elim)
end
end L2
namespace PySem
open Sem (wp)
section
variable{prog:Da}{w:Cl}{A:Db}{R:Result->ϋ->Prop}{I:J}{fp wr:List J}{n:Nat}{P:Nat->B->Prop}{St:Nat->Do->Prop}{kw:List (Str×B)}
theorem Eo(W:Walks prog w A.in1 I fp wr n P St)(bt:Nat->Nat->Bool)(U3:CmpOf prog w A.in1 .Gt P bt)(S:J)(aQ:S ∉ fp):
  ∀(k j:Nat)(s:ϋ)(Q:B)(c:Nat),n - (j+1)=k->j+1<=n->St (j+1) s.heap->P (argBest bt j) Q ->
  s.heap.get? S=Z {cls:=.type "list",dict:=Y,data:=.seq #[Q,Q] c,slots:=#[]} ->
  (∀v h' tk,P (argBest bt (n - 1)) v->(∀b o,b ∉ wr->b≠S->s.heap.get? b=Z o->h'.get? b=Z o)->R (.ok (.ret v)) {s with heap:=h',toks:=tk}) ->
  codeAny (model prog w) A (.builtin "max.loop" ([.ref I,.none,.ref S],kw)) R s:=by
 let aM:S ∉ wr:=λh=>aQ (W.sub _ h)
 let CJ:(toString "max" ++ toString ".loop":String)="max.loop":=by decide
 intro k
 induction k with
 |zero =>
  intro j s Q c hk hj av V hS hR;let aI:j+1=n:=by omega
  refine VI F.entry_max_loop ?_;refine cO (wpAny_seqItems hS U ?_);refine cO (wpAny_tryCatch (W.done s _ _ (aI▸av) λh' tk q=>?_))
  let K:=q S _ aM hS;refine cO (TH K U (cO (wpAny_letGo (k4 (hR Q _ tk (by rw[<- aI];exact V) λb o g z e=>(zK _ _ (Ne.symm z)).trans (q b o g e))))))
 |succ k ih =>
  intro j s Q c hk hj av V hS hR;let aD:=Wk hk;refine VI F.entry_max_loop ?_;refine cO (wpAny_seqItems hS U ?_);refine cO (wpAny_tryCatch (W.item (j+1) s _ _ aD av λv h' tk hP ua q=>?_))
  let K:=q S _ aM hS;show wpAny _ A.in1 (tryCatch (holding [v,v] (richCompare .Gt v Q >>= _)) _ >>= _) _ _ _;refine cO (wpAny_tryCatch (E7 (cO (U3 (j+1) (argBest bt j) v Q _ _ _ hP V (cO (E7 (wpAny_truthy_bool (cO (wpAny_letGo (k4 ?_))))))))));cases hb:bt (j+1) (argBest bt j)with
  |true =>
   refine cO ?_;refine TH K U (cO (wpAny_letGo ?_));rw[CJ];refine k4 (QY F.plain_max_loop _,ih (j+1) _ v _ (by rw[WV,hk];rfl) aD (W.frame _ _ _ ua λb aS o e=>?_) (by simp only[argBest,hb,if_true];exact hP) (BW _ K U)
    λv' aH Fj aE Ie=>?_)
   ·exact(zK _ _ (λh:S=b=>aQ (by rw[h];exact aS))).trans e
   ·exact hR v' aH Fj aE λb o g z e=>Ie b o g z ((zK _ _ (Ne.symm z)).trans (q b o g e))
  |false =>
   refine cO (wpAny_letGo ?_);rw[CJ];refine k4 (QY F.plain_max_loop _,ih (j+1) _ Q c (by rw[WV,hk];rfl) aD ua (by simp only[argBest,hb,Wu,if_false];exact V) K λv' aH Fj aE Ie=>?_)
   exact hR v' aH Fj aE λb o g z e=>Ie b o g z (q b o g e)
end
def F.EV(a d:B):argsOk "max" ([a],[("default",d)]):=by kernel_rfl
section
variable{prog:Da}{w:Cl}{A:Db}{E:B->ϋ->Prop}{s:ϋ}
def nX{id:String}(z:builtinKind id=Y)(hp:plainId id=O)(K:entryFor table id=Z b)(ha:argsOk id (args,kw))
  (g:wpAny (model prog w) A.in1 (b (args,kw)) (λfin s'=>match fin with
   |.done f=>(match(Except.ok f:Result)with|.ok (.ret v)=>Q v s' |.ok _=>False|.error e=>E e s')
   |.again q=>q.quiet=O/\codeAny (model prog w) A q (λr s'=>match r with|.ok (.ret v)=>Q v s' |.ok _=>False|.error e=>E e s') s') E s):
  wpAny (model prog w) A (call (.builtin id) args kw) Q E s:=by
 refine wpAny_call (codeAny_call_builtin hp K ?_);simp only[checkBuiltinCall,z];cases P:Manifest.signature? id with
 |none=>exact k4 g
 |some sig =>
  simp only[argsOk,P]at ha;let h2:=ha;show wpAny _ A.in1 (Bind.checkArgs id sig (args,kw)) _ _ s;rw[h2];exact k4 g
theorem EN{its:Array B}{d:B}{Q:B->ϋ->Prop}(val:Nat->Int)(hh:A.handled=Y)(hl:s.heap.IsList l its)(hv:∀(i:Nat) v,its[i]?=Z v->∃t,v=.int (val i) t)
  (hQ:∀v h' tk,(its.size=0->v=d)->(0<its.size->its[argBest (λi j=>decide (val i > val j)) (its.size - 1)]?=Z v)->(∀b o,s.heap.get? b=Z o->h'.get? b=Z o)->Q v {s with heap:=h',toks:=tk}):
  wpAny (model prog w) A (call (.builtin "max") [.ref l] [("default",d)]) Q E s:=by
 let CJ:(toString "max" ++ toString ".loop":String)="max.loop":=by decide
 let(ol,P,aE,nl,aD):=id hl;refine nX F.kind_max F.plain_max F.entry_max (F.EV _ _) ?_;refine cO (Wc (show Builtin.Builtins.bindParams "max" ["key","default"] 0 ([],[("default",d)])=pure [Y,Z d]from by kernel_rfl) (cO (k4 (cO (wpAny_pyIter_list hl (cO (VQ ?_)))))))
 rw[CJ];let V:=kE P;let hsz:∀o:Obj,(s.heap.push o).objs.size=s.heap.objs.size+1:=λo=>zM _ _
 let W:=Walks.list (prog:=prog) (w:=w) (A:=A.in1) hh s.heap.objs.size l (sR V) its;let K:(λi (h:Do)=>h.IsListIter s.heap.objs.size l i/\h.IsList l its) 0 ((s.heap.push {cls:=.type "list_iterator",data:=.fields #[.ref l,.int 0 0]}).push {cls:=.type "list",data:=.seq ([]:List B).toArray}) :=
  ((_,ja _ (pB _ U),U,U),(ol,ja _ (ja _ P),aE,nl,aD))
 let hS:((s.heap.push {cls:=.type "list_iterator",data:=.fields #[.ref l,.int 0 0]}).push {cls:=.type "list",data:=.seq ([]:List B).toArray}).get? (s.heap.objs.size+1)=Z {cls:=.type "list",dict:=Y,data:=.seq #[],slots:=#[]}:=by
  rw[<- hsz];exact pB _ U
 let q:s.heap.objs.size+1 ∉ [s.heap.objs.size,l]:=λz=>by
  obtain z|z:=kf.mp z
  ·exact absurd z (Jh (VA _))
  ·exact absurd (ej.mp z) (Jh (V2 V))
 let aI:=λz=>q (kf.mpr (.inl (ej.mp z)))
 let up:∀b o,s.heap.get? b=Z o->((s.heap.push {cls:=.type "list_iterator",data:=.fields #[.ref l,.int 0 0]}).push {cls:=.type "list",data:=.seq ([]:List B).toArray}).get? b=Z o:=λb o e=>ja _ (ja _ e)
 let old:∀b o,s.heap.get? b=Z o->b ∉ [s.heap.objs.size]/\b≠s.heap.objs.size+1:=λb o e=>by
  have:=kE e
  exact(λz=>sR this (ej.mp z),sR (V2 this))
 rw[hsz];refine k4 (QY F.plain_max_loop _,VI F.entry_max_loop ?_);refine cO (wpAny_seqItems hS U ?_);by_cases h0:its.size=0
 ·exact cO (wpAny_tryCatch (W.done _ _ _ (by rw[h0];exact K) λh' tk g=>(cO (VL (k4 (hQ d h' tk (λ_=>rfl) (λz=>absurd z (by omega)) λb o e=>g b o (old b o e).1 (up b o e)))))))
 ·refine cO (wpAny_tryCatch (W.item 0 _ _ _ (by omega) K λv h' tk hP ua g=>?_))
  let av:=g _ _ aI hS;show wpAny _ A.in1 (updateSeq (s.heap.objs.size+1) (λ_=>#[v,v]) >>= _) _ _ _
  refine cO ?_;refine TH av U ?_;refine k4 (QY F.plain_max_loop _,Eo W _ (CmpOf.ints_gt val hv) (s.heap.objs.size+1) q _ 0 _ v _ U (by omega) (W.frame _ _ _ ua λb aH o e=>?_) hP (BW _ av U) λv' aQ Fj aM Ie=>?_)
  ·exact(zK _ _ (λh=>q (by rw[h];exact aH))).trans e
  ·exact hQ v' aQ Fj (λz=>absurd z h0) (λ_=>aM) λb o e=>Ie b o (old b o e).1 (old b o e).2 ((zK _ _ (Ne.symm (old b o e).2)).trans (g b o (old b o e).1 (up b o e)))
end
end PySem
namespace L2
open PySem PySem.Spec PyProof.Rows
def yX(ns:List Int)(d:Int):Int:=match ns with
 |[]=>d
 |x::r=>r.foldl max x
theorem foldl_max:∀(r:List Int)(x:Int),(r.foldl max x=x\/r.foldl max x∈r)/\x<=r.foldl max x/\∀y∈r,y<=r.foldl max x
 |[],x=>(.inl U,E6 _,λ_ h=>nomatch h)
 |y::r,x=>by
  let(h1,h2,h3):=foldl_max r (max x y);refine(?_,VN (Int.le_max_left x y) h2,λz g=>?_)
  ·obtain h1|h1:=h1
   ·show List.foldl max (max x y) r=x\/List.foldl max (max x y) r∈y::r;rw[h1];by_cases e:x<=y
    ·rw[Int.max_eq_right e];exact .inr g5
    ·rw[Int.max_eq_left (by lia)];exact .inl U
   ·exact .inr (j0 _ h1)
  ·obtain rfl|g:=kf.mp g
   ·exact VN (Int.le_max_right x _) h2
   ·exact h3 z g
variable{ns:List Int}
def Mi(h1:M∈ns)(h2:∀y∈ns,y<=M):M=yX ns d:=by
 cases ns with
 |nil=>cases h1
 |cons x r =>
  let(a1,a2,g):=foldl_max r x;show M=r.foldl max x;refine Int.le_antisymm ?_ ?_
  ·obtain rfl|h:=kf.mp h1
   ·exact a2
   ·exact g M h
  ·obtain a1|a1:=a1
   ·rw[a1];exact h2 x g5
   ·exact h2 _ (j0 _ a1)
variable{p3:Pos}{H:Hp}{x:Str}{pos':Pos}{C:J}
section
variable{X:Cx}{K:BT}{e b:Ev}{te:TE}{qe:QE}{p pos My:Pos}
def IY(h:0<ns.length):∃M,ns[argBest (λi j=>decide (ns.getD i 0 > ns.getD j 0)) (ns.length - 1)]?=Z M/\M=yX ns 0:=by
 let(h1,h2):=argBest_gt (λi=>ns.getD i 0) (ns.length - 1)
 let g:argBest (λi j=>decide (ns.getD i 0 > ns.getD j 0)) (ns.length - 1)<ns.length:=by omega
 refine(_,eO g,Mi (V9 g) λy q=>?_)
 let(j,z,U):=zN q
 have:=h2 j (by lia)
 rw[VZ,VZ,eO z,eO g]at this;exact this
theorem kN:∀{ns:List Int}{its:List B},Vals (ns.map V.int) its->∀(i:Nat)(v:B),its[i]?=Z v->∃t,v=.int (ns.getD i 0) t
 |[],_,h,i,v,e=>by cases h;simp at e
 |n::r,_,h,i,v,e=>by
  cases h with
  |cons h1 h2 =>
   cases i with
   |zero =>
    simp at e;let(t,g):=h1;exact(t,by rw[<- e,g];rfl)
   |succ i =>
    let(t,g):=kN h2 i v (by simpa using e)
    exact(t,by rw[g];rfl)
def Np(K:BT)(te:TE)(d:Int):TE:=λσ H Q=>te σ H λv H1=>∃l ns,v=.ref l/\SqL K H1 l (ns.map V.int)/\Q (.int (yX ns d)) H1
def Lr(hg:Gl X "max")(hm:X.mg "max"=Y)(he:PE X e te)(hc:X.calm=O)(hs:AD X e:=by rfl):
  PE X (.Call (.Name "max" p) [e] [(Z "default",.Constant (.int d) j1 p3,My)] pos) (Np X.K te d):=by
 intro gV s σ H Q I h;refine QR (dM (u:=.builtin "max") I hg hm (by kernel_rfl) (PyProof.Rows.callWith_kw ?_ (by rw[hs];rfl) (by rw[hs];rfl)))
 rw[hs];refine Calls.spliced_cons (thn (he gV s σ H _ I h) λu s1 g=>?_)
 let(x,H1,I1,r1,l,ns,ex,hl,q):=g;subst ex;cases r1;refine Calls.spliced_nil ?_;refine thn (Lm (bG) Pc pos gV s1 σ H1 (λvs H2=>vs=[.int d]/\H2=H1) I1 (U,U)) λus s2 g=>?_
 let(vs,H2,P,rv,e1,e2):=g;subst e1 e2;let(ud,U,t,U):=vals1 rv;let(its,z,pl,hz):=P.list hl;let hlen:=z.length;rw[dz]at hlen;refine EN (λi=>ns.getD i 0) (I.ok.hd hc) pl.isList (λi v ei=>kN z i v (by simpa using ei)) λv h' tk z0 V hk=>?_
 rw[p5]at z0 V;by_cases h0:its.length=0
 ·let hn:ns=[]:=Nh.mp (by lia)
  subst hn;rw[z0 h0];exact(.int d,_,P.kept hk,(_,U),q)
 ·have:=V (by lia)
  let(M,hM,eM):=IY (ns:=ns) (by lia)
  rw[<- hlen]at this;rw[Wl]at this;let(t',U):=kN z _ v this;let e3:yX ns d=yX ns 0:=by cases ns with|nil=>simp at hlen;lia|cons _ _=>rfl
  refine(.int (yX ns d),_,P.kept hk,(t',?_),q);rw[e3,<- eM,VZ,hM];rfl
def R5(d:Int)(qe:QE):QE:=λq Q=>qe q λt=>match t with
 |.l xs=>Ex3 (λ(ns:List Int)=>xs=ns.map .i) (λns=>(.i (yX ns d))) Q
 |_=>False
def aq.SY{dl:Dl}{vs:List V}(h:aq K dl H vs (ns.map T.i) F):vs=ns.map V.int/\F=[]:=by
 let(U,U):=h.vs (by unfold fls;rw[WU,Fq];exact λ_ _=>rfl)
 exact(by rw[Jg];rfl,U)
def KS{d:Int}{V}(hm:X.mg "max"=Y)(he:QPE X K e te qe)(hg:Gl X "max":=by exact U)(hK:X.K=K:=by rfl)(hc:X.calm=true:=by rfl)(hs:AD X e:=by rfl):
  QPF X K (.Call (.Name "max" p) [e] [(Z "default",.Constant (.int d) V p3,My)] pos) (Np K te d) (R5 d qe):=(by subst hK;exact Lr hg hm he.h hc hs,λdl H σ q Q R rd hq k=>he.s dl H σ q _ _ rd hq λv t F H1 e1 P g=>by
 split at g
 ·let(ns,U,g):=g;let(l,vs,G,U,U,h1,h2):=P.r.lst;let(U,U):=h2.SY;exact(l,ns,U,SqL.of h1,k _ _ [] H1 e1 (.c (.i _)) bY mu g)
 ·exact g.elim)
def Sg(i:Nat)(qe:QE):QS:=λD q=>∃n,q[i]?=Z (.o (.i n))/\qe q λt=>match t with
 |.i m=>D.nx (q.set i (.o (.i (n+m))))
 |_=>False
def B8(hN:X.N.Nodup)(he:QPE X K e te qe)(hi:X.N[i]?=Z x:=by rfl)(hx:Loc X.env.scope x:=by first|exact .inl rfl|exact .inr U)(hf:AT X x:=by first|exact .inl rfl|exact .inr rfl|assumption):
  QPS X K (.AugAssign (.Name x pos') .Add e pos) (Rt i te (ipI λi j=>i+j)) (Sg i qe):=(O2 hN hi hx he.h P0 hf,λdl H₀ hs H σ q Dq D (F,r) hq E=>by
 let(n,Q,hq):=hq;let(v,hv,V):=r.g i _ _ Q U;let(U,hF):=V.r.int;refine(_,hv,he.s dl H σ q _ _ r.rd hq λw t Fw H1 e1 r1 P=>?_)
 split at P
 ·rename_i m;let(U,_):=r1.r.int;exact(n,m,U,U,E.nx H1 _ _ (r.fc e1 (.c (.i (n+m))) bY mu) P)
 ·exact P.elim)
def Sd(C:J)(f:Str)(qe:QE):QE:=λq Q=>qe q λt=>match t with
 |.om _ g ns ts=>g=C/\Ex2 (λu=>(ns.zip ts).lookup f=Z u) Q
 |_=>False
def pL(hc:Cls K C)(hn:bg K C f)(he:QPE X K e te qe)(z:attributeBase e f X.env (eval e X.env)=eval e X.env:=by rfl)(hK:X.K=K:=by rfl):QPE X K (.Attribute e f pos) (Oi K te f) (Sd C f qe) :=
 (by subst hK;exact He he.h z,λdl H σ q Q R rd hq k=>he.s dl H σ q _ _ rd hq λv t F H1 e1 P g=>by
  split at g
  ·let(U,u,hu,g):=g;let(dx,vs,G,U,U,h1,h2,h3,h4):=P.r.omm;let(w1,Fc,G1,l1,l2,V,_):=h4.fld hu;exact(_,_,dx,_,w1,U,h1,hc,hn,l1,k w1 u Fc H1 e1 (l2,λb z=>P.n b (j0 _ (j0 _ (V.mem_iff.mpr (qr _ z))))) g)
  ·exact g.elim)
def yi:QPS X K (.Return Y pos) Nm (λD q=>D.ru q .n):=(K8,λdl H₀ hs H σ q Dq D (F,r) hq E=>E.ru H σ q F .non .n [] r (.n,bY) bY mu (λ_ _ z=>nomatch z) hq)
end
variable{j:Nat}
section
variable{X:Cx}{K:BT}{dl:Dl}{H₀ H':Hp}{hs:List (V×T)}{σ:St}{q:Sq}{F:Nat->List J}{e o:Ev}{te:TE}{qe:QE}{pos apos aS dG:Pos}
def Rel.move(r:Rel K dl H₀ hs H σ q F)(aE:i≠j)(hi:i<q.length)(hj:q[j]?=Z (.o t))(hv:σ[j]?=Z (Z v)):fF K dl H₀ hs H (σ.set i (Z v)) ((q.set j .no).set i (.o t)):=by
 let(o1,o2,o3):=r.o j t hj;let(v',av,rp):=r.g j _ t hj U;rw[hv]at av;cases av;let lk:∀{k:Nat}{x:Sl},((q.set j .no).set i (.o t))[k]?=Z x->(k=i/\x=.o t)\/(k≠i/\k=j/\x=.no)\/(k≠i/\k≠j/\q[k]?=Z x):=λ{k x} h=>by
  obtain⟨e1,e2,_⟩|⟨e1,e2⟩:=get_set h
  ·exact .inl (e1,e2)
  ·obtain⟨e3,e4,_⟩|⟨e3,e4⟩:=get_set e2
   ·exact .inr (.inl (e1,e3,e4))
   ·exact .inr (.inr (e1,e3,e4))
 refine(qJ (qJ F j []) i (F j),r.d,λk x u h1 h2=>?_,λk x h1 h2=>?_,λk hk=>?_,λk u h1=>?_,λp hp=>?_,r.f,by simp[r.l])
 ·obtain⟨rfl,rfl⟩|⟨Q,rfl,rfl⟩|⟨Q,n2,h1⟩:=lk h1
  ·cases h2;exact(v,by rw[UA (by rw[<- r.l];exact hi)],by rw[aT];exact rp)
  ·cases h2
  ·let(w,h3,h4):=r.g k x u h1 h2;exact(w,by rw[Nk (λz=>Q z.symm)];exact h3,by rw[aC Q,aC n2];exact h4)
 ·obtain⟨rfl,rfl⟩|⟨Q,rfl,rfl⟩|⟨Q,n2,h1⟩:=lk h1
  ·cases h2
  ·rw[aC Q,aT]
  ·rw[aC Q,aC n2];exact r.n k x h1 h2
 ·rw[QX,QX]at hk;let aD:=(j3.mp hj).1;rw[aC (by lia),aC (by lia)]
  exact r.z k hk
 ·let mem:∀{m:Nat}{b:J},b∈(qJ (qJ F j []) i (F j)) m->(m=i/\b∈F j)\/(m≠i/\m≠j/\b∈F m):=λ{m b} P=>by
   by_cases e1:m=i
   ·subst e1;rw[aT]at P;exact .inl (U,P)
   ·rw[aC e1]at P;by_cases e2:m=j
    ·subst e2;rw[aT]at P;cases P
    ·rw[aC e2]at P;exact .inr (e1,e2,P)
  obtain⟨rfl,_⟩|⟨_,_,z⟩|⟨Q,n2,h1⟩:=lk h1
  ·rw[aT];refine(o1,o2,λm hm b P z=>?_)
   obtain⟨e,_⟩|⟨_,e2,z⟩:=mem z
   ·exact hm e
   ·exact o3 m e2 b P z
  ·cases z
  ·let(p1,p2,p3):=r.o k u h1;rw[aC Q,aC n2];refine(p1,p2,λm hm b P z=>?_)
   obtain⟨_,z⟩|⟨_,_,z⟩:=mem z
   ·exact p3 j n2.symm b P z
   ·exact p3 m hm b P z
 ·let(Fp,h1,h2):=r.h p hp;refine(Fp,h1,λk u hk b P=>?_)
  obtain⟨rfl,_⟩|⟨_,_,z⟩|⟨Q,n2,hk⟩:=lk hk
  ·rw[aT]at P;exact h2 j t hj b P
  ·cases z
  ·rw[aC Q,aC n2]at P;exact h2 k u hk b P
def R4(i j:Nat):QS:=λD q=>i≠j/\i<q.length/\match q[j]? with
 |some (.o t)=>D.nx ((q.set j .no).set i (.o t))
 |_=>False
def KA(Q:X.N.Nodup)(he:PE X e (bK j))(hi:X.N[i]?=Z x:=by rfl)(hx:Loc X.env.scope x:=by first|exact .inl rfl|exact .inr U)(hs:swapsWith e (Z (.Name x pos')) pos.line X.env=pure false:=by rfl)(hf:AT X x:=by first|exact .inl rfl|exact .inr rfl|assumption):
  QPS X K (.Assign [.Name x pos'] e pos) (jj (bK j) (gw i)) (R4 i j):=(iM Q hi hx he hs hf,λdl H₀ hs H σ q Dq D (F,r) hq E=>by
 let(z,hl,hq):=hq
 split at hq
 ·rename_i t P;let(v,hv,_):=r.g j _ t P U;exact(v,hv,E.nx H _ _ (r.move z hl P hv) hq)
 ·exact hq.elim)
inductive yg(K:BT)(x:V)(vs:List V)(H:Hp)(Q:VK):Prop
 |mk(l b xs zs)(h1:x=.ref l)(h2:vs=[.ref b])(h3:H l=Z (.lst xs))(h4:SqT K H b zs)(h5:xs.length+zs.length<=mV)(h6:Q .non (upd H l (.lst (xs++zs))))
theorem A3:MtM X "list.extend" (yg X.K):=by
 intro gV s σ H x vs v us Q I rx rv h;let(l,b,xs,zs,U,U,hH,hB,hz,q):=h;cases rx;let(u,U,ru):=rv.one;cases ru;let(z,its,n,r,hl,e):=I.Ba hH;let(P,V,p2,z2):=I.tuple hB;let(o2,e2,g,n2,hd2):=(p2);let av:=V.length;let hsz:its.toArray.size+P.toArray.size<=mV:=by rw[p5,p5];lia
 let Ic:¬(!its.toArray.isEmpty&&Builtin.List.listTooLong (its.toArray.size+P.toArray.size))=true:=by
  rw[yO hsz,Wx];exact qf
 refine Es F.slot_list_extend (_,e,U) F.entry_list_extend ?_ (F.args_list_extend_2 _ _);show wpAny _ _ (Builtin.List.listExtendWith (.ref l) (.ref b) .none) _ _ s;refine cO (Vx (o2,e2,g) ?_);rw[if_pos (by simp)]
 refine cO (listItems_at e2 hd2 (cO (listItems_at e U ?_)));rw[if_neg Ic];refine cO (listUpdate_at e U (k4 (_,U,(.non,_,I.Ml (its':=its++P) hH e (by simp) (r.append V) ?_,U,q))) (by rw[p5];omega) (by rw[XR];omega))
 rw[px];omega
def ND(i:Nat)(qe:QE):QS:=λD q=>match q[i]? with
 |some (.o (.l xs))=>qe q λt=>match t with
  |.t ys=>T.ims ys=O/\xs.length+ys.length<=mV/\D.nx (q.set i (.o (.l (xs++ys))))
  |_=>False
 |_=>False
def KC(ho:PE X o (bK i))(he:QPE X K e te qe)(hK:X.K=K:=by rfl)(cL:attributeBase o "extend" X.env (eval o X.env)=eval o X.env:=by rfl)
  (iU:At X aS [e]:=by rfl)
  (cK:(apos.endLine==aS.line)=true:=by rfl) (hs:AC X e []:=by rfl) (cG:(backTo aS (kz [] X.env)).any (·.1)=false:=by rfl)
  (aD:swapsWith (.Call (.Attribute o "extend" apos) [e] [] aS) Y dG.line X.env=pure false:=by rfl):
  QPS X K (.Expr (.Call (.Attribute o "extend" apos) [e] [] aS) dG) (gD (tBM K "list" (yg K) (bK i) (di te fY))) (ND i qe) :=
 (fP (by subst hK;exact rF PySem.F.plainAttrs_list PySem.F.slot_list_extend PySem.F.type_list_extend A3 ho (bL he.h eu hs) cL iU cK hs cG) aD,λdl H₀ hs H σ q Dq D (F,r) hq E=>by
 unfold ND at hq
 split at hq
 ·rename_i xs ei;let(v,hv,rp):=r.g i _ _ ei U;let(o1,o2,o3):=r.o i _ ei;let(p,vs,G,U,V,h1,h2):=rp.r.lst;refine(_,hv,.inl (U,vs,SqL.of h1),he.s dl H σ q _ _ r.rd hq λw t F' H' e1 r1 P=>?_)
  split at P
  ·let(im,hl,P):=P;let(p2,ws,U,h3,h4):=r1.r.tup;obtain rfl:=h4.im im;let pn:=rp.n p (by rw[V];exact g5)
   refine(p,p2,vs,ws,U,U,e1.k p _ h1 pn (λ_ z=>nomatch z),SqT.of h3,by rw[h2.len,h4.len];exact hl,?_)
   let hG:=λb Q=>rp.n b (by rw[V];exact j0 _ Q)
   let av:=h2.cA (e1.tf r.d) (λ_ z=>z) λb Q o eo=>e1.k b o eo (hG b Q) (.of (h2.there b Q) eo)
   refine E.nx _ σ _ (r.qS ei hv V e1 (av.append h4) ?_ λb Q=>?_) P
   ·rw[V]at o1;rw[sQ];exact(sP.mp o1).2
   ·rw[sQ]at Q;exact .inl Q
  ·exact P.elim
 ·exact hq.elim)
end
variable{n:Nat}
section
variable{X:Cx}{K:BT}{dl:Dl}
def RE(K:BT):R2:=λx y H Q=>rNe x y H Q\/∃dl ts us n F G,ay K dl H x (.t ts) F/\ay K dl H y (.t us) G/\(∀(j:Nat)(x y:T),ts[j]?=Z x->us[j]?=Z y->Alk n x y)/\n<=140/\∀c:Bool,(c=O ↔ ts=us)->Q (.bl (!c)) H
def Hq(hu:X.A.units+150<cLine)(hK:X.K=K):OpR X (compareOp .NotEq) (RE K):=by
 subst hK;refine OpR.or NK ?_;intro gV s σ H x y v u Q I z q h;let(dl,ts,us,n,F,G,V,P,ht,hn,k):=h;let(a,vs,U,h1,f1):=V.tup;let(b,ws,U,h2,f2):=P.tup;cases z;cases q;let(its,q1,p1,_):=I.tuple (SqT.of h1);let(bD,g,p2,_):=I.tuple (SqT.of h2);let l1:=q1.length;let l2:=g.length;let l3:=f1.len;let l4:=f2.len;let(e,hE,he):=C9 (A:=X.A.in1) I U q1 g f1 f2 ht (by show X.A.units+1+n<_;lia)
 refine SeqAt.RcNeAt.tuples (p1) (p2) (by lia) hE X.prog X.w X.xe _ (.bl _,H,I,U,k _ ?_)
 let e1:its.toArray.size=ts.length:=by simp;lia
 let e2:bD.toArray.size=us.length:=by simp;lia
 exact p9 (n:=n) e1 e2 he
def R3:Q2:=λt u Q=>match t,u with
 |.t ts,.t us=>∃n,n<=140/\(∀(j:Nat)(x y:T),ts[j]?=Z x->us[j]?=Z y->Alk n x y)/\∀c:Bool,(c=O ↔ ts=us)->Q (.b (!c))
 |t,u=>qNe t u Q
def BZ:c9 K (RE K) R3:=by
 intro dl H x y t u F G Q R D q g hq k;unfold R3 at hq
 split at hq
 ·let(n,hn,P,hq):=hq;exact .inr (dl,_,_,n,F,G,q.r,g.r,P,hn,λc V=>k _ _ [] H (.refl D) (.c (.b _)) bY mu (hq c V))
 ·exact .inl (FL dl H x y t u F G Q R D q g hq k)
theorem zA:∀{n:Nat}{t:T},Dep n t->Alk n t t
 | 0,_,h=>by
  obtain⟨x,rfl⟩|⟨x,rfl⟩:=h
  ·exact .inl (x,x,U,U)
  ·exact .inr (x,x,U,U)
 |n+1,_,h=>by
  obtain⟨x,rfl⟩|⟨x,rfl⟩|⟨ts,rfl,h⟩:=h
  ·exact .inl (x,x,U,U)
  ·exact .inr (.inl (x,x,U,U))
  ·refine .inr (.inr (ts,ts,U,U,λj x y hx g=>?_))
   rw[hx]at g;cases g;exact zA (h x (pA hx))
def km{ts:List T}(hd:∀x∈ts,Dep n x)(j:Nat)(x y:T)(hx:ts[j]?=Z x)(g:ts[j]?=Z y):Alk n x y:=by
 rw[hx]at g;cases g;exact zA (hd x (pA hx))
end
abbrev QPR:=Sq->(List (Key×T)->Prop)->Prop
def TU(K:BT)(trs:List (TE×TE))(qp:QPR):Prop:=∀(dl:Dl)(H:Hp)(σ:St)(q:Sq)(Q:List (Key×T)->Prop)(R:List (V×V)->Hp->Prop),RdR K dl H σ q->qp q Q ->
 (∀kvs kts H',Evo dl H H'->aN K dl H' kvs kts []->kvs.length=trs.length->Q kts->R (kvs.map λkv=>(kV kv.1,kv.2)) H')->vt trs σ H R
structure Nc(X:Cx)(K:BT)(pos:Pos)(keys:List (Option Ev))(values:List Ev)(trs:List (TE×TE))(qp:QPR):Prop where
 h:PPs X pos keys values trs
 s:TU K trs qp
section
variable{X:Cx}{K:BT}{pos:Pos}{ek ev:Ev}{ks:List (Option Ev)}{vs:List Ev}{tk tv:TE}{qk qv:QE}{trs:List (TE×TE)}{qp:QPR}
def KG:Nc X K pos [] [] [] (λ_ Q=>Q []):=(Ck,λdl H σ q Q R rd hq k=>k [] [] H (.refl rd.d) .nil U hq)
def RZ(qk qv:QE)(qp:QPR):QPR:=λq Q=>qk q λt=>qv q λu=>match t.key with
 |some k=>u.im=O/\qp q λkts=>Q ((k,u)::kts)
 |none=>False
def lZ(hk:QPE X K ek tk qk)(hv:QPE X K ev tv qv)(hr:Nc X K pos ks vs trs qp):Nc X K pos (Z ek::ks) (ev::vs) ((tk,tv)::trs) (RZ qk qv qp):=(l6 hk.h hv.h hr.h,λdl H σ q Q R rd hq k=>by
 refine hk.s dl H σ q _ _ rd hq λv t F H1 e1 r1 z=>(hv.s dl H1 σ q _ _ (rd.evo e1) z λw u G H2 e2 r2 g=>?_)
 split at g
 ·rename_i kk av;let(P,g):=g;obtain rfl:=r2.r.im P;let V:=r1.r.key av;subst V;exact hr.s dl H2 σ q _ _ ((rd.evo e1).evo e2) g λkvs kts H3 e3 r3 hl hz=>(k ((kk,w)::kvs) ((kk,u)::kts) H3 ((e1.trans e2).trans e3) (.cons (F:=[]) (G:=[]) (r2.evo e2.d e3).r r3) (by simp[hl]) hz)
 ·exact g.elim)
def qDN(qp:QPR):QE:=λq Q=>qp q λkts=>Q (.d (aP [] kts))
def GA(h:Nc X K pos ks vs trs qp)(Ij:ks.all (·.isSome)=true:=by rfl)(hl:ks.length=vs.length:=by rfl)(h0:ks ≠ []:=by exact Ni _ _)(h15:ks.length<=15:=by decide)(h16:trs.length<=15:=by decide):
  QPF X K (.Dict ks vs pos) (Nt trs) (qDN qp):=(Cn h.h Ij hl h0 h15,λdl H σ q Q R rd hq k=>λp hp=>by
 let e0:=(Evo.refl rd.d).new (o:=.dK []) hp;let nd:=rd.d.nd0 hp;refine h.s dl _ σ q _ _ (rd.evo e0) hq λkvs kts H2 e2 r2 hlen hz=>?_
 let V:=e2.k p _ ax nd (λ_ z=>nomatch z)
 let tf:=TF.dict (kw:=dr [] kvs) V;refine(V,kvs,U,by lia,?_)
 let e3:Evo dl H (upd H2 p (.dK (dr [] kvs))):=by
  refine(λb o P hn nr=>?_,λd hd=>?_,λb x P=>?_)
  ·let g:b≠p:=λz=>by rw[z,hp]at P;cases P
   rw[ak g];exact e2.k b o (by rw[ak g];exact P) hn nr
  ·let(s0,n0,av,D0):=e2.d d hd;let n1:=(nd d hd).1;let n2:=(nd d hd).2;exact(s0,n0,av,{D0 with hd:=by rw[ak n1.symm];exact D0.hd,hl:=by rw[ak n2.symm];exact D0.hl})
  ·let g:b≠p:=λz=>by rw[z,hp]at P;cases P
   let(y,hy,e4):=e2.r b x (by rw[ak g];exact P)
   exact(y,hy,by rw[ak g];exact e4)
 let rm:=aN.aP (kvs':=[]) (kts':=[]) r2 U .nil;exact k _ _ [p] _ e3 (.d ax (rm.cA tf (λ_ z=>z) bY),λb P=>by rw[ej.mp P];exact nd) (λb P=>by rw[ej.mp P];exact hp) (by simp) hz)
end
variable{a:J}{b:Ev}{tl:TA}{ql:QA}{elts:List Ev}{t2:Bool}
section
variable{X:Cx}{K:BT}{dl:Dl}
def MD{b:J}:uu K dl (Itz K ϊ ϊ a b) (lH xs ys) [(.ref a,.zl xs),(.ref b,.zl ys)] where
 go:=λH i D h hi=>by
  let(F,r):=h (.ref a,.zl xs) (by simp)
  let(F',V):=h (.ref b,.zl ys) (by simp)
  let(p,o,vs,e,eF,h1,h2):=r.r.zls;cases e;let(p',o',vs',e',aE,P,g):=V.r.zls;cases e';rw[jq]at hi;let l1:i<vs.length:=by rw[h2.len];lia
  let l2:i<vs'.length:=by rw[g.len];lia
  exact(vs,vs',vs[i],vs'[i],.inl (.inr (o,h1)),.inl (.inr (o',P)),by simp[l1],by simp[l2])
 yld:=λH i x fp v H' D h hx y=>by
  let r:=h (.ref a,.zl xs) (by simp)
  let V:=h (.ref b,.zl ys) (by simp)
  let(p,o,vs,e,eF,h1,h2):=r.r.zls;cases e;let(p',o',vs',e',aE,P,g):=V.r.zls;cases e';let(x1,y1,a3,aS,U):=vj hx;let(w1,G1,a5,aQ,aD):=h2.get a3;let(w2,G2,a4,aM,av):=g.get aS;let(q,u1,u2,hq,U,U,aI,aH):=y;let e1:=aI vs (.inl (.inr (o,h1)));rw[a5]at e1;cases e1;let e2:=aH vs' (.inl (.inr (o',P)));rw[a4]at e2;cases e2;let rs:=Rps.cons (aQ,λb Q=>nomatch aD b Q) (Rps.cons (aM,λb Q=>nomatch av b Q) (.nil,bY))
  refine((Evo.refl D).new hq,_,rs.tup D hq,λc Q=>?_)
  rw[sQ]at Q;obtain z|z:=p7.mp Q
  ·exact nomatch aD c z
  ·exact nomatch av c z
 stop:=λH D h=>by
  let(F,r):=h (.ref a,.zl xs) (by simp)
  let(F',V):=h (.ref b,.zl ys) (by simp)
  let(p,o,vs,e,eF,h1,h2):=r.r.zls;cases e;let(p',o',vs',e',aE,P,g):=V.r.zls;cases e';refine(vs,vs',.inl (.inr (o,h1)),.inl (.inr (o',P)),?_);rw[jq,h2.len,g.len]
  lia
def Vi(t2:Bool)(ql:QA):QJ:=λq Q=>ql q λts=>on2 ts λt u=>match t with
 |.t xs=>match u with|.t ys=>t2=O/\T.ims xs=O/\T.ims ys=O/\Q (lH xs ys) q|_=>False
 |.zl xs=>match u with|.zl ys=>t2=ϊ/\Q (lH xs ys) q|_=>False
 |_=>False
def KH{a:Ev}{pos p:Pos}{x1}(hg:Gl X "zip")(hm:X.mg "zip"=Y)(gu:bootBuiltins "zip"=Z (.type "zip"))(ha:QPA X K [a,b] tl ql)(hs:kz [a,b] X.env=[(ϊ,eval a X.env),(ϊ,eval b X.env)]:=by rfl)(av:AD X b:=by rfl)(hK:X.K=K:=by rfl):
  QPJ X K (.Tuple elts x1 pos') (.Call (.Name "zip" p) [a,b] [] pos) (P5 K t2 t2 tl) (Vi t2 ql):=(Ln hK hg hm gu ha.h hs av,λdl H₀ hs H σ q Q R (F0,r0) hq k=>ha.s dl H σ q _ _ r0.rd hq λvs ts F H' e1 r _ g=>by
 replace g:=on2.inv g
 let(t,u,U,g):=g;cases t with
 |t _ =>
  dsimp only at g
  split at g
  ·let(U,i1,i2,g):=g;let(v,w,F1,F2,U,r1,V):=r.two;obtain rfl:=r1.r.im i1;obtain rfl:=V.r.im i2;let q1:=((r0.evo e1).hold V λj u hj b hb z=>nomatch z).hold r1 λj u hj b hb z=>nomatch z
   let(l1,P,U,h1,h2):=r1.r.tup;let(l2,vs2,U,h3,h4):=V.r.tup;exact(l1,l2,U,(P,SqT.of h1),(vs2,SqT.of h3),k _ _ _ H' q (F0,q1) PX g)
  ·exact g.elim
 |zl _ =>
  dsimp only at g
  split at g
  ·let(U,g):=g;let(v,w,F1,F2,U,r1,V):=r.two;obtain rfl:=r1.r.im U;obtain rfl:=V.r.im U;let q1:=((r0.evo e1).hold V λj u hj b hb z=>nomatch z).hold r1 λj u hj b hb z=>nomatch z
   let(l1,o,P,U,_,h1,h2):=r1.r.zls;let(l2,o',vs2,U,_,h3,h4):=V.r.zls;exact(l1,l2,U,(P,.inl (.inr (o,h1))),(vs2,.inl (.inr (o',h3))),k _ _ _ H' q (F0,q1) MD g)
  ·exact g.elim
 |_=>exact g.elim)
end
namespace TM
open Sem (wp)
open Builtin
end TM
end L2
namespace K23
open PySem L2
def top(i:Nat):EQ:=PySem.Challenge.pw_pursewright_k23_how_runs_end.main.body.getD i (.Pass (0,0,0,0))
abbrev iE:EQ:=inClass (top 3) 0
theorem vD:aA ["self","piece","above","arm"] ["self","piece","above","arm"] (ao iE):=by symm
abbrev gR:EQ:=inClass (top 14) 0
theorem tG:aA ["self","functions","f","values"] ["self","functions","f","values"] (ao gR):=by symm
abbrev dH:EQ:=inClass (top 14) 1
theorem kR:aA ["self","names"] ["self","names"] (ao dH):=by symm
abbrev fZ:EQ:=inClass (top 14) 2
theorem qM:aA ["self","body","between"] ["self","body","between"] (ao fZ):=by symm
abbrev dn:EQ:=inClass (top 14) 3
theorem ko:aA ["self","value"] ["self","value"] (ao dn):=by symm
abbrev cQ:EQ:=inClass (top 14) 4
theorem aZ:aA ["self","piece","value","between","maker","names","body"] ["self"] (ao cQ):=by symm
abbrev iD:EQ:=inClass (top 15) 0
theorem vC:aA ["self","program","f","args","coins"] ["self","program","f","args","coins"] (ao iD):=by symm
abbrev iC:EQ:=inClass (top 15) 1
theorem vB:aA ["self"] ["self"] (ao iC):=by symm
abbrev ju:EQ:=inClass (top 15) 2
abbrev gQ:EQ:=inClass (top 15) 3
theorem tE:aA ["self"] ["self"] (ao gQ):=by symm
abbrev gP:EQ:=inClass (top 15) 4
theorem tD:aA ["self"] ["self"] (ao gP):=by symm
abbrev jv:EQ:=inClass (top 15) 5
theorem ya:aA ["self"] ["self"] (ao jv):=by symm
abbrev kO:EQ:=inClass (top 15) 6
theorem kQ:aA ["self","frame","word","f"] ["self","frame"] (ao kO):=by symm
abbrev fI:EQ:=inClass (top 15) 7
theorem jd:aA ["self","frame","value"] ["self","frame"] (ao fI):=by symm
abbrev fH:EQ:=inClass (top 15) 8
theorem jc:aA ["self","frame","made"] ["self","frame"] (ao fH):=by symm
abbrev eZ:EQ:=inClass (top 15) 9
theorem ib:aA ["self","frame","word","coins"] ["self","frame","word"] (ao eZ):=by symm
abbrev eY:EQ:=inClass (top 15) 10
theorem ni:aA ["self","ending"] ["self","ending"] (ao eY):=by symm
abbrev jy:EQ:=top 1
theorem iF:aA ["functions","name","number","function"] ["functions","name"] (ao jy):=by symm
abbrev vG:EQ:=top 4
theorem lO:aA ["body","told","waiting","spot"] ["body"] (ao vG):=by symm
abbrev fJ:EQ:=top 5
theorem nh:aA ["piece","number"] ["piece","number"] (ao fJ):=by symm
abbrev qN:EQ:=top 6
theorem DN:aA ["body"] ["body"] (ao qN):=by symm
abbrev jz:EQ:=top 8
theorem fO:aA ["value","makers","waiting","thing"] ["value"] (ao jz):=by symm
abbrev Aj:EQ:=top 9
theorem Ke:aA ["value"] ["value"] (ao Aj):=by symm
abbrev vL:EQ:=top 10
theorem f6:aA ["value","deep","layer","beneath","thing"] ["value"] (ao vL):=by symm
abbrev F4:EQ:=top 17
theorem FZ:aA ["program","f","args","coins","most","walk"] ["program","f","args","coins","most"] (ao F4):=by symm
abbrev kS:EQ:=top 18
theorem x8:aA ["walk"] ["walk"] (ao kS):=by symm
abbrev Ao:EQ:=top 20
theorem lQ:aA ["_law_script","_law_base","_law_cells","_law_number","_law_cell"] ["_law_script","_law_base"] (ao Ao):=by symm
abbrev An:EQ:=top 21
theorem pJ:aA ["_law_deal_here","_law_many","_law_number","_law_one","_law_other"] ["_law_deal_here","_law_many"] (ao An):=by symm
abbrev vE:EQ:=top 22
theorem ck:aA ["_law_deal_here","_law_many","_law_letters","_law_core","_law_at","_law_turn","_law_found","_law_k","_law_own","_law_word","_law_near"] ["_law_deal_here","_law_many"] (ao vE):=by symm
abbrev vI:EQ:=top 23
theorem cB:aA ["_law_deal_here","_law_words_here","_law_form","_law_a","_law_b","_law_m","_law_found","_law_many","_law_made","_law_k","_law_makers","_law_j","_law_wide","_law_fields"] ["_law_deal_here","_law_words_here"] (ao vI):=by symm
abbrev Am:EQ:=top 24
theorem pI:aA ["_law_deal_here","_law_scope","_law_some","_law_found","_law_kind","_law_own"] ["_law_deal_here","_law_scope","_law_some"] (ao Am):=by symm
abbrev vK:EQ:=top 25
theorem du:aA ["_law_deal_here","_law_world","_law_scope","_law_kind","_law_f","_law_kinds_here","_law_heads","_law_words_here","_law_own","_law_x","_law_maker","_law_fields","_law_names"] ["_law_deal_here","_law_world","_law_scope","_law_kind","_law_f"] (ao vK):=by symm
abbrev Ap:EQ:=top 26
theorem dB:aA ["_law_deal_here","_law_world","_law_scope","_law_f","_law_room","_law_kinds_here","_law_heads","_law_words_here","_law_x","_law_kind","_law_makers","_law_arms","_law_maker","_law_fields","_law_more","_law_names"] ["_law_deal_here","_law_world","_law_scope","_law_f","_law_room"] (ao Ap):=by symm
abbrev Aq:EQ:=top 27
theorem b8:aA ["_law_deal_here","_law_world","_law_scope","_law_f","_law_room","_law_kinds_here","_law_heads","_law_words_here","_law_kind","_law_form","_law_x","_law_coins","_law_word","_law_y","_law_other","_law_g","_law_names","_law_name","_law_makers","_law_maker","_law_fields"] ["_law_deal_here","_law_world","_law_scope","_law_f","_law_room"] (ao Aq):=by symm
abbrev nj:EQ:=top 28
theorem bU:aA ["_law_deal_here","_law_most","_law_room","_law_words_here","_law_kinds_here","_law_heads","_law_f","_law_many","_law_params","_law_functions","_law_head","_law_body_here"] ["_law_deal_here","_law_most","_law_room"] (ao nj):=by symm
abbrev qP:EQ:=top 29
theorem dQ:aA ["_law_kinds_here","_law_found","_law_turn","_law_kind","_law_makers","_law_maker","_law_fields","_law_many"] ["_law_kinds_here"] (ao qP):=by symm
abbrev vF:EQ:=top 30
theorem cZ:aA ["_law_deal_here","_law_kinds_here","_law_leasts_here","_law_kind","_law_room","_law_some","_law_maker","_law_fields","_law_spare","_law_parts","_law_field","_law_more"] ["_law_deal_here","_law_kinds_here","_law_leasts_here","_law_kind","_law_room"] (ao vF):=by symm
abbrev qO:EQ:=top 31
theorem e7:aA ["_law_body_here","_law_found","_law_maker","_law_names","_law_arm"] ["_law_body_here"] (ao qO):=by symm
abbrev vH:EQ:=top 32
theorem x6:aA ["_law_value_here","_law_some"] ["_law_value_here"] (ao vH):=by symm
abbrev vM:EQ:=top 33
theorem x9:aA ["_law_program_here","_law_f","_law_args_here","_law_coins","_law_known"] ["_law_program_here","_law_f","_law_args_here","_law_coins"] (ao vM):=by symm
abbrev Ov:EQ:=top 34
theorem qL:aA ["_law_state","_law_n","_law_names","_law_values","_law_f","_law_at","_law_known","_law_more","_law_x","_law_value_here"] ["_law_state","_law_n","_law_names","_law_values"] (ao Ov):=by symm
abbrev qQ:EQ:=top 35
theorem DO:aA ["_law_state","_law_end"] ["_law_state","_law_end"] (ao qQ):=by symm
abbrev vJ:EQ:=top 36
theorem lP:aA ["_law_program_here","_law_state","_law_value_here","_law_f","_law_n","_law_known"] ["_law_program_here","_law_state","_law_value_here"] (ao vJ):=by symm
abbrev jA:EQ:=top 37
theorem de:aA ["_law_state","_law_n","_law_piece","_law_value_here","_law_ahead","_law_maker","_law_names","_law_arm"] ["_law_state","_law_n","_law_piece","_law_value_here"] (ao jA):=by symm
abbrev Ai:EQ:=top 38
theorem dY:aA ["_law_program_here","_law_state","_law_f","_law_n","_law_known","_law_piece","_law_word","_law_value_here","_law_many","_law_inside","_law_g","_law_args_here"] ["_law_program_here","_law_state"] (ao Ai):=by symm
abbrev Ar:EQ:=top 39
theorem lR:aA ["_law_deal_here","_law_program_here","_law_f","_law_room","_law_leasts_here","_law_args_here","_law_param","_law_kind"] ["_law_deal_here","_law_program_here","_law_f","_law_room"] (ao Ar):=by symm
abbrev Ak:EQ:=top 40
theorem B2:aA ["_law_program_here","_law_f","_law_args_here","_law_coins","_law_most","_law_state"] ["_law_program_here","_law_f","_law_args_here","_law_coins","_law_most"] (ao Ak):=by symm
abbrev jx:EQ:=top 41
theorem cm:aA ["_law_deal_here","_law_words_here","_law_body_here","_law_coins","_law_program_here","_law_most","_law_paid"] ["_law_deal_here"] (ao jx):=by symm
abbrev oq:EQ:=top 42
theorem e9:aA ["_law_script","_law_deal_here","_law_program_here","_law_f","_law_args_here","_law_coins","_law_most","_law_end","_law_purse","_law_steps","_law_many","_law_due","_law_found"] ["_law_script"] (ao oq):=by symm
set_option genInjectivity false in
structure Adr where
 bw:J
 dS:J
 jS:Ch
 aD:J
 dh:J
 iY:Ch
 cx:J
 eJ:Ch
 dy:J
 gZ:Ch
 b6:J
 dN:Ch
 bJ:J
 c8:Ch
 aE:J
 dR:J
 jR:Ch
 fC:J
 jQ:Ch
 fk:J
 kM:Ch
 eD:J
 iX:Ch
 eC:J
 iW:Ch
 gy:J
 lg:Ch
 ix:J
 nV:Ch
 c7:J
 gB:Ch
 c6:J
 gA:Ch
 cN:J
 fL:Ch
 cM:J
 fK:Ch
 gH:J
 oA:Ch
 pU:J
 CU:Ch
 dD:J
 jg:Ch
 mD:J
 zp:Ch
 gI:J
 oB:Ch
 xb:J
 IF:Ch
 pZ:J
 C1:Ch
 CM:J
 NV:Ch
 iV:J
 sk:Ch
 xi:J
 IJ:Ch
 xh:J
 II:Ch
 pS:J
 CS:Ch
 pW:J
 CY:Ch
 xg:J
 IH:Ch
 pY:J
 C0:Ch
 xj:J
 IK:Ch
 sg:J
 Bo:Ch
 kj:J
 uY:Ch
 mF:J
 zr:Ch
 pT:J
 CT:Ch
 mE:J
 zq:Ch
 pV:J
 CV:Ch
 p8:J
 C2:Ch
 MQ:J
 Tt:Ch
 mG:J
 zt:Ch
 pX:J
 CZ:Ch
 gJ:J
 oC:Ch
 xa:J
 IE:Ch
 xk:J
 IL:Ch
 xf:J
 IG:Ch
 gG:J
 oy:Ch
 uX:J
 NW:Ch
structure Txt(K:BT)(mg:Str->Option B)(a:Adr):Prop where
 mK:Cls K a.bw
 wK:mg "Spot"=Z (.ref a.bw)
 wL:Mk K a.bw a.dS
 gX:bg K a.bw "piece"
 tZ:bg K a.bw "above"
 yR:bg K a.bw "arm"
 gN:Fun K "__init__" "Spot.__init__" iE a.dS a.jS
 Mh:Meth K a.bw "__init__" a.dS
 jX:Binds K a.jS ["self","piece","above","arm"] []
 aH:Cls K a.aD
 yS:mg "Frame"=Z (.ref a.aD)
 yT:Mk K a.aD a.dh
 A1:bg K a.aD "f"
 je:bg K a.aD "number"
 aM:bg K a.aD "piece"
 bZ:bg K a.aD "names"
 fV:Fun K "__init__" "Frame.__init__" gR a.dh a.iY
 Jw:Meth K a.aD "__init__" a.dh
 mP:Binds K a.iY ["self","functions","f","values"] []
 cV:Fun K "values_at" "Frame.values_at" dH a.cx a.eJ
 gj:Meth K a.aD "values_at" a.cx
 gK:Binds K a.eJ ["self","names"] []
 fq:Fun K "go_on" "Frame.go_on" fZ a.dy a.gZ
 gm:Meth K a.aD "go_on" a.dy
 g7:Binds K a.gZ ["self","body","between"] []
 cI:Fun K "go_on_with" "Frame.go_on_with" dn a.b6 a.dN
 dt:Meth K a.aD "go_on_with" a.b6
 dO:Binds K a.dN ["self","value"] []
 cz:Fun K "go_on_in_arm" "Frame.go_on_in_arm" cQ a.bJ a.c8
 jn:Meth K a.aD "go_on_in_arm" a.bJ
 jY:Binds K a.c8 ["self"] []
 aQ:Cls K a.aE
 Mb:mg "Walk"=Z (.ref a.aE)
 Me:Mk K a.aE a.dR
 cT:bg K a.aE "functions"
 bP:bg K a.aE "running"
 fj:bg K a.aE "coins"
 iR:bg K a.aE "done"
 c5:bg K a.aE "ending"
 gM:Fun K "__init__" "Walk.__init__" iD a.dR a.jR
 Mg:Meth K a.aE "__init__" a.dR
 zy:Binds K a.jR ["self","program","f","args","coins"] []
 gL:Fun K "turn" "Walk.turn" iC a.fC a.jQ
 wN:Meth K a.aE "turn" a.fC
 zx:Binds K a.jQ ["self"] []
 g9:Fun K "frames" "Walk.frames" ju a.fk a.kM
 HH:Meth K a.aE "frames" a.fk
 Jx:Binds K a.kM ["self"] []
 fU:Fun K "purse" "Walk.purse" gQ a.eD a.iX
 t6:Meth K a.aE "purse" a.eD
 xr:Binds K a.iX ["self"] []
 fS:Fun K "steps" "Walk.steps" gP a.eC a.iW
 kK:Meth K a.aE "steps" a.eC
 mO:Binds K a.iW ["self"] []
 jb:Fun K "end" "Walk.end" jv a.gy a.lg
 ot:Meth K a.aE "end" a.gy
 sF:Binds K a.lg ["self"] []
 kn:Fun K "do" "Walk.do" kO a.ix a.nV
 A6:Meth K a.aE "do" a.ix
 EU:Binds K a.nV ["self","frame"] []
 eR:Fun K "do_give" "Walk.do_give" fI a.c7 a.gB
 oW:Meth K a.aE "do_give" a.c7
 sH:Binds K a.gB ["self","frame"] []
 eQ:Fun K "do_make" "Walk.do_make" fH a.c6 a.gA
 oV:Meth K a.aE "do_make" a.c6
 sG:Binds K a.gA ["self","frame"] []
 dF:Fun K "do_coins" "Walk.do_coins" eZ a.cN a.fL
 nM:Meth K a.aE "do_coins" a.cN
 ph:Binds K a.fL ["self","frame","word"] []
 dE:Fun K "end_with" "Walk.end_with" eY a.cM a.fK
 fh:Meth K a.aE "end_with" a.cM
 fM:Binds K a.fK ["self","ending"] []
 oM:Dn K mg "number_of" jy a.gH a.oA ["functions","name"]
 Dr:Dn K mg "spots" vG a.pU a.CU ["body"]
 ji:Dn K mg "spots_beneath" fJ a.dD a.jg ["piece","number"]
 zS:Dn K mg "pieces" qN a.mD a.zp ["body"]
 oN:Dn K mg "makers_in" jz a.gI a.oB ["value"]
 Jr:Dn K mg "size" Aj a.xb a.IF ["value"]
 Dv:Dn K mg "depth" vL a.pZ a.C1 ["value"]
 Dt:Dn K mg "ran" F4 a.CM a.NV ["program","f","args","coins","most"]
 sV:Dn K mg "end_told" kS a.iV a.sk ["walk"]
 xO:Dn K mg "_law_deal" Ao a.xi a.IJ ["_law_script","_law_base"]
 aY:Dn K mg "_law_draw" An a.xh a.II ["_law_deal_here","_law_many"]
 xI:Dn K mg "_law_words" vE a.pS a.CS ["_law_deal_here","_law_many"]
 Du:Dn K mg "_law_kinds" vI a.pW a.CY ["_law_deal_here","_law_words_here"]
 sU:Dn K mg "_law_fill" Am a.xg a.IH ["_law_deal_here","_law_scope","_law_some"]
 xN:Dn K mg "_law_ended" vK a.pY a.C0 ["_law_deal_here","_law_world","_law_scope","_law_kind","_law_f"]
 Js:Dn K mg "_law_case" Ap a.xj a.IK ["_law_deal_here","_law_world","_law_scope","_law_f","_law_room"]
 lE:Dn K mg "_law_body" Aq a.sg a.Bo ["_law_deal_here","_law_world","_law_scope","_law_f","_law_room"]
 vh:Dn K mg "_law_program" nj a.kj a.uY ["_law_deal_here","_law_most","_law_room"]
 zT:Dn K mg "_law_leasts" qP a.mF a.zr ["_law_kinds_here"]
 xJ:Dn K mg "_law_value" vF a.pT a.CT ["_law_deal_here","_law_kinds_here","_law_leasts_here","_law_kind","_law_room"]
 iB:Dn K mg "_law_listed" qO a.mE a.zq ["_law_body_here"]
 xM:Dn K mg "_law_sizes" vH a.pV a.CV ["_law_value_here"]
 xP:Dn K mg "_law_begun" vM a.p8 a.C2 ["_law_program_here","_law_f","_law_args_here","_law_coins"]
 kD:Dn K mg "_law_on" Ov a.MQ a.Tt ["_law_state","_law_n","_law_names","_law_values"]
 dA:Dn K mg "_law_halted" qQ a.mG a.zt ["_law_state","_law_end"]
 qg:Dn K mg "_law_given" vJ a.pX a.CZ ["_law_program_here","_law_state","_law_value_here"]
 gO:Dn K mg "_law_case_step" jA a.gJ a.oC ["_law_state","_law_n","_law_piece","_law_value_here"]
 xK:Dn K mg "_law_step" Ai a.xa a.IE ["_law_program_here","_law_state"]
 Jt:Dn K mg "_law_args" Ar a.xk a.IL ["_law_deal_here","_law_program_here","_law_f","_law_room"]
 BF:Dn K mg "_law_ran" Ak a.xf a.IG ["_law_program_here","_law_f","_law_args_here","_law_coins","_law_most"]
 oK:Dn K mg "_law_on_and_on" jx a.gG a.oy ["_law_deal_here"]
 T5:Dn K mg "law" oq a.uX a.NW ["_law_script"]
 cE:mg "len"=Y
 NZ:mg "all"=Y
 sE:mg "list"=Y
 cU:mg "tuple"=Y
 IV:mg "int"=Y
 nY:mg "dict"=Y
 lj:mg "reversed"=Y
 sD:mg "max"=Y
 TC:mg "min"=Y
 C7:mg "sum"=Y
 fQ:mg "range"=Y
 xq:mg "isinstance"=Y
 C6:mg "zip"=Y
 jW:mg "enumerate"=Y
 um:∃t,mg "MOST_MAKERS"=Z (.int 200 t)
 uk:∃t,mg "MOST_WITHIN"=Z (.int 60 t)
def wO:Str:="abcdefghijklmnopqrstuvwxyz"
def y9:List Str:=["kind","def","to","let","make","call"]
def kL:List Str:=["name","case","end","pay","get","give"]
def kept:List Str:=y9++kL
def near:List Str:=["lets","callx","payer","ender","tom","nameb","makes","gets","giver","kinds","defs","cases"]
theorem Cu(h0:0<=i)(h1:i<26):atI (Str.cps wO).toList i=Z (rN i.toNat):=by
 obtain⟨n,rfl⟩:∃n:Nat,i=n:=(i.toNat,by lia)
 let h2:n<26:=by lia
 let h3:∀n:Fin 26,atI (Str.cps wO).toList (n.val)=Z (rN n.val):=by decide +kernel
 have:=h3 (n,h2)
 simpa using this
theorem HD:∀w∈near,1<=w.length/\w.length<=20:=by decide +kernel
def tM(m:Mk1):T:=.t [.s m.1,.t (m.2.map .s)]
def tMs(ms:List Mk1):T:=.t (ms.map tM)
def tK(k:Kd):T:=.t [.s k.1,tMs k.2]
def tKs(ks:List Kd):T:=.t (ks.map tK)
theorem bC{f:α->T}(h:∀x,(f x).im=O):∀xs:List α,T.ims (xs.map f)=O
 |[]=>rfl
 |x::r=>by show((f x).im&&T.ims (r.map f))=O;rw[h x,bC h r];rfl
theorem CG(m:Mk1):(tM m).im=true:=by show(O&&(T.ims (m.2.map T.s)&&O))=O;rw[bC (f:=T.s) (λ_=>rfl)];rfl
theorem nQ(m:List Mk1):(tMs m).im=true:=bC CG m
theorem uU(m:Kd):(tK m).im=true:=by show(O&&((tMs m.2).im&&O))=O;rw[nQ];rfl
theorem rV(m:List Kd):(tKs m).im=true:=bC uU m
inductive La(ts:List L2.T)(Q:L2.T->Prop):Prop
 |mk(m:Int)(h1:ts=[.cY,.i m])(h2:0<m)(h3:m<=52)(h4:∀ws:List Str,(ws.length:Int)=m->ws.Nodup->(∀w∈ws,1<=w.length/\w.length<=20)->Q (.l (ws.map .s)))
variable{ws:List Str}
theorem ip:inT (.s w) (ws.map T.s)=inV (.str w) (ws.map V.str):=by
 unfold inT inV;rw[Xe,Xe];rfl
theorem zf(ws:List Str):fls (ws.map T.s)=true:=by
 unfold fls;rw[WU,Fq];exact λ_ _=>rfl
theorem bu(ws:List Str):T.ims (ws.map T.s)=true:=bC (λ_=>rfl) ws
theorem noq(h:z∈kL):w++("q":Str)≠z:=by
 intro e;let h1:(w++("q")).cps.toList.getLast?=Z 113:=by simp[Str.cps_append,show(Str.ofString "q").cps=#[113]from by decide +kernel]
 rw[e]at h1;let h2:∀z∈kL,z.cps.toList.getLast? ≠ Z 113:=by decide +kernel
 exact h2 z h h1
theorem Pp:inV (.str (w++("q":Str))) (kL.map V.str)=false:=by
 cases e:inV (.str (w++("q"))) (kL.map V.str)with
 |false=>rfl
 |true=>exact absurd U (noq (MG.mp e))
theorem k7:inV (.str w) (kept.map V.str)=(inV (.str w) (y9.map V.str)||inV (.str w) (kL.map V.str)):=by
 unfold kept inV;rw[zJ,List.any_append]
theorem MZ{i:Int}(h0:0<=i)(h1:i<ws.length):∃w,atI (ws.map T.s) i=Z (.s w)/\w∈ws:=by
 let(v,e,hm):=Br (xs:=ws.map T.s) h0 (by simpa using h1)
 let(w,hw,U):=ui.mp hm;exact(w,e,hw)
structure iA(ks:List Kd):Prop where
 k1:1<=ks.length
 k2:ks.length<=3
 nd:(ks.map (·.1)).Nodup
 mn:(names ks).Nodup
 ne:∀k∈ks,k.2 ≠ []/\k.2.length<=6
 fl:∀k∈ks,∀m∈k.2,m.2.length<=4/\∀f∈m.2,f∈ks.map (·.1)
inductive Lg(ts:List L2.T)(Q:L2.T->Prop):Prop
 |mk(ws:List Str)(h1:ts=[.cY,.l (ws.map .s)])(h2:ws.length=40)(h3:ws.Nodup)(h4:∀ks,iA ks->(∀m∈names ks,m∈ws)->Q (tKs ks))
theorem gp{j:Nat}(h:ws[j]?=Z w):atI (ws.map T.s) (j:Int)=Z (.s w):=cH (by rw[j5,h];rfl)
theorem Tw(h:ws.length=40):eU (ws.map T.s) (Z 4) Y++eU (ws.map T.s) Y (Z 4)=(ws.drop 4++ws.take 4).map T.s:=by
 unfold eU;let q:HT.sIx (ws.map T.s).length 0 (Z 4)=4:=by rw[dz,h];rfl
 let g:HT.sIx (ws.map T.s).length (ws.map T.s).length (Z 4)=4:=by rw[dz,h];rfl
 rw[q,g];show(List.drop 4 (ws.map T.s)).take ((ws.map T.s).length - 4)++(List.drop 0 (ws.map T.s)).take (4 - 0)=_;rw[List.take_of_length_le (by rw[VX];lia),List.drop_zero,zJ,W8,WI]
theorem IQ(f:α->β)(xs:List α)(lo hi:Option Int):eU (xs.map f) lo hi=(eU xs lo hi).map f:=by
 unfold eU;rw[dz,<- W8,<- WI]
theorem CB(ws:List Str)(lo hi:Option Int):T.ims (eU (ws.map T.s) lo hi)=true:=by rw[IQ];exact bu _
theorem Ss(x y:Int)(b:Bool):atI [T.i x,T.i y] (if b=O then 1 else 0)=Z (.i (if b=O then y else x)):=by cases b <;> rfl
theorem NJ(h0:0<=r)(h1:r<3):∃v,atI [T.i x,T.i y,T.i z] r=Z (.i v)/\(v=x\/v=y\/v=z):=by
 obtain⟨n,rfl⟩:∃n:Nat,r=n:=(r.toNat,by lia)
 match n,h1 with
 | 0,_=>exact(x,U,.inl U)
 | 1,_=>exact(y,U,.inr (.inl U))
 | 2,_=>exact(z,U,.inr (.inr U))
 |n+3,h=>lia
theorem leK(a b:Nat)(h:Nat.ble a b=true:=by rfl):a<=b:=Nat.le_of_ble_eq_true h
theorem Bt{α:Type}{p:α->Prop}:∀x∈([]:List α),p x:=λ_ h=>absurd h xH
theorem all1{α:Type}{p:α->Prop}{a:α}(h:p a):∀x ∈ [a],p x:=λ_ hx=>ej.mp hx▸h
theorem all2{α:Type}{p:α->Prop}{a b:α}(h:p a)(h2:p b):∀x ∈ [a,b],p x:=λx hx=>(kf.mp hx).elim (λe=>e▸h) (all1 h2 x)
theorem Vn{α:Type}{p:α->Prop}{a b c:α}(h:p a)(h2:p b)(h3:p c):∀x ∈ [a,b,c],p x:=λx hx=>(kf.mp hx).elim (λe=>e▸h) (all2 h2 h3 x)
structure sL(ws M:List Str)(many:Nat)(ks:List Kd)(k made:Nat):Prop where
 nm:ks.map (·.1)=ws.take k
 mn:names ks=M.take made
 b1:made<=6*k
 ne:∀k∈ks,k.2 ≠ []/\k.2.length<=6
 fl:∀k∈ks,∀m∈k.2,m.2.length<=4/\∀f∈m.2,f∈ws.take many
variable{ks:List Kd}{ms:List Mk1}
theorem sL.next(D:sL ws M many ks k made)(hn:ws[k]?=Z n)(hm:M.take made++ms.map (·.1)=M.take g)(h0:ms ≠ [])(h1:ms.length<=6)(h2:g<=made+ms.length)(h3:∀m∈ms,m.2.length<=4/\∀f∈m.2,f∈ws.take many):
  sL ws M many (ks ++ [(n,ms)]) (k+1) g where
 nm:=by rw[zJ,D.nm,<- take_one hn];rfl
 mn:=by
  have:names (ks ++ [(n,ms)])=names ks++ms.map (·.1):=by unfold names;simp
  rw[this,D.mn,hm]
 b1:=by have:=D.b1;lia
 ne:=λx hx=>by
  obtain h|h:=p7.mp hx
  ·exact D.ne x h
  ·rw[ej.mp h];exact(h0,h1)
 fl:=λx hx=>by
  obtain h|h:=p7.mp hx
  ·exact D.fl x h
  ·rw[ej.mp h];exact h3
theorem sL.good(D:sL ws M many ks many made)(hw:ws.Nodup)(q:M.Nodup)(h1:1<=many)(h2:many<=3)(hl:3<=ws.length):iA ks:=by
 let hlen:ks.length=many:=by
  have:=congrArg VH D.nm
  rw[dz,zL]at this
  lia
 refine(by lia,by lia,by rw[D.nm];exact hw.sublist (V1 _ _),by rw[D.mn];exact q.sublist (V1 _ _),D.ne,λk g m hm=>?_)
 let z:=D.fl k g m hm;rw[D.nm];exact z
theorem wR:decide ((Sum.inr a:Key)=.inr b)=decide (a=b):=by
 by_cases h:a=b
 ·simp
 ·rw[decide_eq_false h,decide_eq_false λz=>h (Sum.inr.inj z)]
variable{P:Da}{mg:Str->Option B}{base:Do}
theorem never(h:∀ts Q,¬ sp ts Q):a8 P w K mg base CX k f fd ps (spQ K sp) :=
 (λ_ _ _ _ g=>by let(_,ts,_,Qp,_,_,z,_):=g;exact(h ts Qp z).elim,λ_ _ _ _ _ _ _ _ _ _ _ _ _ g=>by let(_,ts,_,Qp,_,_,z,_):=g;exact(h ts Qp z).elim)
def kEn(k:Kd):Key×T:=(.inr k.1,tMs k.2)
theorem mj:∀ks:List Kd,fe (ks.map tK)=Z (ks.map kEn)
 |[]=>rfl
 |k::r=>by
  show(match(Z (.inr k.1)),fe (r.map tK)with|some k',Z r=>Z ((Prod.mk k' (tMs k.2))::r)|_,_=>Y)=_
  rw[mj r];rfl
theorem yW:∀{ps acc:List (Key×T)},(ps.map (·.1)).Nodup->(∀p∈ps,∀q∈acc,q.1≠p.1)->aP acc ps=acc++ps
 |[],acc,_,_=>by simp[aP]
 |p::ps,acc,h,hd=>by
  let h':=sP.mp h;let e:cX acc p.1 p.2=acc ++ [p]:=by
   unfold cX;rw[if_neg];intro z;let(q,hq,P):=VY.mp z;exact hd p (by simp) q hq (of_decide_eq_true P)
  show aP (cX acc p.1 p.2) ps=_;rw[e,yW h'.2 λK g q hq=>?_]
  ·simp
  ·obtain z|z:=p7.mp hq
   ·exact hd K (by simp[g]) q z
   ·rw[ej.mp z];exact λe=>h'.1 (ui.mpr (K,g,e.symm))
theorem Mm(h:k∈ks.map (·.1)):bI (ks.map kEn) (.inr k)=Z (tMs (fA ks k)):=by
 unfold bI fA
 induction ks with
 |nil=>cases h
 |cons x r g =>
  by_cases e:x.1=k
  ·rw[xG,BD,BD,show(kEn x).1=.inr x.1 from U,wR,decide_eq_true e];rfl
  ·let h':k∈r.map (·.1):=by
    obtain z|z:=kf.mp h
    ·exact absurd z.symm e
    ·exact z
   rw[xG,BD,BD,show(kEn x).1=.inr x.1 from U,wR,decide_eq_false e];exact g h'
theorem MV(h:(ks.map (·.1)).Nodup):aP [] (ks.map kEn)=ks.map kEn:=by
 rw[yW]
 ·rfl
 ·rw[Jg]
  have:(ks.map ((λx=>x.1) ∘ kEn))=(ks.map (·.1)).map Sum.inr:=by rw[Jg];rfl
  rw[this];exact Wy.mpr (h.imp λg z=>g (Sum.inr.inj z))
 ·intro p _ q hq;cases hq
theorem nN(g:(ks.map (·.1)).Nodup)(h:k∈ks.map (·.1)):bI (aP [] (ks.map kEn)) (.inr k)=Z (tMs (fA ks k)):=by rw[MV g,Mm h]
structure Je(ks:List Kd):Prop where
 k1:1<=ks.length
 k2:ks.length<=6
 nd:(ks.map (·.1)).Nodup
 mn:(names ks).Nodup
 ne:∀k∈ks,k.2 ≠ []/\k.2.length<=6
 fl:∀k∈ks,∀m∈k.2,m.2.length<=4/\∀f∈m.2,f∈ks.map (·.1)
theorem Qo(h0:0<=r)(h1:r.toNat<ws.length):atI (ws.map L2.T.s) r=Z (.s ws[r.toNat]):=by
 have:=gp (ws:=ws) (j:=r.toNat) (w:=ws[r.toNat]) (by simp[h1])
 rwa [QU h0]at this
abbrev Sc:=List (Str×Str)
def tP(p:Str×Str):T:=.t [.s p.1,.s p.2]
theorem jL(p:Str×Str):(tP p).im=true:=rfl
def Fills(sc:Sc)(ns fs:List Str):Prop:=ns.length=fs.length/\∀p∈ns.zip fs,p∈sc
variable{sc:Sc}{ns:List Str}
theorem Fills.snoc(h:Fills sc ns fs)(hp:(n,f)∈sc):Fills sc (ns ++ [n]) (fs ++ [f]):=by
 refine(by simp[h.1],λp g=>?_)
 rw[List.zip_append h.1]at g;obtain z|z:=p7.mp g
 ·exact h.2 p z
 ·simp at z;rw[z];exact hp
inductive AK(ts:List L2.T)(Q:L2.T->Prop):Prop
 |mk(sc:Sc)(fs:List Str)(t:T)(h1:(t=.t (fs.map .s)\/t=.l (fs.map .s)))(h2:ts=[.cY,.l (sc.map tP),t])(h3:sc.length<=60)(h4:fs.length<=1000)(h5:Q .n)(h6:∀ns:List Str,Fills sc ns fs->Q (.t (ns.map .s)))
abbrev Hd:=Str×Sc×Str
def tH(h:Hd):T:=.t [.s h.1,.t (h.2.1.map tP),.s h.2.2]
theorem S0(h:Hd):(tH h).im=true:=by
 show(O&&(T.ims (h.2.1.map tP)&&O))=O;rw[bC jL];rfl
def tW(ks:List Kd)(hs:List Hd)(ws:List Str):T:=.t [tKs ks,.l (hs.map tH),.l (ws.map .s)]
structure Wld(ks:List Kd)(hs:List Hd)(ws:List Str):Prop where
 gk:Je ks
 wl:ws.length=40
 wn:ws.Nodup
 h1:1<=hs.length
 h8:hs.length<=8
 hn:(hs.map (·.1)).Nodup
 hp:∀h∈hs,h.2.1.length<=4/\(∀p∈h.2.1,p.2∈ks.map (·.1))/\h.2.1.map (·.1)=ws.take h.2.1.length/\h.2.2∈ks.map (·.1)
structure sJ(ks:List Kd)(ws:List Str)(h:Hd)(sc:Sc):Prop where
 nm:sc.map (·.1)=ws.take sc.length
 ln:sc.length<=30
 kd:∀p∈sc,p.2∈ks.map (·.1)
 p1:h.2.1.length<=sc.length
 pf:sc.take h.2.1.length=h.2.1
abbrev Arm:=Str×List Str×T×Nat
def tA(a:Arm):T:=.t [.s a.1,.t (a.2.1.map .s),a.2.2.1]
inductive Snd(ks:List Kd)(hs:List Hd)(r:Str):Nat->Sc->T->Prop
 |give{sc:Sc}{x:Str}:(x,r)∈sc->Snd ks hs r 1 sc (.t [.s "give",.s x])
 |su{n:Nat}{sc:Sc}{w:Str}{c:Int}{b:T}:((w="pay" \/ w="get")/\1<=c/\c<=1000)->Snd ks hs r n sc b->Snd ks hs r (n+1) sc (.t [.s w,.i c,b])
 |name{n:Nat}{sc:Sc}{x y k:Str}{b:T}:(y,k)∈sc->x ∉ sc.map (·.1)->Snd ks hs r n (sc ++ [(x,k)]) b->Snd ks hs r (n+1) sc (.t [.s "name",.s x,.s y,b])
 |make{n:Nat}{sc:Sc}{x:Str}{m:Mk1}{kd:Kd}{ns:List Str}{b:T}:kd∈ks->m∈kd.2->Fills sc ns m.2->x ∉ sc.map (·.1)->Snd ks hs r n (sc ++ [(x,kd.1)]) b->Snd ks hs r (n+1) sc (.t [.s "make",.s x,.s m.1,.t (ns.map .s),b])
 |call{n:Nat}{sc:Sc}{x:Str}{h:Hd}{ns:List Str}{b:T}:h∈hs->Fills sc ns (h.2.1.map (·.2))->x ∉ sc.map (·.1)->Snd ks hs r n (sc ++ [(x,h.2.2)]) b->Snd ks hs r (n+1) sc (.t [.s "call",.s x,.s h.1,.t (ns.map .s),b])
 |case{sc:Sc}{x:Str}{kd:Kd}(arms:List Arm):(x,kd.1)∈sc->kd∈ks->arms.map (·.1)=kd.2.map (·.1) ->
   (∀(i:Nat)(a:Arm)(m:Mk1),arms[i]?=Z a->kd.2[i]?=Z m->a.2.1.length=m.2.length/\(sc.map (·.1)++a.2.1).Nodup) ->
   (∀(i:Nat)(a:Arm)(m:Mk1),arms[i]?=Z a->kd.2[i]?=Z m->Snd ks hs r a.2.2.2 (sc++a.2.1.zip m.2) a.2.2.1) ->
   Snd ks hs r (1+(arms.map (·.2.2.2)).sum) sc (.t [.s "case",.s x,.t (arms.map tA)])
theorem Snd.im(h:Snd ks hs r n sc b):b.im=true:=by
 induction h with
 |give _=>rfl
 |su _ _ g=>show(O&&(O&&(T.im _&&O)))=O;rw[g];rfl
 |name _ _ _ g=>show(O&&(O&&(O&&(T.im _&&O))))=O;rw[g];rfl
 |make _ _ _ _ _ g=>show(O&&(O&&(O&&(T.ims _&&(T.im _&&O)))))=O;rw[g,bu];rfl
 |call _ _ _ _ g=>show(O&&(O&&(O&&(T.ims _&&(T.im _&&O)))))=O;rw[g,bu];rfl
 |@case sc x kd arms _ _ hn _ _ g =>
  show(O&&(O&&(T.ims (arms.map tA)&&O)))=O
  have:T.ims (arms.map tA)=true:=by
   let go:∀l,(∀t∈l,t.im=O)->T.ims l=true:=by
    intro l
    induction l with
    |nil=>intro _;rfl
    |cons t r g=>intro h;show(t.im&&T.ims r)=O;rw[h t g5,g λt q=>h t (j0 _ q)];rfl
   refine go _ λt q=>?_
   let(a,ha,U):=ui.mp q;let(i,hi,e):=zN ha;let hl:=by have:=congrArg VH hn;simpa using this.symm
   let z:=g i a (kd.2[i]'(by lia)) (by rw[eO hi,e]) (eO _)
   show(O&&(T.ims (a.2.1.map .s)&&(a.2.2.1.im&&O)))=O;rw[z,bu];rfl
  rw[this];rfl
def tb:Nat->List Nat
 | 0=>[2]
 |n+1=>(1+max ((tb n).getD 0 2) (max ((tb n).getD 1 2) (max (2*(tb n).getD 2 2) (max (3*(tb n).getD 3 2) (max (4*(tb n).getD 4 2) (max (5*(tb n).getD 5 2) (6*(tb n).getD 6 2)))))))::tb n
def sz(n:Nat):Nat:=(tb n).getD 0 2
theorem jt:∀n k:Nat,(tb n).getD k 2=sz (n - k)
 | 0,0=>rfl
 | 0,k+1=>by rw[Nat.zero_sub];rfl
 |n+1,0=>rfl
 |n+1,k+1=>by
  rw[Nat.add_sub_add_right,<- jt n k];rfl
theorem JO(n:Nat):sz (n+1)=1+max (sz n) (max (sz (n - 1)) (max (2*sz (n - 2)) (max (3*sz (n - 3)) (max (4*sz (n - 4)) (max (5*sz (n - 5)) (6*sz (n - 6))))))):=by
 show 1+max ((tb n).getD 0 2) _=_;rw[jt,jt,jt,jt,jt,jt,jt];rfl
theorem Ab(n:Nat):1+sz n<=sz (n+1):=by exact WS (Wj _ _) 1
theorem FA:∀n:Nat,2<=sz n
 | 0=>mW _
 |n+1=>by have:=Ab n;have:=FA n;lia
variable{n:Nat}
theorem JQ(h1:1<=k)(h6:k<=6):1+k*sz (n - k)<=sz (n+1):=by
 rw[JO]
 have:k=1\/k=2\/k=3\/k=4\/k=5\/k=6:=by lia
 let r:∀{a b c:Nat},a<=c->a<=max b c:=λh=>u4 h (Nat.le_max_right _ _)
 refine WS ?_ 1;obtain rfl|rfl|rfl|rfl|rfl|rfl:=this
 ·rw[Nat.one_mul];exact r (Wj _ _)
 ·exact r (r (Wj _ _))
 ·exact r (r (r (Wj _ _)))
 ·exact r (r (r (r (Wj _ _))))
 ·exact r (r (r (r (r (Wj _ _)))))
 ·exact r (r (r (r (r (r (mW _))))))
theorem JP(h:n<=m):sz n<=sz m:=by
 induction h with
 |refl=>exact mW _
 |step _ g=>exact u4 g (u4 (Nat.le_add_left _ _) (Ab _))
theorem Ru:sz 30<=50000:=by decide +kernel
variable{kd:Kd}
theorem mv(g:(ks.map (·.1)).Nodup)(h:kd∈ks):fA ks kd.1=kd.2:=by
 unfold fA
 induction ks with
 |nil=>cases h
 |cons x r q =>
  rw[xG,sP]at g;by_cases e:x.1=kd.1
  ·obtain z|z:=kf.mp h
   ·subst z;simp
   ·exact absurd (ui.mpr (kd,z,e.symm)) g.1
  ·rw[BD,decide_eq_false e];obtain z|z:=kf.mp h
   ·exact absurd (by rw[z]) e
   ·exact q g.2 z
theorem NO(h:k∈ks.map (·.1)):∃kd∈ks,kd.1=k:=by
 let(kd,h1,h2):=ui.mp h;exact(kd,h1,h2)
variable{x:Str}
theorem sJ.fresh(S:sJ ks ws h sc)(wn:ws.Nodup)(hx:ws[sc.length]?=Z x):x ∉ sc.map (·.1):=by
 rw[S.nm];intro z;let q:=wn.sublist (V1 (sc.length+1) ws);rw[<- take_one hx]at q;exact(Dc.mp q).2.2 x z x (by simp) U
theorem sJ.snoc(S:sJ ks ws h sc)(hx:ws[sc.length]?=Z x)(hl:sc.length<30)(g:k∈ks.map (·.1)):sJ ks ws h (sc ++ [(x,k)]) where
 nm:=by rw[zJ,S.nm,px];exact take_one hx
 ln:=by simp;lia
 kd:=λp hp=>by
  obtain z|z:=p7.mp hp
  ·exact S.kd p z
  ·rw[ej.mp z];exact g
 p1:=by rw[px];have:=S.p1;lia
 pf:=by rw[WK S.p1];exact S.pf
inductive pM(ts:List L2.T)(Q:L2.T->Prop):Prop
 |mk(ks:List Kd)(hs:List Hd)(ws:List Str)(sc:Sc)(f:Nat)(h:Hd)(h1:ts=[.cY,tW ks hs ws,.l (sc.map tP),.s h.2.2,.i f])(h2:Wld ks hs ws)(h3:hs[f]?=Z h)(h4:sJ ks ws h sc)(h5:∀n b,n<=2->Snd ks hs h.2.2 n sc b->Dep 2 b->Q b)
inductive kX(N:Nat)(ts:List L2.T)(Q:L2.T->Prop):Prop
 |mk(ks:List Kd)(hs:List Hd)(ws:List Str)(sc:Sc)(f:Nat)(h:Hd)(u:Int)(h1:ts=[.cY,tW ks hs ws,.l (sc.map tP),.i f,.rm u])(h2:Wld ks hs ws)(h3:hs[f]?=Z h)(h4:sJ ks ws h sc)(h5:sc.length<=21)(h6:u.toNat<N)(h7:∀n b,n<=sz u.toNat->Snd ks hs h.2.2 n sc b->Dep (3*u.toNat+2) b->Q b)
inductive O8(N:Nat)(ts:List L2.T)(Q:L2.T->Prop):Prop
 |mk(ks:List Kd)(hs:List Hd)(ws:List Str)(sc:Sc)(f:Nat)(h:Hd)(u:Int)(h1:ts=[.cY,tW ks hs ws,.l (sc.map tP),.i f,.rm u])(h2:Wld ks hs ws)(h3:hs[f]?=Z h)(h4:sJ ks ws h sc)(h5:sc.length<=17)(h6:sc ≠ [])(h7:u.toNat<N)(h8:∀n b,n<=sz (u.toNat+1)->Snd ks hs h.2.2 n sc b->Dep (3*u.toNat+5) b->Q b)
theorem IM{xs:List α}(h:n<=xs.length):eU xs Y (Z (n:Int))=xs.take n:=by
 unfold eU;rw[HT.F5,HT.Kf,Xg h,List.drop_zero,Nat.sub_zero]
theorem Fills.self:Fills sc ((sc.take n).map (·.1)) ((sc.take n).map (·.2)):=by
 refine(by simp,λp hp=>?_)
 rw[List.zip_map',ui]at hp;let(q,hq,U):=hp;exact VP hq
theorem BI{fs:List Str}(h:ns.length=fs.length):(ns.zip fs).map (·.1)=ns:=by
 rw[X1 (by lia)]
theorem sJ.more(S:sJ ks ws h sc)(wn:ws.Nodup)(e:ns=(ws.drop sc.length).take fs.length)(hl:sc.length+fs.length<=30)(hw:40<=ws.length)(K:∀f∈fs,f∈ks.map (·.1)):
  ns.length=fs.length/\(sc.map (·.1)++ns).Nodup/\sJ ks ws h (sc++ns.zip fs):=by
 let l1:ns.length=fs.length:=by rw[e,zL,VX];lia
 let g:sc.map (·.1)++ns=ws.take (sc.length+fs.length):=by rw[S.nm,e,List.take_add]
 let q:(ns.zip fs).length=fs.length:=by rw[Ii];lia
 refine(l1,by rw[g];exact wn.sublist (V1 _ _),(?_,?_,λp hp=>?_,?_,?_))
 ·rw[zJ,BI l1,g,px,q]
 ·rw[px];lia
 ·obtain z|z:=p7.mp hp
  ·exact S.kd p z
  ·exact K p.2 (QV z).2
 ·rw[px];have:=S.p1;lia
 ·rw[WK S.p1];exact S.pf
variable{arms:List Arm}{Yb:Nat}
theorem Oj(h:∀a∈arms,a.2.2.2<=Yb):(arms.map (·.2.2.2)).sum<=arms.length*Yb:=by
 induction arms with
 |nil=>simp
 |cons a r g =>
  let h1:=h a g5;let h2:=g λb q=>h b (j0 _ q)
  rw[xG,VB,rl,Nat.add_mul]
  lia
structure N8(ks:List Kd)(hs:List Hd)(r:Str)(sc:Sc)(Yb D:Nat)(a:Arm)(m:Mk1):Prop where
 nm:a.1=m.1
 ln:a.2.1.length=m.2.length
 nd:(sc.map (·.1)++a.2.1).Nodup
 sn:Snd ks hs r a.2.2.2 (sc++a.2.1.zip m.2) a.2.2.1
 sz:a.2.2.2<=Yb
 dp:Dep D a.2.2.1
structure uv(ks:List Kd)(hs:List Hd)(r:Str)(sc:Sc)(Yb D:Nat)(arms:List Arm)(ms:List Mk1):Prop where
 ln:arms.length=ms.length
 ok:∀(i:Nat)(a:Arm)(m:Mk1),arms[i]?=Z a->ms[i]?=Z m->N8 ks hs r sc Yb D a m
variable{hs:List Hd}{r:Str}{D:Nat}{m:Mk1}
theorem uv.snoc(h:uv ks hs r sc Yb D arms ms)(ha:N8 ks hs r sc Yb D a m):uv ks hs r sc Yb D (arms ++ [a]) (ms ++ [m]):=by
 refine(by simp[h.ln],λi q m' h1 h2=>?_)
 by_cases hi:i<arms.length
 ·rw[wh hi]at h1;rw[wh (by rw[<- h.ln];exact hi)]at h2
  exact h.ok i q m' h1 h2
 ·rw[xD (by lia)]at h1
  rw[xD (by rw[<- h.ln];lia),<- h.ln]at h2
  let g:i - arms.length=0:=by
   have:=(j3.mp h1).1
   simp at this
   lia
  rw[g]at h1 h2;simp at h1 h2;subst h1 h2;exact ha
theorem uv.snd(h:uv ks hs r sc Yb D arms kd.2)(hx:(x,kd.1)∈sc)(z:kd∈ks):Snd ks hs r (1+(arms.map (·.2.2.2)).sum) sc (.t [.s "case",.s x,.t (arms.map tA)])/\(arms.map (·.2.2.2)).sum<=arms.length*Yb:=by
 refine(.case arms hx z ?_ (λi a m h1 h2=>((h.ok i a m h1 h2).ln,(h.ok i a m h1 h2).nd)) (λi a m h1 h2=>(h.ok i a m h1 h2).sn),Oj λa ha=>?_)
 ·apply XQ
  intro i;rw[j5,j5];by_cases hi:i<arms.length
  ·let q:=eO hi;let g:kd.2[i]?=Z (kd.2[i]'(by rw[<- h.ln];exact hi)):=eO _
   rw[q,g];exact congrArg Z (h.ok i _ _ q g).nm
  ·rw[Vt (by omega),Vt (by rw[<- h.ln];omega)]
   rfl
 ·let(i,hi,e):=zN ha;exact(h.ok i a _ (by rw[eO hi,e]) (eO (by rw[<- h.ln];exact hi))).sz
theorem jF{xs:List α}{r:Int}(h0:0<=r)(h1:r<xs.length):∃x∈xs,atI (xs.map f) r=Z (f x):=by
 let h:r.toNat<xs.length:=by lia
 refine(xs[r.toNat],V9 h,?_)
 have:=cH (xs:=xs.map f) (by rw[j5,eO h];rfl)
 rwa [QU h0]at this
theorem max_two{r g:Int}(P:0<=r)(K:r<n)(z:0<=g)(q:g<n):0 <=(if g > r then g else r)/\(if g > r then g else r)<n:=by split <;> lia
theorem E9{α β:Type}{A:List α}{Yb:List β}{a:α}{b:β}(ha:A[j]?=Z a)(g:Yb[j]?=Z b):(A.take (j+1)).zip (Yb.take (j+1))=(A.take j).zip (Yb.take j) ++ [(a,b)]:=by
 let h1:=(j3.mp ha).1;let h2:=(j3.mp g).1;rw[u3,u3,ha,g,List.zip_append (by rw[zL,zL];lia)]
 rfl
theorem uv.im(h:uv ks hs r sc Yb D arms ms):T.ims (arms.map tA)=true:=by
 let go:∀l,(∀t∈l,t.im=O)->T.ims l=true:=by
  intro l
  induction l with
  |nil=>intro _;rfl
  |cons t r q=>intro h;show(t.im&&T.ims r)=O;rw[h t g5,q λt g=>h t (j0 _ g)];rfl
 refine go _ λt g=>?_
 let(a,ha,U):=ui.mp g;let(i,hi,e):=zN ha;let z:=(h.ok i a _ (by rw[eO hi,e]) (eO (by rw[<- h.ln];exact hi))).sn.im
 show(O&&(T.ims (a.2.1.map .s)&&(a.2.2.1.im&&O)))=O;rw[z,bu];rfl
theorem zo{l:List Str}:Dep (n+1) (.t (l.map .s)):=Dep.t λx hx=>by
 let(z,_,U):=ui.mp hx;exact Dep.s
theorem bM:∀x∈([]:List T),Dep n x:=bY
theorem bf(h:Dep n t)(hs:∀x∈ts,Dep n x):∀x∈t::ts,Dep n x:=λx hx=>(kf.mp hx).elim (λe=>e▸h) (hs x)
theorem sj:Dep (n+1) (.t [.s "give",.s x]):=Dep.t (bf Dep.s (bf Dep.s bM))
theorem EG(h:Dep D b):Dep (D+1) (.t [.s w,.i c,b]):=Dep.t (bf Dep.s (bf Dep.i (bf h bM)))
variable{y:Str}
theorem IC(h:Dep D b):Dep (D+1) (.t [.s w,.s x,.s y,b]):=Dep.t (bf Dep.s (bf Dep.s (bf Dep.s (bf h bM))))
theorem mH(h:Dep D b)(h1:1<=D):Dep (D+1) (.t [.s w,.s x,.s y,.t (ns.map .s),b]):=by
 obtain⟨k,rfl⟩:∃k,D=k+1:=(D - 1,by lia)
 exact Dep.t (bf Dep.s (bf Dep.s (bf Dep.s (bf zo (bf h bM)))))
theorem uv.dep(h:uv ks hs r sc Yb D arms ms)(h1:1<=D):Dep (D+3) (.t [.s "case",.s x,.t (arms.map tA)]):=by
 obtain⟨k,rfl⟩:∃k,D=k+1:=(D - 1,by omega)
 refine Dep.t (bf Dep.s (bf Dep.s (bf (Dep.t λt g=>?_) bM)))
 let(a,ha,U):=ui.mp g;let(i,hi,e):=zN ha;exact Dep.t (bf Dep.s (bf zo (bf (h.ok i a _ (by rw[eO hi,e]) (eO (by rw[<- h.ln];exact hi))).dp bM)))
abbrev Fn:=Hd×T×Nat
def tF(f:Fn):T:=.t [.s f.1.1,.t (f.1.2.1.map tP),.s f.1.2.2,f.2.1]
structure Prog(ks:List Kd)(fs:List Fn):Prop where
 gk:Je ks
 l8:fs.length<=8
 hn:(fs.map (·.1.1)).Nodup
 pk:∀f∈fs,f.1.2.1.length<=4/\(∀p∈f.1.2.1,p.2∈ks.map (·.1))/\(f.1.2.1.map (·.1)).Nodup/\f.1.2.2∈ks.map (·.1)
 sn:∀f∈fs,Snd ks (fs.map (·.1)) f.1.2.2 f.2.2 f.1.2.1 f.2.1/\f.2.2<=50000
 dp:∀f∈fs,Dep 92 f.2.1
theorem iA.p(g:iA ks):Je ks:=(g.k1,by have:=g.k2;lia,g.nd,g.mn,g.ne,g.fl)
inductive D5(ts:List L2.T)(Q:L2.T->Prop):Prop
 |mk(m u:Int)(h1:ts=[.cY,.i m,.i u])(h2:0<m)(h3:m<=8)(h4:0<=u)(h5:u<=30)(h6:∀ks fs,Prog ks fs->iA ks->fs ≠ []->Q (.t [tKs ks,.t (fs.map tF)]))
def kr(o:Nat)(f:Nat):Nat:=if o=0 then f else 39 - f
structure vf(ks:List Kd)(ws:List Str)(o:Nat)(hs:List Hd)(i:Nat):Prop where
 ln:hs.length=i
 nm:hs.map (λh=>Z h.1)=(E3 i).map λf=>ws[kr o f]?
 hp:∀h∈hs,h.2.1.length<=4/\(∀p∈h.2.1,p.2∈ks.map (·.1))/\h.2.1.map (·.1)=ws.take h.2.1.length/\h.2.2∈ks.map (·.1)
theorem vf.snoc(H:vf ks ws o hs i)(hn:ws[kr o i]?=Z h.1)(hp:h.2.1.length<=4/\(∀p∈h.2.1,p.2∈ks.map (·.1))/\h.2.1.map (·.1)=ws.take h.2.1.length/\h.2.2∈ks.map (·.1)):vf ks ws o (hs ++ [h]) (i+1) where
 ln:=by simp[H.ln]
 nm:=by rw[zJ,H.nm,List.range_succ];simp[hn]
 hp:=λh' hm=>by
  obtain z|z:=p7.mp hm
  ·exact H.hp h' z
  ·rw[ej.mp z];exact hp
theorem vf.nd(H:vf ks ws o hs i)(hl:ws.length=40)(wn:ws.Nodup)(hi:i<=8):(hs.map (·.1)).Nodup:=by
 let e:(hs.map (·.1)).map Z=(E3 i).map λf=>ws[kr o f]?:=by rw[<- H.nm,Jg];rfl
 let n:((E3 i).map λf=>ws[kr o f]?).Nodup:=by
  refine Wy.mpr (List.Pairwise.imp_of_mem (λ{a b} ha K g z=>?_) (XZ))
  let ha:=V7.mp ha;let l1:kr o a<ws.length:=by unfold kr;split <;> lia
  let q:=z
  have:=(List.getElem?_inj l1 wn).mp q
  unfold kr at this
  split at this <;> lia
 rw[<- e]at n;exact(Wy.mp n).imp λg z=>g (by rw[z])
abbrev Ds:=List (Str×Int)
def dEn(p:Str×Int):Key×T:=(.inr p.1,.i p.2)
def dT(ds:Ds):T:=.d (ds.map dEn)
def lk(ds:Ds)(k:Str):Option Int:=(ds.find? λp=>decide (p.1=k)).map (·.2)
def putD(ds:Ds)(k:Str)(v:Int):Ds:=if(ds.any λp=>decide (p.1=k))=O then ds.map (λp=>if p.1=k then(p.1,v)else p)else ds ++ [(k,v)]
theorem gF(ds:Ds)(k:Str):bI (ds.map dEn) (.inr k)=(lk ds k).map .i:=by
 unfold bI lk
 induction ds with
 |nil=>rfl
 |cons p r g =>
  rw[xG,BD,BD,show(dEn p).1=.inr p.1 from U,wR];cases decide (p.1=k)with
  |true=>rfl
  |false=>exact g
theorem Qq(ds:Ds)(k:Str):((ds.map dEn).any λp=>decide (p.1=.inr k))=ds.any λp=>decide (p.1=k):=by
 rw[Xe]
 congr 1
 funext p
 exact wR
theorem OW(ds:Ds)(k:Str)(v:Int):cX (ds.map dEn) (.inr k) (.i v)=(putD ds k v).map dEn:=by
 unfold cX putD;rw[Qq]
 split
 ·rw[Jg,Jg]
  apply Wo
  intro p _;show(if(Sum.inr p.1:Key)=.inr k then((Sum.inr p.1),T.i v)else dEn p)=dEn (if p.1=k then(p.1,v)else p)
  by_cases h:p.1=k
  ·rw[if_pos (congrArg Sum.inr h),if_pos h];rfl
  ·rw[if_neg λz=>h (Sum.inr.inj z),if_neg h]
 ·rw[zJ];rfl
variable{ds:Ds}
theorem jG(h:lk ds k=Z v):(k,v)∈ds:=by
 let(p,hp,U):=j7.mp h;let h1:=UN hp;let h2:=WO hp;let h2:=by simpa using h2
 rw[<- h2];exact h1
theorem Cs(h:lk ds k=Y):∀p∈ds,p.1≠k:=by
 intro p hp e
 have:=WY.mp (Xf.mp h) p hp
 exact this (decide_eq_true e)
theorem Bs:(ds.any λp=>decide (p.1=k))=(lk ds k).isSome:=by
 cases h:lk ds k with
 |none =>
  rw[Option.isSome_none,W4];exact λp hp=>by simpa using Cs h p hp
 |some v =>
  rw[XA,VY];exact(_,jG h,by simp)
theorem rM:lk (putD ds k v) f=if f=k then Z v else lk ds f:=by
 unfold putD
 split
 ·rename_i h;by_cases e:f=k
  ·subst e;rw[if_pos rfl];unfold lk
   induction ds with
   |nil=>cases h
   |cons p r q =>
    by_cases hp:p.1=f
    ·simp[hp]
    ·rw[VW,decide_eq_false hp]at h
     have:=q h
     simp only[xG,if_neg hp,BD,decide_eq_false hp];exact this
  ·rw[if_neg e];unfold lk;clear h
   induction ds with
   |nil=>rfl
   |cons p r q =>
    by_cases hp:p.1=k
    ·let h1:¬ k=f:=λz=>e z.symm
     simp only[xG,hp,if_pos,BD,decide_eq_false h1];exact q
    ·by_cases hf:p.1=f
     ·simp[hf,e]
     ·simp only[xG,if_neg hp,BD,decide_eq_false hf];exact q
 ·rename_i h;let h':lk ds k=none:=by
   rw[Bs]at h;cases g:lk ds k with
   |none=>rfl
   |some _=>rw[g]at h;exact absurd U h
  unfold lk at h' ⊢;rw[XW];by_cases e:f=k
  ·subst e;rw[Xf.mp h'];simp
  ·rw[if_neg e];let h1:¬ k=f:=λz=>e z.symm
   cases g:List.find? (λp=>decide (p.1=f)) ds with
   |none=>simp[h1]
   |some p=>rfl
def cP(ds:Ds)(fs:List Str):Int:=(fs.map λf=>(lk ds f).getD 0).sum
def bnd:Nat->Int
 | 0=>0
 |n+1=>1+4*bnd n
theorem xo:∀n,0<=bnd n
 | 0=>E6 _
 |n+1=>by have:=xo n;show 0<=1+4*bnd n;lia
theorem Qm(n:Nat):bnd n<=bnd (n+1):=by have:=xo n;show _<=1+4*bnd n;lia
theorem Bq:∀{n m:Nat},n<=m->bnd n<=bnd m
 |n,0,h=>by rw[Nat.le_zero.mp h];exact E6 _
 |n,m+1,h=>by
  by_cases e:n=m+1
  ·rw[e];exact E6 _
  ·exact VN (Bq (by lia)) (Qm m)
theorem BQ:∀{fs:List Str},(∀f∈fs,(lk q f).getD 0 <=(lk ds f).getD 0)->cP q fs<=cP ds fs
 |[],_=>E6 _
 |f::fs,h=>by
  let h1:=h f (by simp)
  let h2:=BQ (fs:=fs) λg hg=>h g (by simp[hg])
  unfold cP at *;simp only[xG,VB]
  lia
theorem BR:∀{fs:List Str},(∀f∈fs,0 <=(lk ds f).getD 0/\(lk ds f).getD 0<=b)->0<=cP ds fs/\cP ds fs<=fs.length*b
 |[],_=>by simp[cP]
 |f::fs,h=>by
  let h1:=h f (by simp)
  let h2:=BR (fs:=fs) λg hg=>h g (by simp[hg])
  unfold cP at *;simp only[xG,VB,rl]
  have:((fs.length+1:Nat))*b=fs.length*b+b:=by rw[Int.natCast_add,Int.add_mul];simp
  lia
structure jo(ks:List Kd)(ds:Ds):Prop where
 nd:(ds.map (·.1)).Nodup
 sub:∀p∈ds,p.1∈ks.map (·.1)
 bd:∀p∈ds,1<=p.2/\p.2<=bnd ds.length
 wt:∀k v,lk ds k=Z v->∃m∈fA ks k,(∀f∈m.2,(lk ds f).isSome=O)/\1+cP ds m.2<=v
theorem jo.nil(ks:List Kd):jo ks []:=(mu,by simp,by simp,λk v h=>by cases h)
theorem jo.bds(h:jo ks ds)(f:Str):0 <=(lk ds f).getD 0/\(lk ds f).getD 0<=bnd ds.length:=by
 cases e:lk ds f with
 |none=>exact(E6 _,xo _)
 |some v=>have:=h.bd _ (jG e);exact(by show 0<=v;lia,this.2)
theorem jo.sum(h:jo ks ds)(fs:List Str):0<=cP ds fs/\cP ds fs<=fs.length*bnd ds.length:=BR λf _=>h.bds f
theorem yt:(putD ds k v).length=if(lk ds k).isSome=O then ds.length else ds.length+1:=by
 unfold putD;rw[Bs]
 split <;> simp
theorem uM:(putD ds k v).map (·.1)=if(lk ds k).isSome=O then ds.map (·.1)else ds.map (·.1) ++ [k]:=by
 unfold putD;rw[Bs]
 split
 ·rw[Jg]
  apply Wo
  intro p _;show(if p.1=k then(p.1,v)else p).1=p.1
  split <;> rfl
 ·simp
theorem jo.put(h:jo ks ds)(hk:k∈ks.map (·.1))(hm:m∈fA ks k)(h4:m.2.length<=4)(hf:∀f∈m.2,(lk ds f).isSome=O)(hv:v=min ((lk ds k).getD (1+cP ds m.2)) (1+cP ds m.2)):jo ks (putD ds k v):=by
 let hs:=h.sum m.2;let v1:1<=v:=by
  rw[hv];cases e:lk ds k with
  |none=>show 1<=min (1+cP ds m.2) _;lia
  |some u=>have:=h.bd _ (jG e);show 1<=min u _;lia
 let v2:v<=1+cP ds m.2:=by rw[hv];exact Int.min_le_right _ _
 let v3:∀u,lk ds k=Z u->v<=u:=λu e=>by rw[hv,e];exact Int.min_le_left _ _
 let vb:v<=bnd (putD ds k v).length:=by
  rw[yt];cases e:lk ds k with
  |none =>
   show v<=1+4*bnd ds.length
   have:(m.2.length)*bnd ds.length<=4*bnd ds.length:=WD (by lia) (xo _)
   lia
  |some u =>
   rw[if_pos (by rfl)]
   have:=v3 u e
   let q:=(h.bd _ (jG e)).2
   lia
 let lb:bnd ds.length<=bnd (putD ds k v).length:=Bq (by rw[yt];split <;> lia)
 let low:∀fs,(∀f∈fs,(lk ds f).isSome=O)->cP (putD ds k v) fs<=cP ds fs:=λfs aD=>BQ λf K=>by
  rw[rM]
  split
  ·rename_i e;subst e;let(u,P):=Vw.mp (aD f K);rw[P];exact v3 u P
  ·exact E6 _
 let V:∀f,(lk ds f).isSome=O->(lk (putD ds k v) f).isSome=true:=λf K=>by
  rw[rM]
  split
  ·rfl
  ·exact K
 refine(?_,?_,?_,?_)
 ·rw[uM];cases e:lk ds k with
  |none =>
   refine Dc.mpr (h.nd,by simp,λa ha b hb=>?_)
   rw[ej.mp hb];let(p,hp,U):=ui.mp ha;exact Cs e p hp
  |some u=>exact h.nd
 ·intro p hp
  have:p.1∈(putD ds k v).map (·.1):=ui.mpr (p,hp,U)
  rw[uM]at this
  split at this
  ·let(q,hq,e):=ui.mp this;rw[<- e];exact h.sub q hq
  ·obtain z|z:=p7.mp this
   ·let(q,hq,e):=ui.mp z;rw[<- e];exact h.sub q hq
   ·rw[ej.mp z];exact hk
 ·intro p hp;let z:p.2=v\/p∈ds:=by
   unfold putD at hp
   split at hp
   ·let(q,hq,U):=ui.mp hp
    split
    ·exact .inl U
    ·exact .inr hq
   ·obtain z|z:=p7.mp hp
    ·exact .inr z
    ·rw[ej.mp z];exact .inl U
  obtain z|z:=z
  ·rw[z];exact(v1,vb)
  ·have:=h.bd p z
   exact(this.1,VN this.2 lb)
 ·intro k' u P;rw[rM]at P;by_cases e:k'=k
  ·rw[if_pos e]at P;cases P;subst e;cases g:lk ds k' with
   |none =>
    let aE:v=1+cP ds m.2:=by rw[hv,g];show min (1+cP ds m.2) (1+cP ds m.2)=_;lia
    have:=low m.2 hf
    exact(m,hm,λf K=>V f (hf f K),by lia)
   |some w =>
    by_cases c:w<=1+cP ds m.2
    ·let(m',Q,K,av):=h.wt k' w g
     have:=low m'.2 K
     exact(m',Q,λf Qc=>V f (K f Qc),by rw[hv,g]at *;show _<=min w _;lia)
    ·have:=low m.2 hf
     exact(m,hm,λf K=>V f (hf f K),by rw[hv,g]at *;show _<=min w _;lia)
  ·rw[if_neg e]at P;let(m',Q,K,av):=h.wt k' u P
   have:=low m'.2 K
   exact(m',Q,λf Qc=>V f (K f Qc),by lia)
theorem jo.len(h:jo ks ds)(g:iA ks):ds.length<=3:=by
 have:=El h.nd λx hx=>by let(p,hp,U):=ui.mp hx;exact h.sub p hp
 have:=g.k2
 simp only[dz]at *
 lia
def Zd(ds:Ds)(k:Str)(m:Mk1):Prop:=m.2=[]->(lk ds k).isSome=O
theorem Zd.put(h:Zd ds k m)(k':Str)(v:Int):Zd (putD ds k' v) k m:=λe=>by
 rw[rM]
 split
 ·rfl
 ·exact h e
inductive GW(ts:List L2.T)(Q:L2.T->Prop):Prop
 |mk(ks:List Kd)(h1:ts=[tKs ks])(h2:iA ks)(h3:∀ds,jo ks ds->(∀kd∈ks,∀m∈kd.2,Zd ds kd.1 m)->Q (dT ds))
theorem HG{i:Nat}(g:(ks.map (·.1)).Nodup)(h:ks[i]?=Z kd):fA ks kd.1=kd.2:=by
 refine Mf h U λj y z q e=>?_
 let h1:(ks.map (·.1))[i]?=Z kd.1:=by rw[j5,h];rfl
 let h2:(ks.map (·.1))[j]?=Z kd.1:=by rw[j5,q,<- e];rfl
 let(l1,P):=j3.mp h1;let(l2,K):=j3.mp h2;exact List.pairwise_iff_getElem.mp g j i l2 l1 z (by rw[P,K])
theorem Pr(a b:Int):min a b=if b<a then b else a:=by
 rw[Int.min_def]
 split <;> split <;> lia
variable{u:Int}
theorem Rz{y:T}{n:Int}{Q:T->Prop}(h:y=.i u)(hq:Q (.i (f u n))):qI2 f [y,.i n] Q:=by subst h;exact hq
theorem OB{Q:T->Prop}(h:Q (.i (a+b))):tL (.i a) (.i b) Q:=h
theorem P2(ds:Ds):T.imk (ds.map dEn)=true:=by
 induction ds with
 |nil=>rfl
 |cons p r g=>show(_&&_)=O;rw[g];rfl
theorem DT{D:dW}{q:Sq}{k:Str}{n v:Int}(h1:q[1]?=Z (.o (dT ds)))(h3:q[3]?=Z (.r (.s k)))(h7:q[7]?=Z (.o (.i n)))(hl:ds.length<mV)(hv:v=f ((lk ds k).getD n) n)(hq:D.nx (q.set 1 (.o (dT (putD ds k v))))):
  DX 1 (bp 3) (qCB (qI2 f) (aJ (GK (bp 1) (bp 3) (bp 7)) (aJ (bp 7) fb))) D q:=by
 simp only[DX,qCB,aJ,fb,GK,bp,h1,h3,h7];refine Rz (u:=(lk ds k).getD n) (by rw[gF];cases lk ds k <;> rfl) (by rw[dz];exact hl,P2 ds,U,?_)
 rw[OW,<- hv];exact hq
theorem xp{α:Type}(f:α->Bool):∀xs:List α,bls (xs.map λx=>T.b (f x))=Z (xs.map f)
 |[]=>rfl
 |x::r=>by show(bls (r.map λx=>T.b (f x))).map (f x :: ·)=_;rw[xp f r];rfl
theorem ins_map{α:Type}(f:α->Int):∀xs:List α,ins (xs.map λx=>T.i (f x))=Z (xs.map f)
 |[]=>rfl
 |x::r=>by show(ins (r.map λx=>T.i (f x))).map (f x :: ·)=_;rw[ins_map f r];rfl
def due(ks:List Kd)(k:Str)(x:T)(n:Nat):Option (List Str):=((fA ks k).find? λm=>decide (V.str m.1=x.v)&&decide (m.2.length=n)).map (·.2)
def isN(ks:List Kd):Nat->Str->T->Bool
 | 0,_,_=>ϊ
 |n+1,k,.t [x,.t ps]=>match due ks k x ps.length with
  |some fs=>(fs.zip ps).all λp=>isN ks n p.1 p.2
  |none=>ϊ
 |_+1,_,_=>ϊ
def wt:Nat->T->Nat
 | 0,_=>1
 |n+1,.t [_,.t ps]=>1+(ps.map (wt n)).sum
 |_+1,_=>1
def Ok:Nat->T->Prop
 | 0,t=>t.im=O/\t.tyN.isSome=O/\(∀x y,t=.t [x,y]->y.tyN.isSome=O)/\∀x ps,t ≠ .t [x,.t ps]
 |n+1,t=>t.im=O/\t.tyN.isSome=O/\(∀x y,t=.t [x,y]->y.tyN.isSome=O)/\∀x ps,t=.t [x,.t ps]->x.fl=O/\ps.length<=1000/\∀p∈ps,Ok n p
inductive Lc(n:Nat)(ts:List L2.T)(Q:L2.T->Prop):Prop
 |mk(ks:List Kd)(ds:Ds)(k:Str)(room v:Int)(h1:ts=[.cY,tKs ks,dT ds,.s k,.i room])(h2:iA ks)(h3:jo ks ds)(h4:lk ds k=Z v)(h5:v<=room)(h6:room<=n)(h7:room<=1000)(h8:∀t,isN ks n k t=O->Ok n t->(wt n t:Int)<=room->Q t)
def gf(ds:Ds)(room:Int)(m:Mk1):Bool:=(m.2.map λf=>(lk ds f).isSome).all id&&decide (1+cP ds m.2<=room)
theorem ux{xs:List α}{x:α}(h:xs[i]?=Z x):xs.take (i+1)=xs.take i ++ [x]:=by rw[u3,h];rfl
theorem wM(h:m∈fA ks k):∃kd∈ks,kd.1=k/\fA ks k=kd.2:=by
 unfold fA at h ⊢
 split at h
 ·rename_i x hx;let h2:=WO hx;exact(x,UN hx,by simpa using h2,U)
 ·cases h
theorem iA.ma(g:iA ks)(h:m∈fA ks k):m.2.length<=4/\(∀f∈m.2,f∈ks.map (·.1))/\(fA ks k).length<=6:=by
 let(kd,q,_,e):=wM h;rw[e]at h ⊢;exact((g.fl kd q m h).1,(g.fl kd q m h).2,(g.ne kd q).2)
theorem rG:∀{ks:List Kd}{kd:Kd},kd∈ks->(names ks).Nodup->(kd.2.map (·.1)).Nodup
 |a::r,kd,h,hn=>by
  obtain rfl|h:=kf.mp h
  ·exact(Dc.mp hn).1
  ·exact rG h (Dc.mp hn).2.1
theorem map_inj(h:(ms.map (·.1)).Nodup)(h1:m∈ms)(h2:m'∈ms)(e:m.1=m'.1):m=m':=by
 induction ms with
 |nil=>cases h1
 |cons a r z =>
  let h':=sP.mp h;obtain q|h1:=kf.mp h1
  ·obtain g|h2:=kf.mp h2
   ·rw[q,g]
   ·exact absurd (ui.mpr (m',h2,by rw[<- e,q])) h'.1
  ·obtain g|h2:=kf.mp h2
   ·exact absurd (ui.mpr (m,h1,by rw[e,g])) h'.1
   ·exact z h'.2 h1 h2
theorem MS(g:iA ks)(h:m∈fA ks k):due ks k (.s m.1) m.2.length=Z m.2:=by
 unfold due;let(kd,q,_,e):=wM h;rw[e]at h ⊢;let hn:=rG q g.mn;cases c:List.find? (λm'=>decide (V.str m'.1=(T.s m.1).v)&&decide (m'.2.length=m.2.length)) kd.2 with
 |none =>
  have:=WY.mp c m h
  exact absurd (by simp[T.v]) this
 |some m' =>
  let h2:=WO c;rw[sO]at h2
  have:=V.str.inj (of_decide_eq_true h2.1)
  rw[map_inj hn (UN c) h this];rfl
theorem DE{fs:List Str}(h:fs[i]?=Z f):cP ds (fs.take (i+1))=cP ds (fs.take i)+(lk ds f).getD 0:=by
 rw[ux h];simp[cP]
theorem oo(hI:jo ks ds):∀(fs:List Str)(i:Nat),cP ds (fs.take i)<=cP ds fs
 |[],i=>by simp
 |f::fs,0=>by have:=(hI.sum (f::fs)).1;simpa [cP]using this
 |f::fs,i+1=>by
  have:=oo hI fs i
  unfold cP at *;simp only[Xs,xG,VB]
  lia
theorem FC:((ps ++ [t]).map (wt n)).sum=(ps.map (wt n)).sum+wt n t:=by simp
theorem cw(h:∀p∈ps,p.im=O):T.ims ps=true:=by
 induction ps with
 |nil=>rfl
 |cons p r g=>show(_&&_)=O;rw[h p (by simp),g λq hq=>h q (by simp[hq])];rfl
theorem Ok.im(h:Ok n t):t.im=true:=by cases n <;> exact h.1
theorem cv{x:L2.T}:∀{xs:List L2.T},T.ims xs=O->x∈xs->x.im=O
 |y::r,h,hx=>by
  let h:(y.im&&T.ims r)=true:=h;rw[sO]at h;obtain e|hx:=kf.mp hx
  ·rw[e];exact h.1
  ·exact cv h.2 hx
theorem bx(h:n<=1002000):n<mV:=Ws h (by decide)
theorem xu{xs:List α}(h:xs.getLast?=Z b):atI xs (-1)=Z b:=by
 let(ys,U):=List.getLast?_eq_some_iff.mp h;exact L2.mR ys b
theorem HJ{ns:List (Key×L2.T)}:bI (cX ns k v) k'=if k=k' then Z v else bI ns k':=by
 unfold cX;by_cases h:(ns.any λp=>decide (p.1=k))=O
 ·rw[if_pos h];unfold bI
  induction ns with
  |nil=>simp at h
  |cons p r P =>
   rw[xG,BD,BD];by_cases e:p.1=k
   ·rw[if_pos e];by_cases g:k=k'
    ·rw[decide_eq_true (e.trans g),if_pos g];rfl
    ·rw[decide_eq_false λz=>g (e.symm.trans z),if_neg g]
     by_cases h':(r.any λp=>decide (p.1=k))=O
     ·have:=P h';rw[if_neg g]at this;exact this
     ·have:(r.map λp=>if p.1=k then(p.1,v)else p)=r:=by
       rw[(List.map_id r).symm,Jg];refine Wo λz K=>?_
       show(if z.1=k then(z.1,v)else z)=z
       rw[if_neg λq=>h' (VY.mpr (z,K,decide_eq_true q))]
      rw[this]
   ·rw[if_neg e];by_cases g:p.1=k'
    ·rw[decide_eq_true g,if_neg λz=>e (g.trans z.symm)]
    ·rw[decide_eq_false g];refine P ?_;rw[VW,decide_eq_false e]at h;exact h
 ·rw[if_neg h];unfold bI;rw[XW];by_cases g:k=k'
  ·have:ns.find? (λp=>decide (p.1=k'))=none:=WY.mpr λz K q=>h (VY.mpr (z,K,decide_eq_true ((of_decide_eq_true q).trans g.symm)))
   rw[this,if_pos g,BD,decide_eq_true g];rfl
  ·rw[if_neg g,BD,decide_eq_false g,List.find?_nil,Option.or_none]
theorem CD:∀{ns:List (Key×L2.T)},(∀p∈ns,p.2.im=O)->T.imk ns=O
 |[],_=>rfl
 | (k,x)::r,h=>by
  show(x.im&&T.imk r)=O;rw[h (k,x) g5,CD λp hp=>h p (j0 _ hp)];rfl
theorem wU:∀{ns:List (Key×L2.T)},T.imk ns=O->∀p∈ns,p.2.im=O
 | (k,x)::r,h,p,hp=>by
  let h:(x.im&&T.imk r)=true:=h;rw[sO]at h;obtain e|hp:=kf.mp hp
  ·rw[e];exact h.1
  ·exact wU h.2 p hp
theorem CC{ns:List (Key×L2.T)}(h:T.imk ns=O)(hv:v.im=O):T.imk (cX ns k v)=true:=by
 refine CD λp hp=>?_
 unfold cX at hp
 split at hp
 ·let(z,g,U):=ui.mp hp
  split
  ·exact hv
  ·exact wU h z g
 ·obtain z|z:=p7.mp hp
  ·exact wU h p z
  ·rw[ej.mp z];exact hv
theorem Cv{ns:List (Key×L2.T)}:(cX ns k v).length<=ns.length+1:=by
 unfold cX
 split
 ·rw[dz];lia
 ·rw[px];exact mW _
theorem iu:∀{kts acc:List (Key×L2.T)},T.imk acc=O->(∀p∈kts,p.2.im=O)->T.imk (aP acc kts)=O
 |[],_,h,_=>h
 |p::r,acc,h,g=>iu (kts:=r) (CC h (g p g5)) λq hq=>g q (j0 _ hq)
theorem kh:∀{kts acc:List (Key×L2.T)},(aP acc kts).length<=acc.length+kts.length
 |[],_=>mW _
 |p::r,acc=>by
  let h1:(aP (cX acc p.1 p.2) r).length <=(cX acc p.1 p.2).length+r.length:=kh;let h2:=Cv (ns:=acc) (k:=p.1) (v:=p.2);show(aP (cX acc p.1 p.2) r).length<=_;rw[rl]
  lia
def fT(C x:J)(f n:Int)(p:L2.T)(ns:List (Key×L2.T)):L2.T:=.om x C ["f","number","piece","names"] [.i f,.i n,p,.d ns]
def wT(C a:J)(fns:L2.T)(frs:List L2.T)(c n:Int)(e:L2.T):L2.T:=.om a C ["functions","running","coins","done","ending"] [fns,.l frs,.i c,.i n,e]
abbrev wy(frs:List L2.T):Way:=[.inl "running",.inr frs.length]
variable{C:J}
theorem JS{frs:List L2.T}{c n:Int}:T.sub (wy frs) (wT C a fns (frs ++ [t]) c n e)=Z t:=by
 show(match(frs ++ [t])[frs.length]? with|some u=>Z u|none=>Y)=Z t
 rw[xD (mW _),Wg];rfl
theorem K7{frs:List L2.T}{c n:Int}{e t u:L2.T}:T.put u (wy frs) (wT C a fns (frs ++ [t]) c n e)=wT C a fns (frs ++ [u]) c n e:=by
 let h:(frs ++ [t])[frs.length]?=Z t:=by
  rw[xD (mW _),Wg];rfl
 let g:T.put u [.inr frs.length] (.l (frs ++ [t]))=.l (frs ++ [u]):=by
  show(match(frs ++ [t])[frs.length]? with|some x=>L2.T.l ((frs ++ [t]).set frs.length u)|none=>.l (frs ++ [t]))=_
  rw[h];simp
 show L2.T.om a C _ [fns,T.put u [.inr frs.length] (.l (frs ++ [t])),.i c,.i n,e]=_;rw[g];rfl
theorem ki{fns:L2.T}{frs:List L2.T}{c n:Int}{e t u:L2.T}{Q:L2.T->L2.T->Prop}{r:L2.T}(h:Q r (wT C a fns (frs ++ [u]) c n e)):(T.put u (wy frs) (wT C a fns (frs ++ [t]) c n e)).adr=Z a/\Q r (T.put u (wy frs) (wT C a fns (frs ++ [t]) c n e)):=by
 rw[K7];exact(U,h)
variable{CF:J}
theorem aU{a x:J}{frs:List L2.T}{c m f n:Int}{ns:List (Key×L2.T)}:T.sub (wy frs) (wT C a fns (frs ++ [fT CF x f n p ns]) c m e)=Z (.om x CF ["f","number","piece","names"] [.i f,.i n,p,.d ns]):=JS
def fD(x:Str×List Str×L2.T):L2.T:=.t [.s x.1,.t (x.2.1.map .s),x.2.2]
inductive Lst:Nat->L2.T->List L2.T->Prop
 |give{k:Nat}{y:Str}:Lst (k+1) (.t [.s "give",.s y]) [.t [.s "give",.s y]]
 |more{k:Nat}{w:Str}{ps:List L2.T}{b:L2.T}{L:List L2.T}:ps[0]?=Z (.s w)->w ≠ "give"->w ≠ "case"->ps.getLast?=Z b->T.ims ps=O->Lst k b L->Lst (k+1) (.t ps) (.t ps::L)
 |case{k:Nat}{x:Str}{arms:List (Str×List Str×L2.T)}{Ls:List (List L2.T)}:Ls.length=arms.length->(∀(i:Nat)(z:Str×List Str×L2.T)(L:List L2.T),arms[i]?=Z z->Ls[i]?=Z L->Lst k z.2.2 L)->T.ims (arms.map fD)=O->Lst (k+1) (.t [.s "case",.s x,.t (arms.map fD)]) (.t [.s "case",.s x,.t (arms.map fD)]::Ls.flatten)
theorem Lst.im(h:Lst k b L):b.im=true:=by
 cases h with
 |give=>rfl
 |more _ _ _ _ h _=>exact h
 |case _ _ h=>show(O&&(O&&(L2.T.ims _&&O)))=O;rw[h];rfl
theorem Lst.ims:∀{b:L2.T}{L:List L2.T},Lst k b L->T.ims L=true:=by
 induction k with
 |zero=>intro b L h;cases h
 |succ k q =>
  intro b L h;let z:=h.im;cases h with
  |give=>rfl
  |more _ _ _ _ _ h2 =>
    refine cw λt g=>?_
    obtain rfl|g:=kf.mp g
    ·exact z
    ·exact cv (q h2) g
  |@case _ x arms Ls hl h2 h3 =>
    refine cw λt g=>?_
    obtain rfl|g:=kf.mp g
    ·exact z
    ·let(L,K,g):=WG.mp g;let(i,hi,U):=zN K;exact cv (q (h2 i (arms[i]'(by lia)) _ (eO (by lia)) (eO hi))) g
inductive O7(C:J)(ts:List L2.T)(Q:L2.T->L2.T->Prop):Prop
 |mk(x f n p ns b k)(h1:ts=[fT C x f n p ns,b,.i k])(h2:b.im=O)(h3:Q .n (fT C x f (n+(1+k)) b ns))
inductive AJ(C:J)(ts:List L2.T)(Q:L2.T->L2.T->Prop):Prop
 |mk(x f n ps ns v y b)(h1:ts=[fT C x f n (.t ps) ns,v])(h2:v.im=O)(h3:T.imk ns=O)(h4:ns.length<1000)(h5:T.ims ps=O)(h6:ps[1]?=Z (.s y))(h7:ps.getLast?=Z b)(h8:Q .n (fT C x f (n+1) b (cX ns (.inr y) v)))
def Looks(ns:List (Key×L2.T))(ys:List Str)(vs:List L2.T):Prop:=vs.length=ys.length/\∀(i:Nat)(y:Str),ys[i]?=Z y->∃v,vs[i]?=Z v/\bI ns (.inr y)=Z v/\v.im=O
inductive AH(C:J)(ts:List L2.T)(Q:L2.T->Prop):Prop
 |mk(x f n p ns ys vs)(h1:ts=[fT C x f n p ns,.t (ys.map .s)])(h2:ys.length<=1000)(h3:Looks ns ys vs)(h4:Q (.t vs))
structure WF where
 nm:L2.T
 prs:List (Str×L2.T)
 kd:L2.T
 b:L2.T
def WF.t(g:WF):L2.T:=.t [g.nm,.t (g.prs.map λp=>.t [.s p.1,p.2]),g.kd,g.b]
def oF(gs:List WF):Prop:=L2.T.ims (gs.map WF.t)=O
def WF.names(g:WF)(vs:List L2.T):List (Key×L2.T):=aP [] ((g.prs.map λp=>(.inr p.1:Key)).zip vs)
variable{g:WF}
theorem WF.yQ(h:T.ims vs=O):T.imk (g.names vs)=true:=iu U λp hp=>cv h (QV hp).2
theorem WF.Em:(g.names vs).length<=g.prs.length:=by
 let h1:(g.names vs).length<=0+((g.prs.map λp=>(.inr p.1:Key)).zip vs).length:=kh
 rw[Ii,dz]at h1
 lia
def Arg(t2:Bool)(vs:List L2.T)(u:L2.T):Prop:=t2=O/\u=.t vs\/t2=ϊ/\(u=.zl vs\/u=.l vs)
inductive yu(C:J)(t2:Bool)(ts:List L2.T)(Q:L2.T->L2.T->Prop):Prop
 |mk(x gs f g vs u)(h1:ts=[.om x C [] [],.t (gs.map WF.t),.i (f:Nat),u])(h2:oF gs)(h3:gs[f]?=Z g)(h4:g.prs.length<=100)(h5:T.ims vs=O)(h6:Arg t2 vs u)(h7:Q .n (fT C x f 0 g.b (g.names vs)))
inductive AG(CW CF:J)(t2:Bool)(ts:List L2.T)(Q:L2.T->L2.T->Prop):Prop
 |mk(a ks gs f g vs u c)(h1:ts=[.om a CW [] [],.t [ks,.t (gs.map WF.t)],.i (f:Nat),u,.i c])(h2:oF gs)(h3:gs[f]?=Z g)(h4:g.prs.length<=100)(h5:T.ims vs=O)(h6:ks.im=O)(h7:Arg t2 vs u)(h8:∀x,Q .n (wT CW a (.t (gs.map WF.t)) [fT CF x f 0 g.b (g.names vs)] c 0 .n))
inductive D6(CW:J)(ts:List L2.T)(Q:L2.T->L2.T->Prop):Prop
 |mk(a fns frs c m e v)(h1:ts=[wT CW a fns frs c m e,v])(h2:v.im=O)(h3:Q .n (wT CW a fns [] c m v))
inductive AI(CW:J)(g:Int->Int->L2.T->L2.T)(ts:List L2.T)(Q:L2.T->Prop):Prop
 |mk(a fns frs c m e)(h1:ts=[wT CW a fns frs c m e])(h2:e.im=O)(h3:Q (g c m e))
inductive Vl where
 |mk(m:Str)(ps:List Vl)
mutual
def Vl.t:Vl->L2.T
 |.mk m ps=>.t [.s m,.t (Vl.ts ps)]
def Vl.ts:List Vl->List L2.T
 |[]=>[]
 |v::r=>v.t::Vl.ts r
end
mutual
def Vl.sz:Vl->Nat
 |.mk _ ps=>1+Vl.szs ps
def Vl.szs:List Vl->Nat
 |[]=>0
 |v::r=>v.sz+Vl.szs r
end
mutual
def Vl.dp:Vl->Nat
 |.mk _ ps=>1+Vl.dps ps
def Vl.dps:List Vl->Nat
 |[]=>0
 |v::r=>max v.dp (Vl.dps r)
end
theorem Vl.z9:∀ps:List Vl,Vl.ts ps=ps.map Vl.t
 |[]=>rfl
 |v::r=>by rw[Vl.ts,Vl.z9 r];rfl
theorem Vl.im:∀v:Vl,v.t.im=true:=by
 intro v;refine Vl.rec (motive_2:=λps=>L2.T.ims (Vl.ts ps)=O) (λm ps g=>?_) U (λv r h1 h2=>?_) v
 ·show(O&&(L2.T.ims (Vl.ts ps)&&O))=O;rw[g];rfl
 ·show(v.t.im&&L2.T.ims (Vl.ts r))=O;rw[h1,h2];rfl
theorem Vl.ims(ps:List Vl):L2.T.ims (ps.map Vl.t)=true:=cw λt g=>by
 let(v,_,U):=ui.mp g;exact v.im
theorem Vl.j8:∀(xs ys:List Vl),Vl.szs (xs++ys)=Vl.szs xs+Vl.szs ys
 |[],ys=>by rw[Vl.szs,Nat.zero_add];rfl
 |v::r,ys=>by rw[Xc,Vl.szs,Vl.szs,Vl.j8 r ys,Nat.add_assoc]
theorem Vl.vv:∀(xs:List Vl),Vl.szs xs.reverse=Vl.szs xs
 |[]=>rfl
 |v::r=>by rw[VE,Vl.j8,Vl.vv r,Vl.szs,Vl.szs,Vl.szs];lia
theorem Vl.mx:∀(xs:List Vl),xs.length<=Vl.szs xs
 |[]=>mW _
 |.mk m ps::r=>by rw[Vl.szs,Vl.sz,rl];have:=Vl.mx r;lia
theorem Vl.CN:∀(xs ys:List Vl),Vl.dps (xs++ys)=max (Vl.dps xs) (Vl.dps ys)
 |[],ys=>(Nat.zero_max _).symm
 |v::r,ys=>by rw[Xc,Vl.dps,Vl.dps,Vl.CN r ys,Nat.max_assoc]
def Vl.ps:Vl->List Vl
 |.mk _ ps=>ps
def Vl.mm:Vl->Str
 |.mk m _=>m
theorem Vl.Aa(v:Vl):v.t=.t [.s v.mm,.t (v.ps.map Vl.t)]:=by
 cases v with
 |mk m ps=>rw[Vl.t,Vl.z9];rfl
inductive O5(ts:List L2.T)(Q:L2.T->Prop):Prop
 |mk(v:Vl)(h1:ts=[v.t])(h2:v.sz<=1000)(h3:∀L:List Str,L.length=v.sz->Q (.l (L.map .s)))
inductive Up(ts:List L2.T)(Q:L2.T->Prop):Prop
 |mk(v:Vl)(h1:ts=[v.t])(h2:v.sz<=1000)(h3:Q (.i (v.sz:Nat)))
inductive Ur(ts:List L2.T)(Q:L2.T->Prop):Prop
 |mk(v:Vl)(h1:ts=[v.t])(h2:v.sz<=1000)(h3:Q (.i (v.dp:Nat)))
inductive D7(CW CF:J)(ts:List L2.T)(Q:L2.T->L2.T->Prop):Prop
 |mk(a x fns frs f n wd k b ns c m)(h1:ts=[wT CW a fns (frs ++ [fT CF x f n (.t [.s wd,.i k,b]) ns]) c m .n,.rf x,.s wd])(h2:b.im=O)(h3:(wd="pay" \/ wd="get"))(h4:((wd="pay" /\ k > c->Q .n (wT CW a fns [] c m (.t [.s "short",.i k])))/\(wd="pay" /\ ¬ k > c->Q .n (wT CW a fns (frs ++ [fT CF x f (n+1) b ns]) (c - k) m .n))/\(wd="get"->Q .n (wT CW a fns (frs ++ [fT CF x f (n+1) b ns]) (c+k) m .n))))
inductive GY(CW CF:J)(ts:List L2.T)(Q:L2.T->L2.T->Prop):Prop
 |mk(a x fns frs f n y mk ys vs b ns c m)(h1:ts=[wT CW a fns (frs ++ [fT CF x f n (.t [.s "make",.s y,.s mk,.t (ys.map .s),b]) ns]) c m .n,.rf x])(h2:b.im=O)(h3:T.imk ns=O)(h4:ns.length<1000)(h5:ys.length<=1000)(h6:Looks ns ys (vs.map Vl.t))(h7:(Vl.mk mk vs).sz<=1000)(h8:(((Vl.mk mk vs).sz > 200\/(Vl.mk mk vs).dp > 60->Q .n (wT CW a fns [] c m (.t [.s "great",.s mk])))/\(¬((Vl.mk mk vs).sz > 200\/(Vl.mk mk vs).dp > 60)->Q .n (wT CW a fns (frs ++ [fT CF x f (n+1) b (cX ns (.inr y) (Vl.mk mk vs).t)]) c m .n))))
inductive uo where
 |on(n:Int)(p:L2.T)(ns:List (Key×L2.T))(c:Int)
 |push(g:Nat)(vs:List L2.T)
 |fin(c:Int)(e:L2.T)
 |give(v:L2.T)
inductive GU(ts:List L2.T)(Q:L2.T->Prop):Prop
 |mk(gs:List WF)(nm:Str)(f:Nat)(g:WF)(h1:ts=[.t (gs.map WF.t),.s nm])(h2:oF gs)(h3:gs[f]?=Z g)(h4:g.nm=.s nm)(h5:(∀(j:Nat)(g':WF),j<f->gs[j]?=Z g'->∃s',g'.nm=.s s'/\s'≠nm))(h6:Q (.i (f:Nat)))
structure E8(arms:List (Str×List Str×L2.T))(Ls:List (List L2.T)):Prop where
 l:Ls.length=arms.length
 ok:∀(i:Nat)(z:Str×List Str×L2.T)(L:List L2.T),arms[i]?=Z z->Ls[i]?=Z L->Lst 93 z.2.2 L
 im:T.ims (arms.map fD)=O
 s:Ls.flatten.length<=90000
def ahd(Ls:List (List L2.T))(j:Nat):Nat:=((Ls.take j).map VH).sum
inductive g8(gs:List WF):Int->L2.T->List (Key×L2.T)->Int->uo->Prop
 |short{n k c:Int}{b:L2.T}{ns:List (Key×L2.T)}:b.im=O->k > c->g8 gs n (.t [.s "pay",.i k,b]) ns c (.fin c (.t [.s "short",.i k]))
 |pay{n k c:Int}{b:L2.T}{ns:List (Key×L2.T)}:b.im=O->¬ k > c->g8 gs n (.t [.s "pay",.i k,b]) ns c (.on (n+1) b ns (c - k))
 |get{n k c:Int}{b:L2.T}{ns:List (Key×L2.T)}:b.im=O->g8 gs n (.t [.s "get",.i k,b]) ns c (.on (n+1) b ns (c+k))
 |name{n:Int}{y z:Str}{v b:L2.T}{c:Int}{ns:List (Key×L2.T)}:b.im=O->bI ns (.inr z)=Z v->v.im=O->g8 gs n (.t [.s "name",.s y,.s z,b]) ns c (.on (n+1) b (cX ns (.inr y) v) c)
 |great{n:Int}{y mk:Str}{ys:List Str}{vs:List Vl}{b:L2.T}{c:Int}{ns:List (Key×L2.T)}:b.im=O->ys.length<=1000->Looks ns ys (vs.map Vl.t)->((Vl.mk mk vs).sz<=1000/\(Vl.mk mk vs).dp<=90)->(Vl.mk mk vs).sz > 200\/(Vl.mk mk vs).dp > 60->g8 gs n (.t [.s "make",.s y,.s mk,.t (ys.map .s),b]) ns c (.fin c (.t [.s "great",.s mk]))
 |make{n:Int}{y mk:Str}{ys:List Str}{vs:List Vl}{b:L2.T}{c:Int}{ns:List (Key×L2.T)}:b.im=O->ys.length<=1000->Looks ns ys (vs.map Vl.t)->((Vl.mk mk vs).sz<=1000/\(Vl.mk mk vs).dp<=90)->¬((Vl.mk mk vs).sz > 200\/(Vl.mk mk vs).dp > 60)->g8 gs n (.t [.s "make",.s y,.s mk,.t (ys.map .s),b]) ns c (.on (n+1) b (cX ns (.inr y) (Vl.mk mk vs).t) c)
 |call{n:Int}{y nm:Str}{ys:List Str}{vs:List L2.T}{b:L2.T}{c:Int}{ns:List (Key×L2.T)}{f:Nat}{g:WF}:b.im=O->ys.length<=1000->Looks ns ys vs->gs[f]?=Z g->g.nm=.s nm->(∀(j:Nat)(g':WF),j<f->gs[j]?=Z g'->∃s',g'.nm=.s s'/\s'≠nm)->g.prs.length<=100->g8 gs n (.t [.s "call",.s y,.s nm,.t (ys.map .s),b]) ns c (.push f vs)
 |give{n c:Int}{x:Str}{v:L2.T}{ns:List (Key×L2.T)}:bI ns (.inr x)=Z v->v.im=O->g8 gs n (.t [.s "give",.s x]) ns c (.give v)
 |case {n c:Int} {x mk:Str} {us:List L2.T} {ns:List (Key×L2.T)} {arms:List (Str×List Str×L2.T)} {Ls:List (List L2.T)} {j:Nat} {ys:List Str} {b:L2.T}:bI ns (.inr x)=Z (.t [.s mk,.t us])->T.ims us=O->E8 arms Ls->arms[j]?=Z (mk,ys,b)->(∀(i:Nat)(z:Str×List Str×L2.T),i<j->arms[i]?=Z z->z.1≠mk)->us.length=ys.length->ys.length<=50->g8 gs n (.t [.s "case",.s x,.t (arms.map fD)]) ns c (.on (n+(1+(ahd Ls j:Nat))) b (aP ns ((ys.map λy=>(.inr y:Key)).zip us)) c)
structure Below(CF:J)(frs:List L2.T)(dg:List L2.T)(x':J)(f' n':Int)(ps':List L2.T)(ns':List (Key×L2.T))(y:Str)(b:L2.T):Prop where
 e:frs=dg ++ [fT CF x' f' n' (.t ps') ns']
 i:T.imk ns'=O
 l:ns'.length<1000
 p:T.ims ps'=O
 y:ps'[1]?=Z (.s y)
 b:ps'.getLast?=Z b
def QQ(CF:J)(frs:List L2.T):uo->Prop
 |.give _=>frs=[]\/∃dg x' f' n' ps' ns' y b,Below CF frs dg x' f' n' ps' ns' y b
 |_=>True
def Oy(CW CF a:J)(gs:List WF)(frs:List L2.T)(x:J)(f n:Int)(p:L2.T)(ns:List (Key×L2.T))(c m:Int):uo->L2.T->Prop
 |.on n' z ns' q,t=>t=wT CW a (.t (gs.map WF.t)) (frs ++ [fT CF x f n' z ns']) q m .n
 |.push h vs,t=>∃x' g,gs[h]?=Z g/\t=wT CW a (.t (gs.map WF.t)) (frs ++ [fT CF x f n p ns] ++ [fT CF x' h 0 g.b (g.names vs)]) c m .n
 |.fin q e,t=>t=wT CW a (.t (gs.map WF.t)) [] q m e
 |.give v,t=>(frs=[]/\t=wT CW a (.t (gs.map WF.t)) [] c m (.t [.s "gave",v]))\/∃dg x' f' n' ps' ns' y b,Below CF frs dg x' f' n' ps' ns' y b/\t=wT CW a (.t (gs.map WF.t)) (dg ++ [fT CF x' f' (n'+1) b (cX ns' (.inr y) v)]) c m .n
def Ct(frs:List L2.T):uo->Bool
 |.fin _ _=>ϊ
 |.give _=>!frs.isEmpty
 |_=>O
inductive GZ(CW CF:J)(ts:List L2.T)(Q:L2.T->L2.T->Prop):Prop
 |mk(a x fns frs f n z ns v c m)(h1:ts=[wT CW a fns (frs ++ [fT CF x f n (.t [.s "give",.s z]) ns]) c m .n,.rf x])(h2:T.imk ns=O)(h3:bI ns (.inr z)=Z v)(h4:v.im=O)(h5:frs.length<10000)(h6:((frs=[]/\Q .n (wT CW a fns [] c m (.t [.s "gave",v])))\/∃dg x' f' n' ps' ns' y b,Below CF frs dg x' f' n' ps' ns' y b/\Q .n (wT CW a fns (dg ++ [fT CF x' f' (n'+1) b (cX ns' (.inr y) v)]) c m .n)))
inductive Lh(CF:J)(ts:List L2.T)(Q:L2.T->L2.T->Prop):Prop
 |mk (x f n z arms Ls mk us ns j ys b) (h1:ts=[fT CF x f n (.t [.s "case",.s z,.t (arms.map fD)]) ns]) (h2:T.imk ns=O) (h3:ns.length<900) (h4:bI ns (.inr z)=Z (.t [.s mk,.t us])) (h5:T.ims us=O) (h6:E8 arms Ls) (h7:arms[j]?=Z (mk,ys,b)) (h8:(∀(i:Nat)(z:Str×List Str×L2.T),i<j->arms[i]?=Z z->z.1≠mk)) (h9:us.length=ys.length) (h10:ys.length<=50) (h11:Q .n (fT CF x f (n+(1+(ahd Ls j:Nat))) b (aP ns ((ys.map λy=>(.inr y:Key)).zip us))))
inductive Us(CW CF:J)(ts:List L2.T)(Q:L2.T->L2.T->Prop):Prop
 |mk(a x gs frs f n p ns c m r)(h1:ts=[wT CW a (.t (gs.map WF.t)) (frs ++ [fT CF x f n p ns]) c m .n,.rf x])(h2:oF gs)(h3:T.imk ns=O)(h4:ns.length<900)(h5:frs.length<10000)(h6:g8 gs n p ns c r)(h7:QQ CF frs r)(h8:∀t,Oy CW CF a gs frs x f n p ns c m r t->Q .n t)
def v9(CW CF:J):xy:=λts Q=>(E11 λa x gs frs f n p ns c m r=>ts=[wT CW a (.t (gs.map WF.t)) (frs ++ [fT CF x f n p ns]) c m .n]/\oF gs/\T.imk ns=O/\ns.length<900/\frs.length<10000/\g8 gs n p ns c r/\QQ CF frs r/\∀t,Oy CW CF a gs frs x f n p ns c (m+1) r t->Q (.b (Ct frs r)) t) \/
 ∃a fns c m ps,ts=[wT CW a fns [] c m (.t ps)]/\T.ims ps=O/\Q (.b ϊ) (wT CW a fns [] c m (.t ps))
inductive kC:List L2.T->List L2.T->Prop
 |nil:kC [] []
 |cons{b:L2.T}{bs L M:List L2.T}:Lst 93 b L->kC bs M->kC (b::bs) (L++M)
theorem Lst.up:∀{b:L2.T}{L:List L2.T},Lst k b L->Lst (k+1) b L:=by
 induction k with
 |zero=>intro b L h;cases h
 |succ k g =>
  intro b L h;cases h with
  |give=>exact .give
  |more h0 h1 h2 h3 h4 h5=>exact .more h0 h1 h2 h3 h4 (g h5)
  |case hl h2 h3=>exact .case hl (λi z L K q=>g (h2 i z L K q)) h3
inductive Bn:L2.T->List L2.T->Prop
 |give{y:Str}:Bn (.t [.s "give",.s y]) []
 |more{w:Str}{ps:List L2.T}{b:L2.T}:ps[0]?=Z (.s w)->w ≠ "give"->w ≠ "case"->ps.getLast?=Z b->T.ims ps=O->Bn (.t ps) [b]
 |case{x:Str}{arms:List (Str×List Str×L2.T)}:T.ims (arms.map fD)=O->arms.length<=90000->Bn (.t [.s "case",.s x,.t (arms.map fD)]) (arms.map (·.2.2))
theorem kC.app:∀{as bs L M:List L2.T},kC as L->kC bs M->kC (as++bs) (L++M)
 |_,_,_,_,.nil,h=>h
 |_,_,_,_,.cons h1 h2,h=>by rw[Nj];exact .cons h1 (h2.app h)
theorem kC.of{Ls:List (List L2.T)}:∀{bs:List L2.T},Ls.length=bs.length->(∀(i:Nat)(b:L2.T)(L:List L2.T),bs[i]?=Z b->Ls[i]?=Z L->Lst 93 b L)->kC bs Ls.flatten:=by
 induction Ls with
 |nil=>intro bs h _;cases bs with
  |nil=>exact .nil
  |cons b r=>cases h
 |cons L r g =>
  intro bs h h2;cases bs with
  |nil=>cases h
  |cons b bs=>exact .cons (h2 0 b L U U) (g (by simpa using h) λi K P z q=>h2 (i+1) K P z q)
theorem Lst.pos(h:Lst k b L):1<=L.length:=by cases h <;> simp
theorem kC.len:∀{bs M:List L2.T},kC bs M->bs.length<=M.length
 |_,_,.nil=>mW _
 |_,_,.cons h1 h2=>by rw[rl,px];have:=h1.pos;have:=h2.len;lia
theorem HW{x:L2.T}:ixN (xs ++ [x]).length (-1)=Z xs.length:=by
 rw[px];show(if -((xs.length+1):Int) <= -1 then Z (-1+((xs.length+1):Int)).toNat else Y)=Z xs.length
 rw[if_pos (by lia)]
 congr 1
 lia
theorem Ip{x:L2.T}:(xs ++ [x])[xs.length]?=Z x:=by rw[xD (mW _),Wg];rfl
theorem Mn{l:List Nat}{x:Nat}(h:x∈l):x<=l.sum:=by
 induction l with
 |nil=>cases h
 |cons y r g =>
  rw[VB];obtain z|z:=kf.mp h
  ·lia
  ·lia
theorem Iw{Ls:List (List L2.T)}(h:∀L∈Ls,1<=L.length):Ls.length<=Ls.flatten.length:=by
 induction Ls with
 |nil=>exact mW _
 |cons L r g =>
  let h1:=h L g5;let h2:=g λM q=>h M (j0 _ q)
  rw[Wz,px,rl]
  lia
theorem Lst.kids(h:Lst 93 b L)(hl:L.length<=90000):∃bs M,Bn b bs/\L=b::M/\kC bs M:=by
 cases h with
 |give=>exact([],[],.give,U,.nil)
 |@more _ _ _ P q h0 h1 h2 h3 h4 h5=>exact([P],q,.more h0 h1 h2 h3 h4,U,by have:=kC.cons h5.up .nil;rwa [sQ]at this)
 |@case _ x arms Ls g h2 h3 =>
  let hf:=Iw λL V=>by
   let(i,hi,U):=zN V;exact(h2 i (arms[i]'(by lia)) _ (eO (by lia)) (eO hi)).pos
  rw[rl]at hl;refine(_,Ls.flatten,.case h3 (by lia),U,.of (by rw[dz];exact g) λi P q K e2=>?_)
  rw[j5]at K;let(z,Q,U):=j7.mp K;exact(h2 i z q Q e2).up
def spT(C:J)(p a r:L2.T):L2.T:=.ob C ["piece","above","arm"] [p,a,r]
def SpL(C:J)(Ya bs:List L2.T):Prop:=Ya.length=bs.length/\∀(i:Nat)(b:L2.T),bs[i]?=Z b->∃a r,Ya[i]?=Z (spT C b a r)
theorem SpL.nil:SpL C [] []:=(U,λi b h=>by simp at h)
theorem SpL.app(h:SpL C X as)(h2:SpL C Ya bs):SpL C (X++Ya) (as++bs):=by
 refine(by rw[px,px,h.1,h2.1],λi b e=>?_)
 by_cases hi:i<as.length
 ·rw[wh hi]at e;rw[wh (by rw[h.1];exact hi)]
  exact h.2 i b e
 ·rw[xD (by lia)]at e
  rw[xD (by rw[h.1];lia),h.1]
  exact h2.2 _ b e
theorem SpL.one{b a r:L2.T}:SpL C [spT C b a r] [b]:=(U,λi g h=>by
 cases i with
 |zero=>cases h;exact(a,r,U)
 |succ i=>simp at h)
theorem SpL.rev:∀{bs Ya:List L2.T},SpL C Ya bs->SpL C Ya.reverse bs.reverse
 |[],Ya,h=>by have:=Wb h.1;subst this;exact .nil
 |b::r,Ya,h=>by
  cases Ya with
  |nil=>cases h.1
  |cons y Ya =>
   let(a,q,e):=h.2 0 b U;cases e;rw[VE,VE];exact(SpL.rev (by simpa using h.1,λi g e=>h.2 (i+1) g e)).app .one
theorem SpL.ims(h:SpL C Ya bs):T.ims Ya=true:=cw λt g=>by
 let(i,hi,U):=zN g;let(a,r,e):=h.2 i (bs[i]'(by rw[<- h.1];exact hi)) (eO _)
 rw[eO hi]at e;rw[Option.some.inj e];rfl
theorem uP:∀(ys:List Str)(us:List L2.T),fe (lH (ys.map .s) us)=Z ((ys.map λy=>(.inr y:Key)).zip us)
 |[],_=>rfl
 |_::_,[]=>rfl
 |y::ys,u::us=>by
  let g:=uP ys us;show(match(L2.T.s y).key,fe (lH (ys.map .s) us)with|some k,Z r=>Z ((Prod.mk k u)::r)|_,_=>Y)=_
  rw[g];rfl
variable{ys:List Str}
theorem JD(h:T.ims us=O):T.ims (lH (ys.map .s) us)=true:=cw λt g=>by
 let(p,hp,U):=ui.mp g;let(h1,h2):=QV hp;let(s,_,e):=ui.mp h1;show(p.1.im&&(p.2.im&&O))=O;rw[<- e,cv h h2];rfl
theorem zB(h:Ls[i]?=Z L):ahd Ls (i+1)=ahd Ls i+L.length:=by
 unfold ahd;rw[u3,h,zJ];simp
theorem E8.at{arms:List (Str×List Str×L2.T)}(h:E8 arms Ls){i:Nat}(e:arms[i]?=Z z):∃L,Ls[i]?=Z L/\Lst 93 z.2.2 L/\L.length<=90000/\z.2.2.im=true:=by
 let hi:=(j3.mp e).1;let h1:=h.l;let g:Ls[i]?=Z (Ls[i]'(by lia)):=eO _
 let h3:=h.ok i z _ e g;refine(_,g,h3,?_,h3.im)
 have:=h.s
 let h5:(Ls[i]'(by lia)).length<=Ls.flatten.length:=by
  rw[List.length_flatten];exact Mn (VR (V9 _))
 lia
inductive D8(C:J)(ts:List L2.T)(Q:L2.T->Prop):Prop
 |mk(b:L2.T)(bs:List L2.T)(n:Int)(h1:ts=[b,.i n])(h2:Bn b bs)(h3:∀Ya,SpL C Ya bs->Q (.l Ya))
inductive Le(C:J)(ts:List L2.T)(Q:L2.T->Prop):Prop
 |mk(b:L2.T)(L:List L2.T)(h1:ts=[b])(h2:Lst 93 b L)(h3:L.length<=90000)(h4:∀Ya,SpL C Ya L->Q (.l Ya))
inductive GS(ts:List L2.T)(Q:L2.T->Prop):Prop
 |mk(b:L2.T)(L:List L2.T)(h1:ts=[b])(h2:Lst 93 b L)(h3:L.length<=90000)(h4:Q (.l L))
theorem Looks.ims{ns:List (Key×L2.T)}(h:Looks ns ys vs):L2.T.ims vs=true:=cw λt g=>by
 let(hl,hv):=h;let(i,hi,U):=zN g;let(v,h1,h2,h3):=hv i (ys[i]'(by lia)) (eO (by lia))
 rw[eO hi]at h1;cases h1;exact h3
inductive GV(k:Nat)(ts:List L2.T)(Q:L2.T->Prop):Prop
 |mk(b:L2.T)(L:List L2.T)(h1:ts=[b])(h2:Lst k b L)(h3:L.length<=100000)(h4:Q (.l L))
inductive Lf(k:Nat)(ts:List L2.T)(Q:L2.T->Prop):Prop
 |mk(v:Vl)(h1:ts=[v.t])(h2:v.dp<=k)(h3:v.sz<=1000)(h4:Q (.t [.i (v.sz:Nat),.i (v.dp:Nat)]))
theorem Vl.Bm:∀{ps:List Vl}{u:Vl},u∈ps->u.dp<=Vl.dps ps
 |v::r,u,h=>by
  rw[Vl.dps];obtain rfl|h:=kf.mp h
  ·lia
  ·have:=Vl.Bm h;lia
theorem Vl.Ac:∀{ps:List Vl}{u:Vl},u∈ps->u.sz<=Vl.szs ps
 |v::r,u,h=>by
  rw[Vl.szs];obtain rfl|h:=kf.mp h
  ·lia
  ·have:=Vl.Ac h;lia
theorem Vl.BP:∀ps:List Vl,((ps.map λu=>((u.sz:Nat):Int)).sum)=(Vl.szs ps:Nat)
 |[]=>rfl
 |v::r=>by rw[xG,VB,Vl.BP r,Vl.szs];lia
theorem Vl.MT:∀ps:List Vl,yX (ps.map λu=>((u.dp:Nat):Int)) 0=(Vl.dps ps:Nat):=by
 intro ps;let key:∀r x,(r.map λu=>((u.dp):Int)).foldl max (x:Int)=(max x (Vl.dps r)):=by
  intro r
  induction r with
  |nil=>intro x;rw[Vl.dps,Nat.max_zero];rfl
  |cons v r g=>intro x;rw[xG,List.foldl_cons,Vl.dps,show max (x:Int) ((v.dp))=((max x v.dp))by lia,g,Nat.max_assoc]
 cases ps with
 |nil=>rfl
 |cons v r=>show(r.map _).foldl max ((v.dp):Int)=_;rw[key,Vl.dps]
theorem gb(h:∀t∈ts,t.pln=O):L2.T.dv ts=true:=by
 induction ts with
 |nil=>rfl
 |cons t r g=>show(t.pln&&L2.T.dv r)=O;rw[h t g5,g λt q=>h t (j0 _ q)];rfl
theorem f9{x:L2.T}:∀{xs:List L2.T},T.dv xs=O->x∈xs->x.pln=O
 |y::r,h,hx=>by
  let h:(y.pln&&T.dv r)=true:=h;rw[sO]at h;obtain e|hx:=kf.mp hx
  ·rw[e];exact h.1
  ·exact f9 h.2 hx
theorem yy:∀{ns:List (Key×L2.T)},(∀p∈ns,p.2.pln=O)->T.gc ns=O
 |[],_=>rfl
 | (k,x)::r,h=>by
  show(x.pln&&T.gc r)=O;rw[h (k,x) g5,yy λp hp=>h p (j0 _ hp)];rfl
theorem l7:∀{ns:List (Key×L2.T)},T.gc ns=O->∀p∈ns,p.2.pln=O
 | (k,x)::r,h,p,hp=>by
  let h:(x.pln&&T.gc r)=true:=h;rw[sO]at h;obtain e|hp:=kf.mp hp
  ·rw[e];exact h.1
  ·exact l7 h.2 p hp
theorem yw{ns:List (Key×L2.T)}(h:T.gc ns=O)(hv:v.pln=O):T.gc (cX ns k v)=true:=by
 refine yy λp hp=>?_
 unfold cX at hp
 split at hp
 ·let(z,g,U):=ui.mp hp
  split
  ·exact hv
  ·exact l7 h z g
 ·obtain z|z:=p7.mp hp
  ·exact l7 h p z
  ·rw[ej.mp z];exact hv
theorem iN:∀{kts acc:List (Key×L2.T)},T.gc acc=O->(∀p∈kts,p.2.pln=O)->T.gc (aP acc kts)=O
 |[],_,h,_=>h
 |p::r,acc,h,g=>iN (kts:=r) (yw h (g p g5)) λq hq=>g q (j0 _ hq)
theorem WF.nL(h:T.dv vs=O):T.gc (g.names vs)=true:=iN U λp hp=>f9 h (QV hp).2
theorem Vl.pln:∀v:Vl,v.t.pln=true:=by
 intro v;refine Vl.rec (motive_2:=λps=>L2.T.dv (Vl.ts ps)=O) (λm ps g=>?_) U (λv r h1 h2=>?_) v
 ·show(O&&(L2.T.dv (Vl.ts ps)&&O))=O;rw[g];rfl
 ·show(v.t.pln&&L2.T.dv (Vl.ts r))=O;rw[h1,h2];rfl
def stT(stk:List L2.T)(c m:Int)(e:L2.T):List (Key×L2.T):=[(.inr "stack",.zl stk),(.inr "coins",.i c),(.inr "steps",.i m),(.inr "end",e)]
def frL(f n:Int)(o:Obj)(vs:List (Key×V))(ns:List (Key×L2.T)):L2.T:=.t [.i f,.i n,.fd o vs ns]
inductive Lk(t2:Bool)(ts:List L2.T)(Q:L2.T->Prop):Prop
 |mk(ks:L2.T)(gs:List WF)(f:Nat)(g:WF)(vs:List L2.T)(u:L2.T)(c:Int)(h1:ts=[.t [ks,.t (gs.map WF.t)],.i (f:Nat),u,.i c])(h2:oF gs)(h3:gs[f]?=Z g)(h4:g.prs.length<=100)(h5:T.ims vs=O)(h6:T.dv vs=O)(h7:(t2=O/\u=.t vs\/t2=ϊ/\(u=.zl vs\/u=.l vs)))(h8:∀o ws,Q (.d (stT [frL f 0 o ws (g.names vs)] c 0 .n)))
inductive Uq(t2:Bool)(ts:List L2.T)(Q:L2.T->Prop):Prop
 |mk (a:J) (stk:List L2.T) (f n n':Int) (o:Obj) (vs:List (Key×V)) (ns:List (Key×L2.T)) (c m:Int) (ys:List Str) (us:List L2.T) (u1 u2:L2.T) (h1:ts=[.dp a (stT (stk ++ [frL f n o vs ns]) c m .n),.i n',u1,u2]) (h2:T.imk ns=O) (h3:T.gc ns=O) (h4:ns.length+ys.length<1000) (h5:us.length=ys.length) (h6:T.ims us=O) (h7:T.dv us=O) (h8:stk.length<10000) (h9:T.dv stk=O) (h10:T.ims stk=O) (h11:u1=(if t2=O then .t (ys.map .s)else .zl (ys.map .s))) (h12:u2=(if t2=O then .t us else .zl us)) (h13:∀o' vs',Q (.dp a (stT (stk ++ [frL f n' o' vs' (aP ns ((ys.map λy=>(.inr y:Key)).zip us))]) c m .n)))
inductive GX(ts:List L2.T)(Q:L2.T->Prop):Prop
 |mk(a:J)(stk:List L2.T)(c m:Int)(e e':L2.T)(h1:ts=[.dp a (stT stk c m e),e'])(h2:e.im=O)(h3:e'.im=O)(h4:Q (.dp a (stT [] c m e')))
theorem jT{xs:List α}{x:α}:eU (xs ++ [x]) Y (Z (-1))=xs:=by
 let h1:HT.sIx (xs ++ [x]).length 0 Y=0:=rfl;let h2:HT.sIx (xs ++ [x]).length (xs ++ [x]).length (Z (-1))=xs.length:=by
  rw[px];show(-1+((xs.length+1):Int)).toNat=xs.length
  lia
 unfold eU;rw[h1,h2];simp
def PlG(ns:List (Key×L2.T)):Prop:=T.imk ns=O/\T.gc ns=O/\ns.length<900
def Ng(gs:List WF):Prop:=∀g∈gs,∃s,g.nm=.s s
structure GvL(gs:List WF)(stk lL:List L2.T)(f' n':Nat)(o':Obj)(vs':List (Key×V))(ns':List (Key×L2.T))(y:Str):Prop where
 e:stk=lL ++ [frL f' n' o' vs' ns']
 g:∃g L ps,gs[f']?=Z g/\Lst 93 g.b L/\L.length<=100000/\L[n']?=Z (.t ps)/\ps[1]?=Z (.s y)
 n:PlG ns'
def GvS(gs:List WF)(stk:List L2.T):uo->Prop
 |.give _=>stk=[]\/∃lL f' n' o' vs' ns' y,GvL gs stk lL f' n' o' vs' ns' y
 |_=>True
def Rx(a:J)(gs:List WF)(stk:List L2.T)(f n:Int)(o:Obj)(vs:List (Key×V))(ns:List (Key×L2.T))(c m:Int):uo->L2.T->Prop
 |.on n' _ ns' q,t=>∃o' vs',t=.dp a (stT (stk ++ [frL f n' o' vs' ns']) q m .n)
 |.push h us,t=>∃o' vs' g,gs[h]?=Z g/\t=.dp a (stT (stk ++ [frL f n o vs ns] ++ [frL h 0 o' vs' (g.names us)]) c m .n)
 |.fin q e,t=>t=.dp a (stT [] q m e)
 |.give v,t=>(stk=[]/\t=.dp a (stT [] c m (.t [.s "gave",v])))\/∃lL f' n' o' vs' ns' y o2 vs2,GvL gs stk lL f' n' o' vs' ns' y/\t=.dp a (stT (lL ++ [frL (f':Nat) ((n':Nat)+1:Int) o2 vs2 (cX ns' (.inr y) v)]) c m .n)
inductive Li(ts:List L2.T)(Q:L2.T->Prop):Prop
 |mk(a:J)(ks:L2.T)(gs:List WF)(stk:List L2.T)(fr:L2.T)(c m:Int)(v:L2.T)(h1:ts=[.t [ks,.t (gs.map WF.t)],.dp a (stT (stk ++ [fr]) c m .n),v])(h2:v.im=O)(h3:v.pln=O)(h4:fr.im=O)(h5:stk.length<9000)(h6:T.dv stk=O)(h7:T.ims stk=O)(h8:((stk=[]/\Q (.dp a (stT [] c m (.t [.s "gave",v]))))\/∃lL f' n' o' vs' ns' y,GvL gs stk lL f' n' o' vs' ns' y/\∀o2 vs2,Q (.dp a (stT (lL ++ [frL (f':Nat) ((n':Nat)+1:Int) o2 vs2 (cX ns' (.inr y) v)]) c m .n))))
inductive AL(ts:List L2.T)(Q:L2.T->Prop):Prop
 |mk (a:J) (stk:List L2.T) (f n0:Int) (n:Int) (o:Obj) (vs:List (Key×V)) (ns:List (Key×L2.T)) (c m:Int) (z mk:Str) (us:List L2.T) (arms:List (Str×List Str×L2.T)) (Ls:List (List L2.T)) (j:Nat) (ys:List Str) (b:L2.T) (h1:ts=[.dp a (stT (stk ++ [frL f n0 o vs ns]) c m .n),.i n,.t [.s "case",.s z,.t (arms.map fD)],.t [.s mk,.t us]]) (h2:PlG ns) (h3:T.ims us=O) (h4:T.dv us=O) (h5:stk.length<9000) (h6:T.dv stk=O) (h7:T.ims stk=O) (h8:E8 arms Ls) (h9:arms[j]?=Z (mk,ys,b)) (h10:(∀(i:Nat)(z:Str×List Str×L2.T),i<j->arms[i]?=Z z->z.1≠mk)) (h11:us.length=ys.length) (h12:ys.length<=50) (h13:∀o' vs',Q (.dp a (stT (stk ++ [frL f (n+(1+(ahd Ls j:Nat))) o' vs' (aP ns ((ys.map λy=>(.inr y:Key)).zip us))]) c m .n)))
inductive wa(ts:List L2.T)(Q:L2.T->Prop):Prop
 |mk(a:J)(ks:L2.T)(gs:List WF)(stk:List L2.T)(f n:Nat)(o:Obj)(vs:List (Key×V))(ns:List (Key×L2.T))(c m:Int)(g:WF)(L:List L2.T)(p:L2.T)(r:uo)(h1:ts=[.t [ks,.t (gs.map WF.t)],.dp a (stT (stk ++ [frL f n o vs ns]) c m .n)])(h2:ks.im=O)(h3:oF gs)(h4:Ng gs)(h5:gs.length<=100)(h6:gs[f]?=Z g)(h7:Lst 93 g.b L)(h8:L.length<=100000)(h9:L[n]?=Z p)(h10:PlG ns)(h11:stk.length<9000)(h12:T.dv stk=O)(h13:T.ims stk=O)(h14:g8 gs n p ns c r)(h15:GvS gs stk r)(h16:∀t,Rx a gs stk f n o vs ns c (m+1) r t->Q t)
theorem Ep{ns:List (Key×L2.T)}(h:bI ns k=Z v):∃p∈ns,p.2=v:=by
 let(p,hp,e):=j7.mp h;exact(p,UN hp,e)
theorem PlG.pln{ns:List (Key×L2.T)}(h:PlG ns)(e:bI ns k=Z v):v.pln=true:=by
 let(p,hp,U):=Ep e;exact l7 h.2.1 p hp
theorem PlG.dv{ns:List (Key×L2.T)}(h:PlG ns)(e:Looks ns ys vs):T.dv vs=true:=gb λt g=>by
 let(hl,hv):=e;let(i,hi,U):=zN g;let(v,h1,h2,h3):=hv i (ys[i]'(by omega)) (eO (by omega))
 rw[eO hi]at h1;cases h1;exact h.pln h2
variable{gs:List WF}
theorem P4(hn:Ng gs)(hg:gs[h]?=Z g)(e:g.nm=.s nm)(K:∀(j:Nat)(g':WF),j<h->gs[j]?=Z g'->∃s',g'.nm=.s s'/\s'≠nm):(gs.map (·.nm)).findIdx? (λz=>eqV z.v (L2.T.s nm).v)=Z h:=by
 let(hi,Q):=j3.mp hg;rw[Ww];refine(by rw[dz];exact hi,?_,λj P=>?_)
 ·rw[X5,Q,e];exact decide_eq_true U
 ·let(s',V,q):=K j (gs[j]'(by lia)) P (eO (by lia))
  rw[X5,V];exact λz=>q (of_decide_eq_true (z))
theorem Qi(hn:Ng gs):fls (gs.map (·.nm))=true:=Fq.mpr λx hx=>by
 let(g,hg,U):=ui.mp hx;let(s,e):=hn g hg;rw[e];rfl
inductive Bz(ks:List Kd):Str->Vl->Prop
 |mk{kd:Kd}{m:Mk1}{ps:List Vl}:kd∈ks->m∈kd.2->ps.length=m.2.length->(∀(i:Nat)(v:Vl)(f:Str),ps[i]?=Z v->m.2[i]?=Z f->Bz ks f v)->Bz ks kd.1 (.mk m.1 ps)
theorem CA(q:∀k t,isN ks n k t=O->∃v:Vl,v.t=t/\Bz ks k v/\v.sz=wt n t):∀(fs:List Str)(ps:List L2.T),fs.length=ps.length->((fs.zip ps).all λp=>isN ks n p.1 p.2)=O->∃vs:List Vl,vs.map Vl.t=ps/\vs.length=fs.length/\(∀(i:Nat)(v:Vl)(f:Str),vs[i]?=Z v->fs[i]?=Z f->Bz ks f v)/\Vl.szs vs=(ps.map (wt n)).sum
 |[],[],_,_=>([],U,U,λi v f h=>by simp at h,U)
 |f::fs,p::ps,hl,h=>by
  rw[WX,W7,sO]at h;let(v,e,hv,hs):=q f p h.1;let(vs,Q,P,K,z):=CA q fs ps (by simpa using hl) h.2
  refine(v::vs,by rw[xG,e,Q],by simp[P],λi u g h1 h2=>?_,by rw[Vl.szs,xG,VB,hs,z])
  cases i with
  |zero=>cases h1;cases h2;exact hv
  |succ i=>exact K i u g h1 h2
 |[],_::_,hl,_=>by cases hl
 |_::_,[],hl,_=>by cases hl
theorem Rg{x:L2.T}(h:x.v=.str s):x=.s s:=by
 cases x <;> first|(cases h;rfl)|cases h
theorem PY:∀(n:Nat)(k:Str)(t:L2.T),isN ks n k t=O->∃v:Vl,v.t=t/\Bz ks k v/\v.sz=wt n t:=by
 intro n
 induction n with
 |zero=>intro k t h;cases h
 |succ n q =>
  intro k t h;obtain⟨x,ps,rfl⟩:∃x ps,t=.t [x,.t ps]:=by
   cases t with
   |t l=>cases l with
    |nil=>cases h
    |cons x l=>cases l with
     |nil=>cases h
     |cons y l=>cases y with
      |t ps=>cases l with
       |nil=>exact(x,ps,U)
       |cons=>cases h
      |_=>cases h
   |_=>cases h
  replace h:(match due ks k x ps.length with|some fs=>(fs.zip ps).all λp=>isN ks n p.1 p.2|none=>ϊ)=true:=h
  ·split at h
   ·rename_i fs hd;let(m,hm,U):=j7.mp hd;let h2:=WO hm;rw[sO]at h2;let ex:=Rg (of_decide_eq_true h2.1).symm;let K:=of_decide_eq_true h2.2;subst ex;let(kd,z,U,e):=wM (UN hm);let g:=UN hm;rw[e]at g;let(vs,e1,V,Q,P):=CA q m.2 ps K h;refine(.mk m.1 vs,by rw[Vl.t,Vl.z9,e1],.mk z g V Q,by rw[Vl.sz,P];rfl)
   ·cases h
theorem Vl.Ts:∀v:Vl,v.dp<=v.sz:=by
 intro v;refine Vl.rec (motive_2:=λps=>Vl.dps ps<=Vl.szs ps) (λm ps g=>by rw[Vl.dp,Vl.sz];lia) (mW _) (λv r h1 h2=>by rw[Vl.dps,Vl.szs];lia) v
theorem Vl.dep:∀v:Vl,Dep (2*v.dp) v.t:=by
 intro v;refine Vl.rec (motive_2:=λps=>∀t∈Vl.ts ps,Dep (2*Vl.dps ps) t) (λm ps q=>?_) (λt h=>by cases h) (λv r h1 h2 t g=>?_) v
 ·rw[Vl.dp,show 2*(1+Vl.dps ps)=2*Vl.dps ps+1+1 by lia]
  exact Dep.t (bf Dep.s (bf (Dep.t q) bM))
 ·rw[Vl.dps];obtain rfl|g:=kf.mp g
  ·exact h1.mono (by lia)
  ·exact(h2 t g).mono (by lia)
def GdV(ks:List Kd)(k:Str)(t:L2.T):Prop:=∃v:Vl,v.t=t/\Bz ks k v/\v.sz<=200/\v.dp<=60
def Env(ks:List Kd)(sc:Sc)(ns:List (Key×L2.T)):Prop:=∀p∈sc,∃t,bI ns (.inr p.1)=Z t/\GdV ks p.2 t
theorem GdV.im(h:GdV ks k t):t.im=true:=by let(v,U,_):=h;exact v.im
theorem GdV.pln(h:GdV ks k t):t.pln=true:=by let(v,U,_):=h;exact v.pln
theorem Env.put{ns:List (Key×L2.T)}(h:Env ks sc ns)(hx:x ∉ sc.map (·.1))(g:GdV ks k t):Env ks (sc ++ [(x,k)]) (cX ns (.inr x) t):=λp hp=>by
 rw[HJ];obtain z|z:=p7.mp hp
 ·rw[if_neg λe=>hx (by rw[Sum.inr.inj e];exact VR z)]
  exact h p z
 ·rw[ej.mp z,if_pos rfl];exact(t,U,g)
theorem Env.zip{sc:Sc}:∀{ys fs:List Str}{us:List L2.T}{ns:List (Key×L2.T)},Env ks sc ns->ys.length=fs.length->us.length=ys.length->(sc.map (·.1)++ys).Nodup->(∀(i:Nat)(u:L2.T)(f:Str),us[i]?=Z u->fs[i]?=Z f->GdV ks f u)->Env ks (sc++ys.zip fs) (aP ns ((ys.map λy=>(.inr y:Key)).zip us))
 |[],_,_,ns,h,_,_,_,_=>by rw[List.zip_nil_left,sQ];exact h
 |y::ys,[],_,_,_,h1,_,_,_=>by cases h1
 |y::ys,f::fs,[],_,_,_,h2,_,_=>by cases h2
 |y::ys,f::fs,u::us,ns,h,h1,h2,hn,hg=>by
  let q:=λz=>(Dc.mp hn).2.2 y z y g5 U
  let g:=Env.zip (h.put q (hg 0 u f U U)) (by simpa using h1) (by simpa using h2) (by rw[zJ,Nj];exact hn) λi u' f' P K=>hg (i+1) u' f' P K
  rw[Nj]at g;exact g
theorem Env.fill{ns:List (Key×L2.T)}(h:Env ks sc ns)(hf:Fills sc ys fs):∃vs:List Vl,Looks ns ys (vs.map Vl.t)/\vs.length=fs.length/\(∀(i:Nat)(v:Vl)(f:Str),vs[i]?=Z v->fs[i]?=Z f->Bz ks f v)/\∀v∈vs,v.sz<=200/\v.dp<=60:=by
 let(hl,K):=hf
 induction ys generalizing fs with
 |nil =>
  cases fs with
  |nil=>exact([],(U,λi y e=>by simp at e),U,λi v f e=>by simp at e,bY)
  |cons _ _=>cases hl
 |cons y ys Q =>
  cases fs with
  |nil=>cases hl
  |cons f fs =>
   let(vs,(l1,l2),e2,e3,e4):=Q (by simpa using hl) λp hp=>K p (j0 _ hp)
   let(t,V,v,U,hv,hs,hd):=h (y,f) (K (y,f) g5);refine(v::vs,(by simpa using l1,λi P e=>?_),by simp[e2],λi u g h1 h2=>?_,λu q=>?_)
   ·cases i with
    |zero=>cases e;exact(v.t,U,V,v.im)
    |succ i=>exact l2 i P e
   ·cases i with
    |zero=>cases h1;cases h2;exact hv
    |succ i=>exact e3 i u g h1 h2
   ·obtain rfl|q:=kf.mp q
    ·exact(hs,hd)
    ·exact e4 u q
def toW(f:Fn):WF:=(.s f.1.1,f.1.2.1.map λp=>(Prod.mk p.1 (.s p.2)),.s f.1.2.2,f.2.1)
theorem Rj(f:Fn):(toW f).t=tF f:=by
 show L2.T.t [.s f.1.1,.t ((f.1.2.1.map λp=>(Prod.mk p.1 (L2.T.s p.2))).map λp=>.t [.s p.1,p.2]),.s f.1.2.2,f.2.1]=_
 rw[Jg];rfl
def ez(fs:List Fn):List WF:=fs.map toW
theorem Tf(fs:List Fn):(ez fs).map WF.t=fs.map tF:=by
 unfold ez;rw[Jg];exact Wo λf _=>Rj f
theorem mz{f:Nat}(h:fs[f]?=Z fn):(ez fs)[f]?=Z (toW fn):=by unfold ez;rw[j5,h];rfl
theorem Prog.fns(h:Prog ks fs):oF (ez fs):=by
 show L2.T.ims ((ez fs).map WF.t)=O;rw[Tf];refine cw λt g=>?_
 let(f,hf,U):=ui.mp g;show(O&&(L2.T.ims (f.1.2.1.map tP)&&(O&&(f.2.1.im&&O))))=O;rw[bC jL,(h.sn f hf).1.im];rfl
theorem Ti(fs:List Fn):Ng (ez fs):=λg hg=>by
 let(f,_,U):=ui.mp hg;exact(_,U)
theorem Lst.mono(h:Lst k b L)(q:k<=k'):Lst k' b L:=by
 induction q with
 |refl=>exact h
 |step _ g=>exact g.up
theorem la(h:Dep n (.t ts)):∃m,n=m+1/\∀x∈ts,Dep m x:=by
 cases n with
 |zero=>obtain⟨_,z⟩|⟨_,z⟩:=h <;> cases z
 |succ m =>
  obtain⟨_,z⟩|⟨_,z⟩|⟨us,z,h⟩:=h
  ·cases z
  ·cases z
  ·cases z;exact(m,U,h)
def M0(a:Arm):Str×List Str×L2.T:=(a.1,a.2.1,a.2.2.1)
theorem xw(arms:List Arm):(arms.map M0).map fD=arms.map tA:=by rw[Jg];rfl
theorem HZ(h:Snd ks hs r n sc (.t [.s "case",.s x,.t (arms.map tA)])):L2.T.ims ((arms.map M0).map fD)=true:=by
 rw[xw];let h:(O&&(O&&(L2.T.ims (arms.map tA)&&O)))=true:=h.im;simpa using h
theorem yY{α β:Type}{P:α->β->Prop}:∀{xs:List α},(∀x∈xs,∃y,P x y)->∃ys:List β,ys.length=xs.length/\∀(i:Nat)(x:α)(y:β),xs[i]?=Z x->ys[i]?=Z y->P x y
 |[],_=>([],U,λi x y h=>by simp at h)
 |x::xs,h=>by
  let(y,Q):=h x g5;let(ys,h1,h2):=yY λz K=>h z (j0 _ K)
  refine(y::ys,by simp[h1],λi a b q g=>?_)
  cases i with
  |zero=>cases q;cases g;exact Q
  |succ i=>exact h2 i a b q g
theorem MP:∀{Ls:List (List L2.T)},Ls.length=arms.length->(∀(i:Nat)(a:Arm)(L:List L2.T),arms[i]?=Z a->Ls[i]?=Z L->L.length<=a.2.2.2)->Ls.flatten.length <=(arms.map (·.2.2.2)).sum:=by
 induction arms with
 |nil=>intro Ls h _;have:=Wb h;subst this;exact mW _
 |cons a r g =>
  intro Ls h h2;cases Ls with
  |nil=>cases h
  |cons L Ls =>
   let h3:=h2 0 a L U U;let h4:=g (by simpa using h) λi K P z q=>h2 (i+1) K P z q
   rw[Wz,px,xG,VB]
   lia
theorem Snd.lst{m:Nat}(h:Snd ks hs r m sc b):∀D,Dep D b->∃L,Lst (D+1) b L/\L.length<=m/\∀p∈L,∃m' K,Snd ks hs r m' K p:=by
 induction h with
 |give hx=>exact λD _=>(_,.give,mW _,λp hp=>by rw[ej.mp hp];exact(_,_,.give hx))
 |@su n sc w c b hw h g =>
  intro D q;let(E,U,hE):=la q;let(L,h1,h2,h9):=g E (hE b (by simp))
  refine(_,.more (w:=w) U ?_ ?_ U (Snd.su hw h).im h1,by rw[rl];lia,λp hp=>(kf.mp hp).elim (λe=>by rw[e];exact(_,_,.su hw h)) (h9 p)) <;>(obtain rfl|rfl:=hw.1 <;> decide)
 |@name n sc x y k b hy hx h g =>
  intro D q;let(E,U,hE):=la q;let(L,h1,h2,h9):=g E (hE b (by simp))
  exact(_,.more (w:="name") U (by decide) (by decide) U (Snd.name hy hx h).im h1,by rw[rl];lia,λp hp=>(kf.mp hp).elim (λe=>by rw[e];exact(_,_,.name hy hx h)) (h9 p))
 |@make n sc x m kd ns b Q hm hf hx h g =>
  intro D q;let(E,U,hE):=la q;let(L,h1,h2,h9):=g E (hE b (by simp))
  exact(_,.more (w:="make") U (by decide) (by decide) U (Snd.make Q hm hf hx h).im h1,by rw[rl];lia,λp hp=>(kf.mp hp).elim (λe=>by rw[e];exact(_,_,.make Q hm hf hx h)) (h9 p))
 |@call n sc x hd ns b hh hf hx h g =>
  intro D q;let(E,U,hE):=la q;let(L,h1,h2,h9):=g E (hE b (by simp))
  exact(_,.more (w:="call") U (by decide) (by decide) U (Snd.call hh hf hx h).im h1,by rw[rl];lia,λp hp=>(kf.mp hp).elim (λe=>by rw[e];exact(_,_,.call hh hf hx h)) (h9 p))
 |@case sc x kd arms hx Q P h1 h2 g =>
  intro D q;let hl:kd.2.length=arms.length:=by have:=congrArg VH P;simpa using this.symm
  let(E1,U,aD):=la q;let(E,U,hE):=la (aD (.t (arms.map tA)) (by simp))
  let all:∀a∈arms,∃L,Lst (E+2) a.2.2.1 L/\L.length<=a.2.2.2/\∀p∈L,∃m' K,Snd ks hs r m' K p:=λa ha=>by
   let(i,hi,e):=zN ha;let(E',e',aE):=la (ts:=[.s a.1,.t (a.2.1.map .s),a.2.2.1]) (hE _ (VR ha));let(L,l1,l2,l3):=g i a (kd.2[i]'(by lia)) (by rw[eO hi,e]) (eO _) E' (aE _ (by simp))
   exact(L,l1.mono (by lia),l2,l3)
  let(Ls,l1,l2):=yY all;let av:=HZ (Snd.case arms hx Q P h1 h2)
  have:=Lst.case (x:=x) (arms:=arms.map M0) (Ls:=Ls) (k:=E+2) (by rw[dz];exact l1) (λi z L V e2=>by
   rw[j5]at V;let(a,ha,U):=j7.mp V;exact(l2 i a L ha e2).1) av
  rw[xw]at this;refine(_,this,?_,λp hp=>?_)
  ·rw[rl]
   have:=MP l1 λi a L V e2=>(l2 i a L V e2).2.1
   lia
  ·obtain e|hp:=kf.mp hp
   ·rw[e];exact(_,_,.case arms hx Q P h1 h2)
   ·let(L,hL,hp):=WG.mp hp;let(i,hi,U):=zN hL;exact(l2 i (arms[i]'(by lia)) _ (eO (by lia)) (eO hi)).2.2 p hp
open Classical in
noncomputable def rL(b:L2.T):List L2.T:=if h:∃L,Lst 93 b L/\L.length<=50000 then h.choose else []
theorem Prog.ls(h:Prog ks fs)(hf:fn∈fs):Lst 93 fn.2.1 (rL fn.2.1)/\(rL fn.2.1).length<=50000:=by
 let(L,h1,h2,_):=(h.sn fn hf).1.lst 92 (h.dp fn hf);let ex:∃L,Lst 93 fn.2.1 L/\L.length<=50000:=(L,h1,u4 h2 (h.sn fn hf).2)
 unfold rL;rw[dif_pos ex];exact ex.choose_spec
structure Fr where
 f:Nat
 n:Nat
 p:L2.T
 ns:List (Key×L2.T)
 r:Str
 N:Nat
inductive Act where
 |pay(k:Int)(fr:Fr)|get (k:Int) (fr:Fr)|on (fr:Fr)|push (fr:Fr) (vs:List L2.T)|give (v:L2.T)|great (m:Str)
def vR:Act->Int->uo
 |.pay k fr',c=>if k > c then .fin c (.t [.s "short",.i k])else .on (fr'.n:Nat) fr'.p fr'.ns (c - k)
 |.get k fr',c=>.on (fr'.n:Nat) fr'.p fr'.ns (c+k)
 |.on fr',c=>.on (fr'.n:Nat) fr'.p fr'.ns c
 |.push fr' vs,_=>.push fr'.f vs
 |.give v,_=>.give v
 |.great m,c=>.fin c (.t [.s "great",.s m])
structure lD(ks:List Kd)(fs:List Fn)(fr:Fr):Prop where
 ex:∃(fn:Fn)(Lp R:List L2.T)(sc:Sc)(m:Nat),fs[fr.f]?=Z fn/\fn.1.2.2=fr.r/\Lst (93 - fr.N) fr.p Lp/\Lp++R=(rL fn.2.1).drop fr.n/\Snd ks (fs.map (·.1)) fr.r m sc fr.p/\Env ks sc fr.ns
 im:T.imk fr.ns=O
 pl:T.gc fr.ns=O
 ln:fr.ns.length<=4+4*fr.N
def NX:L2.T->Str
 |.t [_,.s y,_,_,_]=>y
 |_=>""
def NY:L2.T->L2.T
 |.t [_,_,_,_,b]=>b
 |_=>.n
def back(w:Fr)(v:L2.T):Fr:=(w.f,w.n+1,NY w.p,cX w.ns (.inr (NX w.p)) v,w.r,w.N+1)
structure Wt(ks:List Kd)(fs:List Fn)(w:Fr)(k:Str):Prop where
 ok:lD ks fs w
 p:∃(y nm:Str)(ys:List Str)(b:L2.T),w.p=.t [.s "call",.s y,.s nm,.t (ys.map .s),b]/\b.im=O
 b:∀v,GdV ks k v->lD ks fs (back w v)
structure Nxt(ks:List Kd)(fs:List Fn)(fr fr':Fr):Prop where
 ok:lD ks fs fr'
 f:fr'.f=fr.f
 r:fr'.r=fr.r
 N:fr'.N=fr.N+1
def Eff(ks:List Kd)(fs:List Fn)(fr:Fr):Act->Prop
 |.pay k fr'=>1<=k/\k<=1000/\(∃fn,fs[fr.f]?=Z fn/\L2.T.t [.s "pay",.i k,fr'.p]∈rL fn.2.1)/\Nxt ks fs fr fr'
 |.get k fr'=>1<=k/\Nxt ks fs fr fr'
 |.on fr'=>Nxt ks fs fr fr'
 |.push fr' vs=>lD ks fs fr'/\(∃g,fs[fr'.f]?=Z g/\fr'=(fr'.f,0,g.2.1,(toW g).names vs,g.1.2.2,0))/\Wt ks fs fr fr'.r
 |.give v=>GdV ks fr.r v
 |.great _=>True
theorem jD{M R L:List L2.T}(h:(p::M)++R=L.drop n):M++R=L.drop (n+1):=by
 have:=congrArg List.tail h
 rw[List.tail_drop]at this;exact this
theorem G5{M R L:List L2.T}(h:(p::M)++R=L.drop n):L[n]?=Z p:=by
 have:(L.drop n)[0]?=Z p:=by rw[<- h];rfl
 rw[XJ]at this;exact this
theorem Lst.head(h:Lst k b L):∃M,L=b::M:=by cases h <;> exact(_,U)
variable{fr:Fr}
theorem lD.at(h:lD ks fs fr):∃fn,fs[fr.f]?=Z fn/\(rL fn.2.1)[fr.n]?=Z fr.p:=by
 let(fn,Lp,R,sc,m,h1,h2,h3,h4,_):=h.ex;let(M,U):=h3.head;exact(fn,h1,G5 h4)
theorem lD.n92(h:lD ks fs fr):fr.N<=92:=by
 let(fn,Lp,R,sc,m,h1,h2,h3,_):=h.ex;refine WH λz=>?_
 rw[show 93 - fr.N=0 by omega]at h3
 cases h3
theorem MA{w:Str}(h:Lst k (.t ps) Lp)(h0:ps[0]?=Z (.s w))(h1:w ≠ "give")(h2:w ≠ "case")(q:ps.getLast?=Z b):∃g,Lp=.t ps::g/\Lst (k - 1) b g:=by
 cases h with
 |give=>cases h0;exact absurd U h1
 |more _ _ _ g3 _ z=>rw[q]at g3;cases g3;exact(_,U,z)
 |case _ _ _=>cases h0;exact absurd U h2
theorem x3:∀{xs ys:List Str},xs.map L2.T.s=ys.map L2.T.s->xs=ys
 |[],[],_=>rfl
 |[],_::_,h=>by cases h
 |_::_,[],h=>by cases h
 |x::xs,y::ys,h=>by
  injection h with h1 h2
  injection h1 with h1
  rw[h1,x3 h2]
theorem IW{x y:Str×List Str×L2.T}(h:fD x=fD y):x=y:=by
 let(a,b,c):=x;injection h with h
 injection h with h1 h
 injection h with h2 h
 injection h with h3 _
 injection h1 with h1
 injection h2 with h2
 dsimp only at *;rw[h1,x3 h2,h3]
theorem sI:∀{xs ys:List (Str×List Str×L2.T)},xs.map fD=ys.map fD->xs=ys
 |[],[],_=>rfl
 |[],_::_,h=>by cases h
 |_::_,[],h=>by cases h
 |x::xs,y::ys,h=>by
  injection h with h1 h2
  rw[IW h1,sI h2]
theorem SV(K:k<=93){arms:List (Str×List Str×L2.T)}(h:Lst k (.t [.s "case",.s x,.t (arms.map fD)]) Lp)(hl:Lp.length<=90000):∃Ls,Lp=.t [.s "case",.s x,.t (arms.map fD)]::Ls.flatten/\E8 arms Ls/\∀(i:Nat)(z:Str×List Str×L2.T)(L:List L2.T),arms[i]?=Z z->Ls[i]?=Z L->Lst (k - 1) z.2.2 L:=by
 generalize e:(L2.T.t [.s "case",.s x,.t (arms.map fD)])=b at h
 cases h with
 |give=>cases e
 |more q _ g2 _ _ _ =>
  injection e with e
  rw[<- e]at q;cases q;exact absurd U g2
 |@case _ x' Q Ls g1 g2 g3 =>
  injection e with e
  injection e with _ e
  injection e with P e
  injection e with g _
  injection g with g
  cases sI g;rw[rl]at hl;exact(Ls,U,(g1,λi z L h1 h2=>(g2 i z L h1 h2).mono (by lia),g3,by lia),g2)
theorem Lst.uniq:∀{b:L2.T}{L q:List L2.T},Lst k b L->Lst k b q->L=q:=by
 induction k with
 |zero=>intro b L q h;cases h
 |succ k K =>
  intro b L q h h';cases h with
  |@give _ y =>
   generalize e:(L2.T.t [.s "give",.s y])=b at h'
   cases h' with
   |give=>rfl
   |more g g1 _ _ _ _=>injection e with e;rw[<- e]at g;cases g;exact absurd U g1
   |case _ _ _=>cases e
  |more h0 h1 h2 h3 h4 h5 =>
   cases h' with
   |give=>cases h0;exact absurd U h1
   |more _ _ _ g3 _ P=>rw[h3]at g3;cases g3;rw[K h5 P]
   |case _ _ _=>cases h0;exact absurd U h2
  |@case _ x arms Ls hl h2 h3 =>
   generalize e:(L2.T.t [.s "case",.s x,.t (arms.map fD)])=b at h'
   cases h' with
   |give=>cases e
   |more g _ g2 _ _ _=>injection e with e;rw[<- e]at g;cases g;exact absurd U g2
   |@case _ x' TN Q g1 g2 g3 =>
    injection e with e
    injection e with _ e
    injection e with V e
    injection e with z _
    injection z with z
    cases sI z
    have:=WC (by lia) λi i1 i2=>K (h2 i (arms[i]'(by lia)) _ (eO (by lia)) (eO i1)) (g2 i (arms[i]'(by lia)) _ (eO (by lia)) (eO i2))
    rw[this]
theorem uW:∀{Ls:List (List L2.T)}{j:Nat}{L:List L2.T},Ls[j]?=Z L->∃R,Ls.flatten.drop (ahd Ls j)=L++R/\ahd Ls j<=Ls.flatten.length
 |M::Ls,0,L,h=>by cases h;exact(Ls.flatten,U,Jf _)
 |M::Ls,j+1,L,h=>by
  let(R,h1,h2):=uW (j:=j) h;let e:ahd (M::Ls) (j+1)=M.length+ahd Ls j:=by unfold ahd;rw[Xs,xG,VB]
  refine(R,?_,?_)
  ·rw[e,Wz,<- List.drop_drop,List.drop_left,h1]
  ·rw[Wz,px];lia
 |[],_,_,h=>by simp at h
theorem sf{f:α->Str}:∀{xs:List α}{x:α},(xs.map f).Nodup->x∈xs->∃j,xs[j]?=Z x/\∀(i:Nat)(z:α),i<j->xs[i]?=Z z->f z≠f x
 |y::xs,x,hn,hx=>by
  rw[xG,sP]at hn;obtain rfl|hx:=kf.mp hx
  ·exact(0,U,λi _ h=>absurd h (WQ _))
  ·let(j,h1,h2):=sf hn.2 hx;refine(j+1,h1,λi z hi g=>?_)
   cases i with
   |zero=>cases g;exact λe=>hn.1 (by rw[e];exact VR hx)
   |succ i=>exact h2 i z (by lia) g
theorem Fx:∀{vs:List Vl},(∀v∈vs,v.sz<=200/\v.dp<=60)->Vl.szs vs<=200*vs.length/\Vl.dps vs<=60
 |[],_=>(mW _,Jf _)
 |v::r,h=>by
  let(h1,h2):=Fx λu g=>h u (j0 _ g)
  let(h3,h4):=h v g5;rw[Vl.szs,Vl.dps,rl]
  lia
theorem xQ:∀(sc:Sc),(sc.map (·.1)).zip (sc.map (·.2))=sc
 |[]=>rfl
 |p::r=>by rw[xG,xG,WX,xQ r]
theorem Prog.begin(pg:Prog ks fs){g:Nat}(hg:fs[g]?=Z fn)(hl:us.length=fn.1.2.1.length)(K:∀(i:Nat)(u:L2.T)(f:Str),us[i]?=Z u->(fn.1.2.1.map (·.2))[i]?=Z f->GdV ks f u):lD ks fs (g,0,fn.2.1,(toW fn).names us,fn.1.2.2,0):=by
 let hm:=pA hg;let(l1,l2):=pg.ls hm;let(p1,p2,p3,Q):=pg.pk fn hm;let P:Env ks fn.1.2.1 ((toW fn).names us):=by
  have:=Env.zip (sc:=[]) (ys:=fn.1.2.1.map (·.1)) (ns:=[]) bY (by rw[dz,dz]) (by rw[dz];exact hl) (by simpa using p3) K
  rw[xQ,Jg]at this;unfold WF.names toW;rw[Jg];exact this
 let all:∀u∈us,u.im=O/\u.pln=true:=λu q=>by
  let(i,hi,U):=zN q
  have:=K i us[i] ((fn.1.2.1.map (·.2))[i]'(by rw[dz];lia)) (eO hi) (eO _)
  exact(this.im,this.pln)
 refine((fn,_,[],fn.1.2.1,_,hg,U,l1,by rw[sQ];rfl,(pg.sn fn hm).1,P),WF.yQ (cw λu h=>(all u h).1),WF.nL (gb λu h=>(all u h).2),?_)
 let h1:=WF.Em (g:=toW fn) (vs:=us);let h2:(toW fn).prs.length=fn.1.2.1.length:=by unfold toW;rw[dz]
 show((toW fn).names us).length<=4
 lia
theorem lD.stp(pg:Prog ks fs)(h:lD ks fs fr):∃A,(∀c,g8 (ez fs) fr.n fr.p fr.ns c (vR A c))/\Eff ks fs fr A:=by
 let(f0,n0,p0,q,V,N0):=fr;let((fn,Lp,R,sc,m,h1,h2,h3,h4,h5,h6),aH,aE,cb):=id h;dsimp only at *;let hm:=pA h1;let(l1,l2):=pg.ls hm;let b0:Lp.length<=90000:=by
  have:=congrArg VH h4
  rw[px,VX]at this
  lia
 let aD:∀{b:L2.T}{ns':List (Key×L2.T)}{Lb R':List L2.T}{aM:Sc}{m' n':Nat},Lst (93 - (N0+1)) b Lb->Lb++R'=(rL fn.2.1).drop n'->Snd ks (fs.map (·.1)) V m' aM b->Env ks aM ns'->T.imk ns'=O->T.gc ns'=O->ns'.length<=q.length+4->Nxt ks fs (f0,n0,p0,q,V,N0) (f0,n',b,ns',V,N0+1):=λa1 a2 a3 a4 a5 a6 a7 =>
  (((fn,_,_,_,_,h1,h2,a1,a2,a3,a4),a5,a6,by dsimp only;lia),U,U,U)
 let put:∀{x k:Str}{v b:L2.T}{Lb:List L2.T}{m':Nat},x ∉ sc.map (·.1)->GdV ks k v->Lst (93 - (N0+1)) b Lb->Lb++R=(rL fn.2.1).drop (n0+1)->Snd ks (fs.map (·.1)) V m' (sc ++ [(x,k)]) b->Nxt ks fs (f0,n0,p0,q,V,N0) (f0,n0+1,b,cX q (.inr x) v,V,N0+1):=λa1 a2 a3 a4 a5 =>
  aD a3 a4 a5 (h6.put a1 a2) (CC aH a2.im) (yw aE a2.pln) (u4 Cv (by lia))
 cases h5 with
 |@give _ x hx =>
  let(t,e,g):=h6 (x,V) hx;exact(.give t,λc=>.give e g.im,g)
 |@su m' _ w c b hw K =>
  let(Lb,U,P):=MA (w:=w) h3 U (by obtain rfl|rfl:=hw.1 <;> decide) (by obtain rfl|rfl:=hw.1 <;> decide) U
  let e:=jD h4;let nx:=aD P e K h6 aH aE (by lia)
  obtain⟨rfl|rfl,c1,c2⟩:=hw
  ·refine(.pay c (f0,n0+1,b,q,V,N0+1),λd=>?_,c1,c2,(fn,h1,pA (G5 h4)),nx)
   unfold vR;dsimp only;by_cases g:c > d
   ·rw[if_pos g];exact .short K.im g
   ·rw[if_neg g];exact .pay K.im g
  ·exact(.get c (f0,n0+1,b,q,V,N0+1),λd=>.get K.im,c1,nx)
 |@name m' _ x y k b hy hx K =>
  let(Lb,U,P):=MA (w:="name") h3 U (by decide) (by decide) U
  let(t,e,g):=h6 (y,k) hy;exact(.on (f0,n0+1,b,cX q (.inr x) t,V,N0+1),λd=>.name K.im e g.im,put hx g P (jD h4) K)
 |@make m' _ x mk kd ys b hk bt hf hx K =>
  let(Lb,U,P):=MA (w:="make") h3 U (by decide) (by decide) U
  let(vs,v1,v2,v3,v4):=h6.fill hf;let f4:=(pg.gk.fl kd hk mk bt).1;let(s1,s2):=Fx v4;let hsz:(Vl.mk mk.1 vs).sz<=1000/\(Vl.mk mk.1 vs).dp<=90:=by rw[Vl.sz,Vl.dp];lia
  let yl:ys.length<=1000:=by rw[hf.1];lia
  by_cases g:(Vl.mk mk.1 vs).sz > 200\/(Vl.mk mk.1 vs).dp > 60
  ·exact(.great mk.1,λd=>.great K.im yl v1 hsz g,trivial)
  ·let gv:GdV ks kd.1 (Vl.mk mk.1 vs).t:=(_,U,.mk hk bt v2 v3,by lia,by lia)
   exact(.on (f0,n0+1,b,cX q (.inr x) (Vl.mk mk.1 vs).t,V,N0+1),λd=>.make K.im yl v1 hsz g,put hx gv P (jD h4) K)
 |@call m' _ x hd ys b hh hf hx K =>
  let(Lb,U,P):=MA (w:="call") h3 U (by decide) (by decide) U
  let(vs,v1,v2,v3,v4):=h6.fill hf;let(av,bw,U):=ui.mp hh;let(g,g1,g2):=sf (f:=λf:Fn=>f.1.1) pg.hn bw
  let(p1,_):=pg.pk av bw;let yl:ys.length<=1000:=by rw[hf.1,dz];lia
  refine(.push (g,0,av.2.1,(toW av).names (vs.map Vl.t),av.1.2.2,0) (vs.map Vl.t),λd=>.call K.im yl v1 (mz g1) U (λj g' hj aI=>?_) ?_,pg.begin g1 ?_ ?_,(av,g1,U),h,(x,_,ys,b,U,K.im),λv hv=>?_)
  ·unfold ez at aI;rw[j5]at aI;let(f',b6,U):=j7.mp aI;exact(f'.1.1,U,g2 j f' hj b6)
  ·unfold toW;rw[dz];lia
  ·rw[dz,v2,dz]
  ·intro i u f e1 e2;rw[j5]at e1;let(v,hv,U):=j7.mp e1;let(q1,q2):=v4 v (pA hv);exact(v,U,v3 i v f hv e2,q1,q2)
  ·exact(put hx hv P (jD h4) K).ok
 |@case _ x kd arms hx hk aS a1 a2 =>
  rw[<- xw]at h3;let(Ls,U,hA,b7):=SV (Xz _ _) h3 b0;let(t,e,v,U,hv,s1,s2):=h6 (x,kd.1) hx;dsimp only at hv
  generalize ek:kd.1=k1 at hv
  cases hv with
  |@mk Q mk ps q1 q2 q3 q4 =>
   have:Q=kd:=Prod.ext ek.symm (by rw[<- mv pg.gk.nd q1,<- ek,mv pg.gk.nd hk])
   subst this;let hn:=rG hk pg.gk.mn;let(j,j1,j2):=sf (f:=λz:Mk1=>z.1) hn q2
   let hl:Q.2.length=arms.length:=by have:=congrArg VH aS;simpa using this.symm
   let hj:j<arms.length:=by rw[<- hl];exact(j3.mp j1).1
   let kr:∀(i:Nat)(a:Arm)(m:Mk1),arms[i]?=Z a->Q.2[i]?=Z m->a.1=m.1:=λi a m e1 e2=>by
    let h1:(arms.map (·.1))[i]?=Z a.1:=by rw[j5,e1];rfl
    rw[aS,j5,e2]at h1;exact(Option.some.inj h1).symm
   let(b1,b2):=a1 j arms[j] mk (eO hj) j1;let b3:=a2 j arms[j] mk (eO hj) j1;let b4:=kr j arms[j] mk (eO hj) j1;let f4:=(pg.gk.fl Q hk mk q2).1;rw[Vl.sz]at s1;rw[Vl.dp]at s2;let eA:(arms.map M0)[j]?=Z (mk.1,arms[j].2.1,arms[j].2.2.1):=by rw[j5,eO hj,<- b4];rfl
   let(Lj,e1,_,_,e4):=hA.at eA;let e2:=b7 j _ Lj eA e1;let(R',r1,r2):=uW e1;let pt:=jD h4;let e5:Lj++(R'++R)=(rL fn.2.1).drop (n0+(1+ahd Ls j)):=by
    rw[<- Nj,<- r1,<- List.drop_append_of_le_length r2,pt,List.drop_drop]
    congr 1
    lia
   let Rh:∀(i:Nat)(u:L2.T)(f:Str),(ps.map Vl.t)[i]?=Z u->mk.2[i]?=Z f->GdV ks f u:=λi u f h1 h2=>by
    rw[j5]at h1;let(v,hv,U):=j7.mp h1;let m1:=Vl.Ac (pA hv);let m2:=Vl.Bm (pA hv);exact(v,U,q4 i v f hv h2,by lia,by lia)
   let aQ:T.ims (ps.map Vl.t)=true:=Vl.ims ps;let ul:(ps.map Vl.t).length=arms[j].2.1.length:=by rw[dz,q3,b1]
   let bP:∀p∈(arms[j].2.1.map λy=>(.inr y:Key)).zip (ps.map Vl.t),p.2.im=true:=λp hp=>cv aQ (QV hp).2
   let bD:∀p∈(arms[j].2.1.map λy=>(.inr y:Key)).zip (ps.map Vl.t),p.2.pln=true:=λp hp=>by
    let(v,_,hv):=ui.mp (QV hp).2;rw[<- hv];exact v.pln
   let ml:=kh (kts:=(arms[j].2.1.map λy=>(.inr y:Key)).zip (ps.map Vl.t)) (acc:=q)
   rw[Ii,dz,ul,XS]at ml;rw[Vl.Aa]at e;refine(.on (f0,n0+(1+ahd Ls j),arms[j].2.2.1,aP q ((arms[j].2.1.map λy=>(.inr y:Key)).zip (ps.map Vl.t)),V,N0+1),λd=>?_,aD e2 e5 b3 (Env.zip h6 b1 ul b2 Rh) (iu aH bP) (iN aE bD) (by lia))
   rw[<- xw];refine .case e aQ hA eA (λi z hi hz=>?_) ul (by lia)
   rw[j5]at hz;let(a,ha,U):=j7.mp hz;let cc:=(j3.mp ha).1;let e6:Q.2[i]?=Z (Q.2[i]'(by lia)):=eO _
   show a.1≠mk.1;rw[kr i a _ ha e6];exact j2 i _ hi e6
structure Wd where
 ks:List Kd
 fs:List Fn
open Classical in
noncomputable def Wd.act(W:Wd)(fr:Fr):Act:=if h:∃A,(∀c,g8 (ez W.fs) fr.n fr.p fr.ns c (vR A c))/\Eff W.ks W.fs fr A then h.choose else .great ""
theorem Wd.n6{W:Wd}(pg:Prog W.ks W.fs)(h:lD W.ks W.fs fr):(∀c,g8 (ez W.fs) fr.n fr.p fr.ns c (vR (W.act fr) c))/\Eff W.ks W.fs fr (W.act fr):=by
 let ex:=h.stp pg;unfold Wd.act;rw[dif_pos ex];exact ex.choose_spec
structure Cf where
 top:Fr
 stk:List Fr
def Blw(W:Wd):List Fr->Str->Prop
 |[],_=>True
 |w::r,k=>Wt W.ks W.fs w k/\Blw W r w.r
structure lF(W:Wd)(k:Nat)(c:Cf):Prop where
 t:lD W.ks W.fs c.top
 b:Blw W c.stk c.top.r
 n3:c.stk.length<=k
noncomputable def Wd.nx(W:Wd)(c:Cf):Cf:=match W.act c.top with
 |.pay _ fr=>(fr,c.stk)
 |.get _ fr=>(fr,c.stk)
 |.on fr=>(fr,c.stk)
 |.push fr _=>(fr,c.top::c.stk)
 |.give v=>match c.stk with
  |[]=>c
  |w::r=>(back w v,r)
 |.great _=>c
noncomputable def Wd.ed(W:Wd)(c:Cf):Option L2.T:=match W.act c.top with
 |.give v=>match c.stk with
  |[]=>Z (.t [.s "gave",v])
  |_::_=>Y
 |.great m=>Z (.t [.s "great",.s m])
 |_=>Y
noncomputable def Wd.sh(W:Wd)(c:Cf)(g:Int):Option Int:=match W.act c.top with
 |.pay k _=>if k > g then Z k else Y
 |_=>Y
noncomputable def Wd.dl(W:Wd)(c:Cf):Int:=match W.act c.top with
 |.pay k _=>-k
 |.get k _=>k
 |_=>0
theorem Wd.SD(pg:Prog W.ks W.fs)(h:lF W k c)(he:W.ed c=Y):lF W (k+1) (W.nx c):=by
 let(_,g):=W.n6 pg h.t;let n3:=h.n3;let go:∀{fr:Fr},Nxt W.ks W.fs c.top fr->lF W (k+1) (fr,c.stk):=λx=>(x.ok,by rw[x.r];exact h.b,Nat.le_succ_of_le n3)
 unfold Wd.ed at he;unfold Wd.nx;cases e:W.act c.top with
 |pay k fr=>rw[e]at g;exact go g.2.2.2
 |get k fr=>rw[e]at g;exact go g.2
 |on fr=>rw[e]at g;exact go g
 |push fr vs =>
  rw[e]at g;let(P,(z,_,Q),K):=g;exact(P,(K,h.b),by rw[rl];lia)
 |give v =>
  rw[e]at g he;let q:=h.b;cases es:c.stk with
  |nil=>rw[es]at he;cases he
  |cons w r =>
   rw[es]at q n3;let(b1,b2):=q;refine(b1.b v g,b2,?_);rw[rl]at n3;dsimp only;lia
 |great m=>rw[e]at he;cases he
def frT(CF x:J)(fr:Fr):L2.T:=fT CF x (fr.f:Nat) (fr.n:Nat) fr.p fr.ns
inductive WkL(CF:J):List Fr->List L2.T->Prop
 |nil:WkL CF [] []
 |cons{fr:Fr}{stk:List Fr}{ts:List L2.T}{x:J}:WkL CF stk ts->WkL CF (fr::stk) (ts ++ [frT CF x fr])
theorem WkL.len(h:WkL CF stk ts):ts.length=stk.length:=by
 induction h with
 |nil=>rfl
 |cons _ g=>rw[px,g];rfl
def frD(o:Obj)(vs:List (Key×V))(fr:Fr):L2.T:=frL (fr.f:Nat) (fr.n:Nat) o vs fr.ns
inductive LwL:List Fr->List L2.T->Prop
 |nil:LwL [] []
 |cons{fr:Fr}{stk:List Fr}{ts:List L2.T}{o:Obj}{vs:List (Key×V)}:T.gc fr.ns=O->LwL stk ts->LwL (fr::stk) (ts ++ [frD o vs fr])
theorem LwL.ok(h:LwL stk ts):ts.length=stk.length/\T.dv ts=O/\T.ims ts=true:=by
 induction h with
 |nil=>exact(U,U,U)
 |@cons fr _ ts o vs hp _ g =>
  refine(by rw[px,g.1];rfl,gb λt q=>?_,cw λt q=>?_)
  ·obtain z|z:=p7.mp q
   ·exact f9 g.2.1 z
   ·rw[ej.mp z];show(O&&(O&&(T.gc fr.ns&&O)))=O;rw[hp];rfl
  ·obtain z|z:=p7.mp q
   ·exact cv g.2.2 z
   ·rw[ej.mp z];rfl
def gsT(W:Wd):L2.T:=.t ((ez W.fs).map WF.t)
theorem sx{w:Fr}(h:w.p=.t [.s "call",.s y,.s nm,.t (ys.map .s),b]):NX w.p=y/\NY w.p=b:=by rw[h];exact(U,U)
variable{CW:J}{x0:J}
theorem Wd.turn(pg:Prog W.ks W.fs){k:Nat}{c:Cf}(h:lF W k c)(hk:k<8000){x:J}{frs:List L2.T}(hw:WkL CF c.stk frs){K m:Int}{Q:L2.T->L2.T->Prop}
  (h1:∀q,W.sh c K=Z q->Q (.b ϊ) (wT CW x0 (gsT W) [] K (m+1) (.t [.s "short",.i q])))
  (h2:∀e,W.ed c=Z e->W.sh c K=Y->Q (.b ϊ) (wT CW x0 (gsT W) [] K (m+1) e))
  (h3:W.ed c=Y->W.sh c K=Y->∀dg x',WkL CF (W.nx c).stk dg->Q (.b O) (wT CW x0 (gsT W) (dg ++ [frT CF x' (W.nx c).top]) (K+W.dl c) (m+1) .n)):
  v9 CW CF [wT CW x0 (gsT W) (frs ++ [frT CF x c.top]) K m .n] Q:=by
 let(st,V):=W.n6 pg h.t;let hn:=h.t.ln;let n1:=h.t.n92;let n3:=h.n3;let hl:=hw.len;unfold Wd.sh Wd.ed Wd.nx Wd.dl at h3;unfold Wd.sh Wd.ed at h2;unfold Wd.sh at h1;let go:∀r,g8 (ez W.fs) c.top.n c.top.p c.top.ns K r->QQ CF frs r->(∀t,Oy CW CF x0 (ez W.fs) frs x (c.top.f) (c.top.n) c.top.p c.top.ns K (m+1) r t->Q (.b (Ct frs r)) t)->v9 CW CF [wT CW x0 (gsT W) (frs ++ [frT CF x c.top]) K m .n] Q:=λr hs hg hq =>
  .inl (x0,x,ez W.fs,frs,_,_,_,_,_,_,r,U,pg.fns,h.t.im,by lia,by lia,hs,hg,hq)
 let av:∀{fr:Fr}{c':Int},fr.f=c.top.f->wT CW x0 (gsT W) (frs ++ [frT CF x fr]) c' (m+1) .n=wT CW x0 (.t ((ez W.fs).map WF.t)) (frs ++ [fT CF x (c.top.f) (fr.n) fr.p fr.ns]) c' (m+1) .n:=λe=>by unfold frT gsT;rw[e]
 cases e:W.act c.top with
 |pay q fr =>
  rw[e]at st V h1 h3;let st:=st K;dsimp only[vR]at st h1 h3;by_cases g:q > K
  ·rw[if_pos g]at st h1;exact go _ st trivial λt P=>by cases P;exact h1 q U
  ·rw[if_neg g]at st h3;refine go _ st trivial λt P=>?_
   cases P
   have:=h3 U U frs x hw
   rw[av V.2.2.2.f]at this;exact this
 |get q fr =>
  rw[e]at st V h3;refine go _ (st K) trivial λt P=>?_
  cases P
  have:=h3 U U frs x hw
  rw[av V.2.f]at this;exact this
 |on fr =>
  rw[e]at st V h3;refine go _ (st K) trivial λt P=>?_
  cases P
  have:=h3 U U frs x hw
  rw[av V.f,VT]at this;exact this
 |push fr vs =>
  rw[e]at st V h3;let(_,(aM,g1,g2),_):=V;refine go _ (st K) trivial λt P=>?_
  let(x',g,hg,U):=P;rw[mz g1]at hg;cases hg
  have:=h3 U U _ x' (.cons (x:=x) hw)
  rw[VT]at this;rw[g2]at this;exact this
 |great q =>
  rw[e]at st h2;exact go _ (st K) trivial λt P=>by cases P;exact h2 _ U U
 |give v =>
  rw[e]at st V h2 h3;let hb:=h.b;cases es:c.stk with
  |nil =>
   rw[es]at hw h2;cases hw;refine go _ (st K) (.inl U) λt P=>?_
   obtain⟨_,rfl⟩|⟨dg,_,_,_,_,_,_,_,hB,_⟩:=P
   ·exact h2 _ U U
   ·exact absurd hB.e (by cases dg <;> simp)
  |cons w r =>
   rw[es]at hw hb h3;cases hw with
   |@cons _ _ dg x' aH =>
    let((wk,(y,nm,ys,b,ep,bi),wb),_):=hb;let(p1,p2):=sx ep;let wn:=wk.n92;let wl:=wk.ln;let aI:=by
     show(O&&(O&&(O&&(L2.T.ims (ys.map .s)&&(b.im&&O)))))=O;rw[bu,bi];rfl
    let hB:Below CF (dg ++ [frT CF x' w]) dg x' (w.f) (w.n) [L2.T.s "call",.s y,.s nm,.t (ys.map .s),b] w.ns y b:=(by unfold frT;rw[ep],wk.im,by lia,aI,U,U)
    refine go _ (st K) (.inr (_,_,_,_,_,_,_,_,hB)) λt P=>?_
    let lv:Ct (dg ++ [frT CF x' w]) (vR (.give v) K)=true:=by cases dg <;> rfl
    rw[lv];obtain⟨z,_⟩|⟨f2,x2,a2,b2,q2,m2,y2,c2,aD,rfl⟩:=P
    ·exact absurd z (by cases dg <;> simp)
    ·let e1:=aD.e;unfold frT at e1;rw[ep]at e1;let(e2,e3):=X6 e1 U;subst e2;injection e3 with e3 _
     injection e3 with e4 _ _ e5
     injection e5 with f1 e5
     injection e5 with aE e5
     injection e5 with f3 e5
     injection e5 with f4 _
     injection f1 with f1
     injection aE with aE
     injection f3 with f3
     injection f4 with f4
     subst e4 f1 aE f3 f4;let g1:=aD.y;let g2:=aD.b;cases g1;cases g2
     have:=h3 U U dg x' aH
     dsimp only at this;rw[VT]at this;unfold frT back at this;rw[p1,p2]at this;exact this
theorem Wd.step(pg:Prog W.ks W.fs){k:Nat}{c:Cf}(h:lF W k c)(hk:k<8000){ks:L2.T}(aI:ks.im=O){p:J}{ts:List L2.T}{o:Obj}{vs:List (Key×V)}(hw:LwL c.stk ts){P m:Int}{Q:L2.T->Prop}
  (h1:∀q,W.sh c P=Z q->Q (.dp p (stT [] P (m+1) (.t [.s "short",.i q]))))
  (h2:∀e,W.ed c=Z e->W.sh c P=Y->Q (.dp p (stT [] P (m+1) e)))
  (h3:W.ed c=Y->W.sh c P=Y->∀K o' vs',LwL (W.nx c).stk K->Q (.dp p (stT (K ++ [frD o' vs' (W.nx c).top]) (P+W.dl c) (m+1) .n))):
  wa [.t [ks,gsT W],.dp p (stT (ts ++ [frD o vs c.top]) P m .n)] Q:=by
 let(st,ef):=W.n6 pg h.t;let hn:=h.t.ln;let n1:=h.t.n92;let n3:=h.n3;let(hl,hp,hi):=hw.ok;let(fn,f1,f2):=h.t.at;let hm:=pA f1;let(l1,l2):=pg.ls hm;let l8:=pg.l8;unfold Wd.sh Wd.ed Wd.nx Wd.dl at h3;unfold Wd.sh Wd.ed at h2;unfold Wd.sh at h1;let go:∀r,g8 (ez W.fs) c.top.n c.top.p c.top.ns P r->GvS (ez W.fs) ts r->(∀t,Rx p (ez W.fs) ts (c.top.f:Nat) (c.top.n:Nat) o vs c.top.ns P (m+1) r t->Q t)->wa [.t [ks,gsT W],.dp p (stT (ts ++ [frD o vs c.top]) P m .n)] Q:=λr hs hg hq =>
  (p,ks,ez W.fs,ts,c.top.f,c.top.n,o,vs,c.top.ns,P,m,toW fn,rL fn.2.1,c.top.p,r,U,aI,pg.fns,Ti _,by unfold ez;rw[dz];lia,mz f1,l1,by lia,f2,(h.t.im,h.t.pl,by lia),by lia,hp,hi,hs,hg,hq)
 let av:∀{fr:Fr}{c':Int}{o':Obj}{vs':List (Key×V)},fr.f=c.top.f->stT (ts ++ [frD o' vs' fr]) c' (m+1) .n=stT (ts ++ [frL (c.top.f:Nat) (fr.n:Nat) o' vs' fr.ns]) c' (m+1) .n:=λe=>by unfold frD;rw[e]
 cases e:W.act c.top with
 |pay q fr =>
  rw[e]at st ef h1 h3;let st:=st P;dsimp only[vR]at st h1 h3;by_cases g:q > P
  ·rw[if_pos g]at st h1;exact go _ st trivial λt ht=>by cases ht;exact h1 q U
  ·rw[if_neg g]at st h3;refine go _ st trivial λt ht=>?_
   let(o',vs',U):=ht
   have:=h3 U U ts o' vs' hw
   rw[av ef.2.2.2.f,<- Int.sub_eq_add_neg]at this;exact this
 |get q fr =>
  rw[e]at st ef h3;refine go _ (st P) trivial λt ht=>?_
  let(o',vs',U):=ht
  have:=h3 U U ts o' vs' hw
  rw[av ef.2.f]at this;exact this
 |on fr =>
  rw[e]at st ef h3;refine go _ (st P) trivial λt ht=>?_
  let(o',vs',U):=ht
  have:=h3 U U ts o' vs' hw
  dsimp only at this;rw[av ef.f,VT]at this;exact this
 |push fr us =>
  rw[e]at st ef h3;let(_,(aQ,g1,g2),_):=ef;refine go _ (st P) trivial λt ht=>?_
  let(o',vs',g,hg,U):=ht;rw[mz g1]at hg;cases hg
  have:=h3 U U _ o' vs' (.cons (o:=o) (vs:=vs) h.t.pl hw)
  dsimp only at this;rw[VT]at this;rw[g2]at this;exact this
 |great q =>
  rw[e]at st h2;exact go _ (st P) trivial λt ht=>by cases ht;exact h2 _ U U
 |give v =>
  rw[e]at st ef h2 h3;let hb:=h.b;dsimp only at h2 h3;cases es:c.stk with
  |nil =>
   rw[es]at hw h2;cases hw;refine go _ (st P) (.inl U) λt ht=>?_
   obtain⟨_,rfl⟩|⟨K,_,_,_,_,_,_,_,_,hB,_⟩:=ht
   ·exact h2 _ U U
   ·exact absurd hB.e (by cases K <;> simp)
  |cons w r =>
   rw[es]at hw hb h3;cases hw with
   |@cons _ _ K o1 aD _ aH =>
    let((wk,(y,nm,ys,b,ep,bi),wb),_):=hb;let(p1,p2):=sx ep;let wn:=wk.n92;let wl:=wk.ln;let(fw,w1,w2):=wk.at;let(k1,k2):=pg.ls (pA w1);rw[ep]at w2;let hB:GvL (ez W.fs) (K ++ [frD o1 aD w]) K w.f w.n o1 aD w.ns y:=(U,(toW fw,rL fw.2.1,_,mz w1,k1,by lia,w2,U),wk.im,wk.pl,by lia)
    refine go _ (st P) (.inr (_,_,_,_,_,_,_,hB)) λt ht=>?_
    obtain⟨z,_⟩|⟨t2,a2,b2,c2,d2,m2,y2,o2,vs2,aE,rfl⟩:=ht
    ·exact absurd z (by cases K <;> simp)
    ·let e1:=aE.e;let(e2,e3):=X6 e1 U;unfold frD frL at e3;injection e3 with e3 _
     injection e3 with e3
     injection e3 with f1 e3
     injection e3 with f2 e3
     injection e3 with f3 _
     injection f1 with f1
     injection f2 with f2
     injection f3 with f3 f4 f5
     let f1:=Int.ofNat.inj f1;let f2:=Int.ofNat.inj f2;subst e2 f1 f2 f3 f4 f5;let(g',L',ps',z1,z2,z3,z4,z5):=aE.g;rw[mz w1]at z1;cases z1;let aM:=k1.uniq z2;rw[<- aM,w2]at z4;cases z4;cases z5
     have:=h3 U U K o2 vs2 aH
     dsimp only at this;rw[VT]at this;unfold frD back at this;dsimp only at this;rw[p1]at this;exact this
noncomputable def Wd.st(W:Wd)(a:Cf):Nat->Cf
 | 0=>a
 |k+1=>W.nx (W.st a k)
noncomputable def Wd.sm(W:Wd)(a:Cf):Nat->Int
 | 0=>0
 |k+1=>W.sm a k+W.dl (W.st a k)
structure Wd.Al(W:Wd)(a:Cf)(c:Int)(k:Nat):Prop where
 g:∀j<k,W.ed (W.st a j)=Y
 s:∀j<k,W.sh (W.st a j) (c+W.sm a j)=Y
variable{a:Cf}
theorem Wd.Al.zero{W:Wd}:W.Al a c 0:=(λ_ h=>absurd h (WQ _),λ_ h=>absurd h (WQ _))
theorem Wd.Al.next{W:Wd}(h:W.Al a c k)(h1:W.ed (W.st a k)=Y)(h2:W.sh (W.st a k) (c+W.sm a k)=Y):W.Al a c (k+1) :=
 (λj q=>by obtain z|rfl:=V4.mp q;exact h.g j z;exact h1,λj q=>by obtain z|rfl:=V4.mp q;exact h.s j z;exact h2)
theorem Wd.gd(pg:Prog W.ks W.fs)(ha:lF W 0 a):∀{k:Nat},(∀j<k,W.ed (W.st a j)=Y)->lF W k (W.st a k)
 | 0,_=>ha
 |k+1,h=>Wd.SD pg (Wd.gd pg ha λj g=>h j (V2 g)) (h k (VA k))
theorem Wd.Ei{W:Wd}(h:0<=c+W.sm a (k+1)):W.sh (W.st a k) (c+W.sm a k)=none:=by
 let h:0<=c+(W.sm a k+W.dl (W.st a k)):=h;unfold Wd.sh;unfold Wd.dl at h;cases e:W.act (W.st a k).top with
 |pay q fr=>rw[e]at h;dsimp only at h ⊢;rw[if_neg (by lia)]
 |get q fr=>rfl
 |on _=>rfl
 |push _ _=>rfl
 |give _=>rfl
 |great _=>rfl
structure Wd.End(W:Wd)(a:Cf)(N D:Nat)(e:L2.T):Prop where
 lt:D<N
 no:∀j<D,W.ed (W.st a j)=Y
 ed:W.ed (W.st a D)=Z e
def Wd.T2(W:Wd)(a:Cf)(N:Nat):Prop:=∀j<N,W.ed (W.st a j)=Y
variable{N:Nat}
theorem Wd.End.eq{W:Wd}{g:Nat}(h:W.End a N D e)(h':W.End a N g e'):g=D/\e'=e:=by
 let q:g=D:=by
  obtain z|z|z:=W6 g D
  ·have:=h.no g z;rw[h'.ed]at this;cases this
  ·exact z
  ·have:=h'.no D z;rw[h.ed]at this;cases this
 subst q
 have:=h.ed
 rw[h'.ed]at this;cases this;exact(U,U)
theorem Wd.End.Bb{W:Wd}(h:W.End a N D e)(hl:W.T2 a N):False:=by
 have:=hl D h.lt
 rw[h.ed]at this;cases this
theorem Wd.Vd(pg:Prog W.ks W.fs)(h:lF W k c)(he:W.ed c=Z e):∃ps,e=.t ps/\T.ims ps=O/\∀z∈ps,Dep 120 z:=by
 let(_,g):=W.n6 pg h.t;unfold Wd.ed at he;cases q:W.act c.top with
 |give v =>
  rw[q]at he g;cases es:c.stk with
  |nil =>
   rw[es]at he;cases he;let(u,U,_,_,hd):=g;refine(_,U,(by show(O&&(u.t.im&&O))=O;rw[u.im];rfl),bf Dep.s (bf (u.dep.mono (by lia)) bM))
  |cons w r=>rw[es]at he;cases he
 |great m =>
  rw[q]at he;cases he;exact(_,U,U,bf Dep.s (bf Dep.s bM))
 |pay _ _=>rw[q]at he;cases he
 |get _ _=>rw[q]at he;cases he
 |on _=>rw[q]at he;cases he
 |push _ _=>rw[q]at he;cases he
theorem Wd.End.t(pg:Prog W.ks W.fs)(ha:lF W 0 a)(h:W.End a N D e):∃ps,e=.t ps/\T.ims ps=O/\∀z∈ps,Dep 120 z:=Wd.Vd pg (Wd.gd pg ha h.no) h.ed
structure WkS(W:Wd)(a:Cf)(c:Int)(CW CF x0:J)(k:Nat)(t:L2.T):Prop where
 ex:∃frs x,WkL CF (W.st a k).stk frs/\t=wT CW x0 (gsT W) (frs ++ [frT CF x (W.st a k).top]) (c+W.sm a k) (k:Nat) .n
structure LwS(W:Wd)(a:Cf)(c:Int)(k:Nat)(ks:List (Key×L2.T)):Prop where
 ex:∃ts o vs,LwL (W.st a k).stk ts/\ks=stT (ts ++ [frD o vs (W.st a k).top]) (c+W.sm a k) (k:Nat) .n
theorem Wd.Ri(pg:Prog W.ks W.fs)(ha:lF W 0 a){c:Int}{k:Nat}(al:W.Al a c k)(K:k<8000){t:L2.T}(hw:WkS W a c CW CF x0 k t){Q:L2.T->L2.T->Prop}
  (h1:∀q,W.sh (W.st a k) (c+W.sm a k)=Z q->Q (.b ϊ) (wT CW x0 (gsT W) [] (c+W.sm a k) ((k+1:Nat):Int) (.t [.s "short",.i q])))
  (h2:∀e,W.ed (W.st a k)=Z e->W.sh (W.st a k) (c+W.sm a k)=Y->Q (.b ϊ) (wT CW x0 (gsT W) [] (c+W.sm a k) ((k+1:Nat):Int) e))
  (h3:W.Al a c (k+1)->∀t',WkS W a c CW CF x0 (k+1) t'->Q (.b O) t'):v9 CW CF [t] Q:=by
 let⟨(frs,x,hl,U)⟩:=hw;refine Wd.turn pg (Wd.gd pg ha al.g) K hl h1 h2 λV P dg x' z=>(h3 (al.next V P) _ (dg,x',z,?_))
 rw[Wd.sm,<- Int.add_assoc];rfl
theorem Wd.stepK(pg:Prog W.ks W.fs)(ha:lF W 0 a){c:Int}{k:Nat}(al:W.Al a c k)(hk:k<8000){kt:L2.T}(V:kt.im=O){p:J}{ds:List (Key×L2.T)}(hw:LwS W a c k ds){Q:L2.T->Prop}
  (h1:∀q,W.sh (W.st a k) (c+W.sm a k)=Z q->Q (.dp p (stT [] (c+W.sm a k) ((k+1:Nat):Int) (.t [.s "short",.i q]))))
  (h2:∀e,W.ed (W.st a k)=Z e->W.sh (W.st a k) (c+W.sm a k)=Y->Q (.dp p (stT [] (c+W.sm a k) ((k+1:Nat):Int) e)))
  (h3:W.Al a c (k+1)->∀z,LwS W a c (k+1) z->Q (.dp p z)):wa [.t [kt,gsT W],.dp p ds] Q:=by
 let⟨(ts,o,vs,hl,U)⟩:=hw;refine Wd.step pg (Wd.gd pg ha al.g) hk V hl h1 h2 λe1 e2 K o' vs' P=>(h3 (al.next e1 e2) _ (K,o',vs',P,?_))
 rw[Wd.sm,<- Int.add_assoc];rfl
def Wd.t(W:Wd):L2.T:=.t [tKs W.ks,gsT W]
theorem Wd.im{W:Wd}(pg:Prog W.ks W.fs):W.t.im=true:=by
 show((tKs W.ks).im&&(L2.T.ims ((ez W.fs).map WF.t)&&O))=O;rw[rV,pg.fns];rfl
def Wd.a0(_:Wd)(f:Nat)(fn:Fn)(vs:List L2.T):Cf:=((f,0,fn.2.1,(toW fn).names vs,fn.1.2.2,0),[])
structure Wd.Args(W:Wd)(f:Nat)(fn:Fn)(vs:List L2.T):Prop where
 g:W.fs[f]?=Z fn
 l:vs.length=fn.1.2.1.length
 s:∀(i:Nat)(u:L2.T)(k:Str),vs[i]?=Z u->(fn.1.2.1.map (·.2))[i]?=Z k->GdV W.ks k u
theorem Wd.Args.ok(pg:Prog W.ks W.fs)(h:W.Args f fn vs):lF W 0 (W.a0 f fn vs):=(pg.begin h.g h.l h.s,trivial,mW _)
theorem Wd.Args.all{W:Wd}(h:W.Args f fn vs):T.ims vs=O/\T.dv vs=true:=by
 let all:∀u∈vs,u.im=O/\u.pln=true:=λu g=>by
  let(i,hi,U):=zN g
  have:=h.s i vs[i] ((fn.1.2.1.map (·.2))[i]'(by rw[dz,<- h.l];exact hi)) (eO hi) (eO _)
  exact(this.im,this.pln)
 exact(cw λu h=>(all u h).1,gb λu h=>(all u h).2)
theorem Wd.Args.pl{W:Wd}(pg:Prog W.ks W.fs)(h:W.Args f fn vs):(toW fn).prs.length<=100:=by
 let(p1,_):=pg.pk fn (pA h.g);unfold toW;rw[dz]
 lia
theorem Wd.wk0{x:J}:WkS W (W.a0 f fn vs) c CW CF x0 0 (wT CW x0 (.t ((ez W.fs).map WF.t)) [fT CF x (f:Nat) 0 (toW fn).b ((toW fn).names vs)] c 0 .n):=([],x,.nil,by rw[Wd.sm,VT];rfl)
theorem Wd.lw0{ws:List (Key×V)}:LwS W (W.a0 f fn vs) c 0 (stT [frL (f:Nat) 0 o ws ((toW fn).names vs)] c 0 .n):=([],o,ws,.nil,by rw[Wd.sm,VT];rfl)
theorem xt{xs:List Int}{i:Int}(h0:0<=i)(h1:i<xs.length):∃x,atI (xs.map L2.T.i) i=Z (.i x)/\x∈xs:=by
 let(v,e,hm):=Br (xs:=xs.map L2.T.i) h0 (by simpa using h1)
 let(x,hx,U):=ui.mp hm;exact(x,e,hx)
variable{fm:Int}{M:Nat}{q:Nat}{w0:Str}{w1:Str}{w2:Str}{w3:Str}{w4:Str}
section
variable{P:Da}{w:Cl}{K:BT}{mg:Str->Option B}{base:Do}{a:Adr}
theorem fi(T:Txt K mg a):a8 P w K mg base CX0 1 a.xh a.II ["_law_deal_here","_law_many"] FD:=by
 refine T.aY.F.ok pJ (λvs H Q E h=>?_) (λcdv A outer s H vs Q E hr h=>?_)
 ·let(d,l,m,U,_):=h;rfl
 ·let(d,l,m,U,(s0,n0,aE,D0),m0,m1,k):=h;let q:=cD hr;refine(_,((cp (qY PassesOwn.never (PW.pt (AE (l5 NL (iO q (pv 0) dJ (λ_ _=>rfl)) bG (bH _)) (v5 (l5 Cp (rE mM (by rfl) T.cE PySem.boot_len (bL (iO q (pv 0) dJ (λ_ _=>rfl)) eu)) bG (bH _)))))
 (iL (ke q (pv 0) dJ (AV PySem.F.plainAttrs_list PySem.F.slot_list_pop PySem.F.type_list_pop A2 (iO q (pv 0) dJ (λ_ _=>rfl))) U)))
 (cp (iM (i:=2) pJ.nd U (Or.inl U) (iO q (pv 0) dJ (λ_ _=>rfl)))
 (cp (NH (l5 Cp (pv 2) bG (bH _))
 (cp (ke q (pv 0) dJ (cJ yH (pv 2) (pv 1)) U)
 (iL (nC (cJ iP (pv 2) (pv 1)))))
 Ci)
 (cp (iM (i:=3) pJ.nd U (Or.inl U) (cJ iP (cJ nI (cJ kZ (iO q (pv 0) dJ (λ_ _=>rfl)) bG) bG) bG))
 (cp (ke q (pv 0) dJ (cJ iP (cJ nI (cJ kZ (pv 3) bG) bG) bG) U)
 (cp (iM (i:=4) pJ.nd U (Or.inl U) (cJ iP (cJ kZ (iO q (pv 0) dJ (λ_ _=>rfl)) (iO q (pv 0) dJ (λ_ _=>rfl))) bG))
 (iL (nC (cJ iP (cJ nI (cJ kZ (cJ iP (cJ kZ (pv 3) (pv 3)) bG) bG) (pv 4)) (pv 1))))))))))),?_)
  refine Dz (λc σ H1=>∃s n ls,σ=[Z (.ref d),Z (.int m),Y,Y,Y]/\cW H1 d l s n ls/\Kp d l H H1/\c=ls.length) (s0,n0,aE,U,D0,Kp.refl,U) ?_ ?_
  ·rintro c σ H1 ⟨s1,n1,ls,rfl,D,K1,rfl⟩
   refine(_,U,d,_,U,D.Tj,?_);refine(_,U,_,_,U,U,_,U,?_);refine bE (λh1=>?_) (λh1=>?_)
   ·let h1:0<n1:=of_decide_eq_true h1;let q0:0<=n1 / m:=Int.ediv_nonneg (by lia) (by lia)
    refine(_,U,_,U,_,_,U,U,(m0,m1),_,U,d,_,U,D.So,?_);refine(_,U,_,U,_,_,U,U,m0,?_);exact k _ _ (mod_lt m0).1 (mod_lt m0).2 (_,_,_,D.num q0) K1.Ob
   ·refine(_,U,d,_,U,D.Il,_,_,U,U,.inr (by decide,by decide),_,_,U,U,_,_,U,U,(by show(0:Int)<2147483647;decide),?_)
    let b2:=mod_lt (x:=(s1*48271+7919) % 2147483647*40692+104729) (m:=2147483399) (by decide)
    refine(_,U,_,_,U,U,.inr (by decide,by decide),_,_,U,U,_,_,U,U,(by show(0:Int)<2147483399;decide),_,U,d,_,U,D.Sm,?_)
    let z:=D.Ub (m:=((s1*48271+7919) % 2147483647*40692+104729) % 2147483399) b2.1 (by lia)
    refine(_,U,d,_,U,z.Il,_,U,d,_,U,z.Il,_,_,U,U,.inl (by lia,by lia),_,_,U,U,(by show(0:Int)<2147483563;decide),?_)
    refine(_,U,_,U,_,_,U,U,.inl (by lia,by lia),_,_,U,U,(by show(0:Int)<2147483629;decide),_,_,U,U,.inr (by decide,by decide),_,U,_,_,U,U,_,U,_,_,U,U,m0,?_)
    exact k _ _ (mod_lt m0).1 (mod_lt m0).2 (_,_,_,z) K1.Ob
  ·rintro c σ H1 ⟨s1,n1,ls,rfl,D,K1,rfl⟩ hx
   refine(_,U,d,_,U,D.Tj,U,_,U,?_);refine bE (λh1=>?_) (λh1=>hx)
   refine(_,U,d,_,U,D.NU,l,_,U,.inl (SqL.of D.hl),_,_,U,U,_,U,?_);refine bE (λh2=>?_) (λh2=>hx)
   obtain rfl |⟨ls',x,rfl⟩:=Xm ls
   ·simp at h2
   ·let aD:H1 l=Z (.lst (ls'.map V.int ++ [.int x])):=by simpa using D.hl
    refine(λav H'=>∃s n g,av=[Z (.ref d),Z (.int m),Y,Y,Y]/\cW H' d l s n g/\Kp d l H H'/\g.length<(ls' ++ [x]).length,λav H' (s2,n2,g,e,z,K2,h)=>(g.length,by simpa using h,s2,n2,g,e,z,K2,U),?_)
    let x0:0<=x:=D.l0 x (by simp)
    let z:=D.list (ls':=ls') λy hy=>D.l0 y (by simp[hy])
    refine(_,U,d,_,U,D.NU,.inl (U,_,SqL.of aD),l,_,.int x,U,U,aD,(by simp),?_)
    rw[WJ];refine(_,U,d,_,U,z.So,?_);exact(_,_,ls',U,z.num x0,(K1.T7).Ob,by simp)
theorem L5(T:Txt K mg a):a8 P w K mg base CX0 1 a.xi a.IJ ["_law_script","_law_base"] (Om K):=by
 refine T.xO.F.ok lQ (λvs H Q E h=>?_) (λcdv A outer s H vs Q E hr h=>?_)
 ·let(a,ns,b,U,_):=h;rfl
 ·let(p0,ns,b,U,hS,hlen,b0,b1,k):=h;let hu:=cD hr;refine(_,((cp (Cj (i:=2) lQ.nd U (Or.inl U) U (pN (yB BX (pv 0) (wc (pv 1)) (wc bG))) (N':=["_law_cell"]) (.own U .nil) (λ_ _ _ _ _=>((mf (i:=0) (show(["_law_cell"]:List Str).Nodup from by decide +kernel) U (Or.inl U)),Cg,(rE (fX U) (by rfl) T.sD (by kernel_rfl) (bL (pv 0) (bL (cJ AW bG (pv 0)) eu))))))
 (cp (iM (i:=3) lQ.nd U (Or.inl U) (cJ nI bG (pv 1)))
 (cp (GR PassesOwn.never U (pN (pv 2)) (mf (i:=4) lQ.nd U (Or.inl U))
 (iL (iM (i:=3) lQ.nd U (Or.inl U) (cJ iP (cJ nI (cJ kZ (pv 3) bG) (cJ iP (pv 4) bG)) bG))))
 (iL (nC (Cn (l6 dJ (pv 3) (l6 dJ bG (l6 dJ (rC U U T.sE U T.lj (Co U (pN (pv 2)) (N':=["_law_cell"]) (.own U .nil) (λ_ _ _ _ _=>((mf (i:=0) (show(["_law_cell"]:List Str).Nodup from by decide +kernel) U (Or.inl U)),(Ce (l5 Sz (pv 0) (cJ Ho bG bG) (bH _))),(pv 0))))) Ck))) U U (by intro z;cases z) (by decide)))))))),?_)
  let(cs,aQ,lcs):=IP ns (Z b) (Z 63);refine(_,U,_,U,_,U,_,U,p0,_,U,hS,λp hp=>(p,U,(_,SqL.of ax),?_))
  rw[aQ];let s1:lu H (upd H p (.lst (cs.map V.int))):=(lu.refl H).new hp;refine uZ (K:=K) (a:=p) (xs:=cs.map V.int) (λi ys g H'=>∃zs:List Int,ys=zs.map V.int/\(∀z∈zs,0<=z)/\zs.length=i/\(∃o,g=[o])/\H'=upd H p (.lst (cs.map V.int))) ([],U,by simp,U,(_,U),U) ?_ ?_ ?_
  ·rintro i ys g H' hi ⟨zs,rfl,_,hz,_,rfl⟩
   refine(SqL.of ax,?_);rw[dz]at hi ⊢;exact aF (by lia)
  ·rintro i x ys g H' hi ⟨zs,rfl,z0,hz,⟨o,rfl⟩,rfl⟩
   let(c,U):=int_at hi;refine MM ?_;refine(_,U,_,U,_,_,U,U,_,_,U,?_);refine(zs ++ [if 0 - c > c then 0 - c else c],by simp,?_,by simp[hz],(_,U),U)
   intro z av;obtain h|h:=p7.mp av
   ·exact z0 z h
   ·rw[ej.mp h]
    split <;> lia
  ·rintro ys g H' ⟨zs,rfl,z0,hz,_,rfl⟩ D hD
   let s2:lu H (upd (upd H p (.lst (cs.map V.int))) D (.lst (zs.map V.int))):=s1.new hD;let aD:(upd (upd H p (.lst (cs.map V.int))) D (.lst (zs.map V.int))) D=Z (.lst (zs.map V.int)):=ax
   generalize upd (upd H p (.lst (cs.map V.int))) D (.lst (zs.map V.int))=H2 at s2 aD ⊢
   refine(_,U,_,_,U,U,?_);refine(_,U,D,U,(_,SqL.of aD),Iu (K:=K) (a:=D) (xs:=zs.map V.int) (λi g H'=>∃(n:Int)(o:Option V),g=[Z (.ref p0),Z (.int b),Z (.ref D),Z (.int n),o]/\0<=n/\n<2147483647/\H2=H')
    (_,_,U,by lia,by lia,U) (λi g H' _ (_,_,_,_,_,e)=>by rw[<- e];exact SqL.of aD) ?_ ?_)
   ·rintro i y g H' hi ⟨n,o,rfl,n0,n1,rfl⟩
    let(z,U):=int_at hi;refine(_,U,_,_,U,U,.inr (by decide,by decide),_,U,_,_,U,U,(by show(0:Int)<2147483629;decide),_,_,U,U,_,_,U,U,(by show(0:Int)<2147483647;decide),?_)
    exact(_,_,U,(mod_lt (by decide)).1,(mod_lt (by decide)).2,U)
   ·rintro g H' ⟨n,o,rfl,n0,aM,rfl⟩
    intro pd aE;let Qe:(upd H2 pd (.dK [])) D=Z (.lst (zs.map V.int)):=by rw[ak (bj aD aE)];exact aD
    let s3:lu H (upd H2 pd (.dK [])):=s2.new aE;let P8:(upd H2 pd (.dK [])) pd=Z (.dK []):=ax;let aI:H pd=none:=s2.free aE
    generalize upd H2 pd (.dK [])=H3 at Qe s3 P8 ⊢
    refine(_,U,_,U,D,U,(_,SqL.of Qe),uZ (K:=K) (a:=D) (xs:=zs.map V.int) (λi ys g H'=>∃ws:List Int,ys=ws.map V.int/\(∀z∈ws,0<=z)/\ws.length<=i/\(∃o,g=[o])/\H3=H') ([],U,by simp,mW _,(_,U),U) ?_ ?_ ?_)
    ·rintro i ys g H' hi ⟨ws,rfl,_,av,_,rfl⟩
     refine(SqL.of Qe,?_);rw[dz]at hi ⊢;rw[dz]at hz;exact aF (by lia)
    ·rintro i x ys g H' hi ⟨ws,rfl,w0,av,⟨o,rfl⟩,rfl⟩
     let(c,U,hc):=ME hi;refine(_,U,_,_,U,U,(by decide,by decide,by decide),_,_,U,U,_,U,?_)
     refine bE (λh1=>?_) (λh1=>?_)
     ·refine(_,U,ws ++ [c],by simp,?_,by simp;lia,(_,U),U)
      intro z av;obtain h|h:=p7.mp av
      ·exact w0 z h
      ·rw[ej.mp h];exact z0 c hc
     ·exact(ws,U,w0,by lia,(_,U),U)
    ·rintro ys g H' ⟨ws,rfl,w0,av,_,rfl⟩ D2 aH
     refine(D2,_,U,SqL.of ax,λq hq=>?_)
     let n1:pd≠D2:=bj P8 aH;let e1:(upd H3 D2 (.lst (ws.map V.int))) pd=Z (.dK []):=by rw[ak n1];exact P8
     let n2:pd≠q:=bj e1 hq;let s4:lu H (upd (upd H3 D2 (.lst (ws.map V.int))) q (.lst ((ws.map V.int).reverse))):=(s3.new aH).new hq;refine(by rw[ak n2];exact e1,[(.inr "seed",.int n),(.inr "number",.int 0),(.inr "left",.ref q)],U,(by show 3<=15;decide),?_)
     refine k pd q _ aI ((s3.new aH).free hq) (n,0,ws.reverse,ax,?_,n0,aM,E6 _,?_) ?_
     ·rw[ak n2.symm,ax,List.map_reverse]
     ·intro x hx;exact w0 x (by simpa using hx)
     ·intro c o hc
      have:c≠pd:=bj hc aI
      rw[ak this];exact s4 c o hc
theorem yI(T:Txt K mg a):a8 P w K mg base CX0 2 a.pS a.CS ["_law_deal_here","_law_many"] (spQ K La):=by
 let aI:=gY (@fi P w K mg base a T);refine T.xI.F.okQ ck (λts Q h=>?_) (λ_ _ _ _ _ _ hr=>?_)
 ·let(m,U,_):=h;rfl
 ·let hu:=cD hr;refine(_,_,((ag (aB 2 ck.nd az)
 (ag (aB 3 ck.nd (KU (QPF.w az) (QPF.w (b9 U (nq U T.fQ (ae (QPF.w (aX aI hr T.aY (ae (qv 0) (ae ah aw)))) aw)) (N':=["_law_k","_law_letters","_law_deal_here"]) (.own U (.got (i:=2) U U (.inl U) (.got (i:=0) U U (.inl U) .nil))) (bX (g:=(Tg.nm 0)) (λ_ _ _ _ _=>((eh 0),(QPE.f (au (qv 1) (QPF.w (aX aI hr T.aY (ae (qv 2) (ae ah aw)))))))))))))
 (ag (aB 4 ck.nd (aX aI hr T.aY (ae (qv 0) (ae (QPF.w (aO (QPF.w (bN T.cE (ae (qv 3) aw))) ah)) aw))))
 (ag (aB 5 ck.nd (aX aI hr T.aY (ae (qv 0) (ae ah aw))))
 (ag (aB 6 ck.nd (aG aj))
 (ag (cg (g:=(Tg.nm 7)) PassesOwn.never U (fW U T.fQ (ae (qv 1) aw)) (bo 7 ck.nd)
 (ag (aB 8 ck.nd (QPE.f (au (qv 2) (QPF.w (Gy (QPF.w (aO (qv 5) (QPF.w (nB ah (qv 7))))) ah)))))
 (ag (aB 9 ck.nd (aO (QPF.w (aO (QPF.w (aO (QPF.w (aO (QPF.w (f7 (qv 3) iK (iJ (qv 4)))) (qv 8))) (QPF.w (f7 (qv 3) (iJ (qv 4)) iK)))) (QPF.w (nB (QPF.w az) (QPF.w (Gy (qv 7) ah)))))) (QPF.w (nB (QPF.w az) (QPF.w (Cb (qv 7) ah))))))
 (ag (bc (bW (Hr U) Af U (qv 9) (QPF.w (ar (gE (by rfl)))))
 (ai (aB 9 ck.nd (aO (qv 9) (QPF.w az))))
 aW)
 (ag (bc (bW (Hr U) Af U (qv 9) (QPF.w (ar (gE (by rfl)))))
 (ai (aB 9 ck.nd (aO (qv 9) (QPF.w az))))
 aW)
 (ai (cj (i:=6) (pv 6) (QPE.f (qv 9)))))))))
 (ag (aB 10 ck.nd (aG (gE (by rfl))))
 (ag (aB 10 ck.nd (aO (qv 10) (QPF.w (aG (gE (by rfl))))))
 (ag (aB 9 ck.nd (QPE.f (au (qv 10) (QPF.w (aX aI hr T.aY (ae (qv 0) (ae ah aw)))))))
 (ag (bc (QPW.pt (kU (bV hu (QPF.w (aX aI hr T.aY (ae (qv 0) (ae ah aw)))) ah) (iH (bW (Eb U) Af U (qv 9) (qv 6)))))
 (ai (Kv (i:=6) (pv 6) (QPF.w (aX aI hr T.aY (ae (qv 0) (ae (qv 1) aw)))) (qv 9)))
 aW)
 (ai (ka (i:=6) (pv 6)))))))))))))),λts Q h=>?_)
  let(m,U,m0,m1,hq):=h;refine(by decide,by decide,λn n0 n1=>(by lia,by lia,aF (by rw[d3];lia),λi ys=>∃cs:List Nat,ys=cs.map (λc=>.s ⟨#[c]⟩)/\cs.length=i,([],U,U),?_,?_))
  ·rintro i x ys hx ⟨cs,rfl,hc⟩
   let(U,hi):=jB hx;refine(_,U,by decide,by decide,λr r0 r1=>(by decide +kernel,_,Cu r0 r1,U,?_))
   exact(cs ++ [rN r.toNat],by simp,by simp[hc])
  ·rintro ys ⟨cs,rfl,hc⟩
   rw[d3]at hc;let e2:((cs.map (λc=>(⟨#[c]⟩:Str))).map (·.length)).sum=cs.length:=by
    clear hc
    induction cs with
    |nil=>rfl
    |cons c cs ih=>simp only[xG,VB,rl,ih,show(⟨#[c]⟩:Str).length=1 from rfl];lia
   refine(cs.map (λc=>(⟨#[c]⟩:Str)),?_,?_,?_)
   ·rw[<- JK,Jg];rfl
   ·rw[e2,show(Str.ofString "").length=0 from by decide +kernel];lia
   let z:=PySem.size_glued (Str.ofString "") (cs.map (λc=>(⟨#[c]⟩:Str)))
   rw[e2,show(Str.ofString "").length=0 from by decide +kernel]at z
   let lz:(Txt.join (Str.ofString "") (cs.map (λc=>(⟨#[c]⟩:Str)))).length<=5:=by
    show(Builtin.Str.glued _ _).length<=5
    lia
   generalize Txt.join (Str.ofString "") (cs.map (λc=>(⟨#[c]⟩:Str)))=core at lz ⊢
   refine(bQ (by lia),by lia,by lia,λat_ a0 a1=>(by decide,by decide,λtn t0 t1=>?_))
   let aE:(Txt.slice core Y (Z at_)).length<=5:=u4 (Txt.slice_le _ _ _) lz;let aD:(Txt.slice core (Z at_) Y).length<=5:=u4 (Txt.slice_le _ _ _) lz;let lx:(Str.ofString "x").length=1:=by decide +kernel
   let ly:(Str.ofString "y").length=1:=by decide +kernel
   let lq:(Str.ofString "q").length=1:=by decide +kernel
   refine(by lia,by lia,λi q=>(Q4 λo7 o8 o9 L=>q=[.r .cY,.r (.i m),.o (.s wO),.o (.s core),.o (.i at_),.o (.i tn),.o (.l L),o7,o8,o9,.no]/\L=((E3 i).map (wordOf kept (Txt.slice core Y (Z at_)) (Txt.slice core (Z at_) Y) tn.toNat)).map .s),(_,_,_,_,U,U),?_,?_)
   ·rintro i x q hx ⟨o7,o8,o9,L,rfl,rfl⟩
    let(U,hi):=jB hx;let hi:i<52:=by lia
    let e1:∀c:Nat,(⟨#[c]⟩:Str).length=1:=λ_=>rfl
    let eL:rN (((tn+7*(0+(i:Int))) % 26).toNat)=rN (tn.toNat+7*i):=by
     let ht:tn+7*(0+(i:Int))=((tn.toNat+7*i:Nat):Int):=by rw[Wh,Int.natCast_add,Xh,QU t0];rfl
     rw[ht];show 97+(tn.toNat+7*i) % 26 % 26=97+(tn.toNat+7*i) % 26;rw[Nat.mod_mod]
    let r1:=ik "x" ((0+(i:Int)) % 2).toNat;let r2:=ik "y" ((0+(i:Int)) / 26).toNat
    replace r1:(jk "x" ((0+(i:Int)) % 2).toNat).length<=1:=by rw[r1,lx,Wh];exact(show i % 2*1<=1 from by rw[Nat.mul_one];exact WA (XC i (by decide)))
    replace r2:(jk "y" ((0+(i:Int)) / 26).toNat).length<=1:=by rw[r2,ly,Wh];exact(show i / 26*1<=1 from by rw[Nat.mul_one];exact WA (Nat.div_lt_of_lt_mul hi))
    refine(_,U,.inl (by lia,by lia),(by show(0:Int)<26;decide),(by decide +kernel),_,Cu (mod_lt (by decide)).1 (mod_lt (by decide)).2,U,?_)
    refine(bQ (by lia),bQ (by rw[e1];lia),bQ (by lia),bQ (by rw[Str.length_append,e1];lia),(by show(0:Int)<2;decide),by lia,by lia,by lia,bQ (by rw[Str.length_append,Str.length_append,e1];lia),(by decide,by decide),by lia,by lia,by lia,bQ (by rw[Str.length_append,Str.length_append,Str.length_append,e1];lia),?_)
    let eW:Txt.slice core Y (Z at_)++⟨#[rN (((tn+7*(0+(i:Int))) % 26).toNat)]⟩++Txt.slice core (Z at_) Y++jk "x" ((0+(i:Int)) % 2).toNat++jk "y" ((0+(i:Int)) / 26).toNat=dm (Txt.slice core Y (Z at_)) (Txt.slice core (Z at_) Y) tn.toNat i:=by
     unfold dm;rw[eL,show((0+(i:Int)) % 2).toNat=i % 2 from by rw[Wh];rfl,show((0+(i:Int)) / 26).toNat=i / 26 from by rw[Wh];rfl]
    let lW:=ve (Txt.slice core Y (Z at_)) (Txt.slice core (Z at_) Y) tn.toNat i;rw[eW];let snoc:∀z:Str,z=wordOf kept (Txt.slice core Y (Z at_)) (Txt.slice core (Z at_) Y) tn.toNat i ->
      ((E3 i).map (wordOf kept (Txt.slice core Y (Z at_)) (Txt.slice core (Z at_) Y) tn.toNat)).map L2.T.s ++ [L2.T.s z]=((E3 (i+1)).map (wordOf kept (Txt.slice core Y (Z at_)) (Txt.slice core (Z at_) Y) tn.toNat)).map L2.T.s:=λz hz=>by
     subst hz;rw[List.range_succ];simp
    let ln:(((E3 i).map (wordOf kept (Txt.slice core Y (Z at_)) (Txt.slice core (Z at_) Y) tn.toNat)).map L2.T.s).length<mV:=aF (by simp;lia)
    refine(by rfl,bE (λg1=>?_) (λg1=>?_))
    ·let g1:inV (.str (dm (Txt.slice core Y (Z at_)) (Txt.slice core (Z at_) Y) tn.toNat i)) (y9.map V.str)=true:=by rw[<- ip];exact g1
     refine(bQ (by rw[lq];lia),by rfl,bE (λg2=>?_) (λ_=>?_))
     ·let g2:inT (.s (dm (Txt.slice core Y (Z at_)) (Txt.slice core (Z at_) Y) tn.toNat i++("q":Str))) (kL.map L2.T.s)=true:=g2;rw[ip,Pp]at g2;cases g2
     exact(ln,U,_,_,_,_,U,snoc (dm (Txt.slice core Y (Z at_)) (Txt.slice core (Z at_) Y) tn.toNat i++("q":Str)) (by unfold wordOf;rw[k7,g1,Bool.true_or,if_pos rfl]))
    ·let g1:inV (.str (dm (Txt.slice core Y (Z at_)) (Txt.slice core (Z at_) Y) tn.toNat i)) (y9.map V.str)=false:=by
      cases e:inV (.str (dm (Txt.slice core Y (Z at_)) (Txt.slice core (Z at_) Y) tn.toNat i)) (y9.map V.str)with
      |false=>rfl
      |true=>rw[<- ip]at e;exact absurd e g1
     refine(by rfl,bE (λg2=>?_) (λg2=>?_))
     ·let g2:inV (.str (dm (Txt.slice core Y (Z at_)) (Txt.slice core (Z at_) Y) tn.toNat i)) (kL.map V.str)=true:=by rw[<- ip];exact g2
      exact(bQ (by rw[lq];lia),ln,U,_,_,_,_,U,snoc (dm (Txt.slice core Y (Z at_)) (Txt.slice core (Z at_) Y) tn.toNat i++("q":Str)) (by unfold wordOf;rw[k7,g1,g2,Xw,if_pos rfl]))
     ·let g2:inV (.str (dm (Txt.slice core Y (Z at_)) (Txt.slice core (Z at_) Y) tn.toNat i)) (kL.map V.str)=false:=by
       cases e:inV (.str (dm (Txt.slice core Y (Z at_)) (Txt.slice core (Z at_) Y) tn.toNat i)) (kL.map V.str)with
       |false=>rfl
       |true=>rw[<- ip]at e;exact absurd e g2
      exact(ln,U,_,_,_,_,U,snoc (dm (Txt.slice core Y (Z at_)) (Txt.slice core (Z at_) Y) tn.toNat i) (by unfold wordOf;rw[k7,g1,g2,Xw,if_neg (by decide),Str.append_empty]))
   ·rintro q ⟨o7,o8,o9,L,rfl,rfl⟩
    rw[d3];let nd:((E3 m.toNat).map (wordOf kept (Txt.slice core Y (Z at_)) (Txt.slice core (Z at_) Y) tn.toNat)).Nodup:=nodup_range λi j hi hj aM=>Dy (by lia) (by lia) aM
    let wl:∀w∈(E3 m.toNat).map (wordOf kept (Txt.slice core Y (Z at_)) (Txt.slice core (Z at_) Y) tn.toNat),1<=w.length/\w.length<=20:=λw hw=>by
     let(i,hi,U):=ui.mp hw;exact zW aE aD (by have:=V7.mp hi;lia)
    let ll:((E3 m.toNat).map (wordOf kept (Txt.slice core Y (Z at_)) (Txt.slice core (Z at_) Y) tn.toNat)).length=m.toNat:=by simp
    generalize(E3 m.toNat).map (wordOf kept (Txt.slice core Y (Z at_)) (Txt.slice core (Z at_) Y) tn.toNat)=ws at nd wl ll
    refine(bQ (by decide),by rfl,by rfl,by decide,by decide,λr r0 r1=>?_)
    let(wd,ew,hm):=MZ (ws:=near) r0 r1;refine(_,ew,U,by decide,by decide,λr3 _ _=>(U,?_))
    let done:Q (.l (ws.map .s)):=hq ws (by lia) nd wl
    refine bE (λ_=>?_) (λ_=>UM done)
    refine(by rw[zf];rfl,bE (λh2=>?_) (λ_=>done))
    let aH:wd ∉ ws:=MF (by rw[<- ip];simpa using h2)
    refine(m0,by lia,λr4 av aQ=>(r4.toNat,?_,bu ws,U,?_))
    ·unfold ixN;rw[if_pos av,if_pos (by rw[dz];lia)]
    ·let z:=hq (ws.set r4.toNat wd) (by rw[QX];lia) (Ek nd aH) λw hw=>by
      obtain z|z:=W2 hw
      ·exact wl w z
      ·rw[z];exact HD wd hm
     rw[List.map_set]at z;exact z
theorem Hx(T:Txt K mg a):a8 P w K mg base CX0 2 a.pW a.CY ["_law_deal_here","_law_words_here"] (spQ K Lg):=by
 let aI:=gY (@fi P w K mg base a T);refine T.Du.F.okQ cB (λts Q h=>?_) (λ_ _ _ _ _ _ hr=>?_)
 ·let(ws,U,_):=h;rfl
 ·let hu:=cD hr;refine(_,_,((ag (aB 2 cB.nd (aX aI hr T.aY (ae (qv 0) (ae ah aw))))
 (ag (OH (i:=3) (j:=4) U cB.nd U U (by decide) U U (au (qv 1) ah) (au (qv 1) ah) U)
 (ag (aB 5 cB.nd (aO (QPF.w (f7 (qv 1) (iJ ah) iK)) (QPF.w (f7 (qv 1) iK (iJ ah)))))
 (ag (bc (bV hu (qv 2) ah)
 (ai (aV (ar (af (ar (af (QPE.f (qv 3)) (af (ar (af (ar (af (QPE.f (au (qv 5) ah)) (af (ar aj) aj))) (af (ar (af (QPE.f (au (qv 5) ah)) (af (ar (af (QPE.f (qv 3)) aj)) aj))) aj))) aj))) aj))))
 aW)
 (ag (bc (bV hu (qv 2) ah)
 (ai (aV (ar (af (ar (af (QPE.f (qv 3)) (af (ar (af (ar (af (QPE.f (au (qv 5) ah)) (af (ar aj) aj))) (af (ar (af (QPE.f (au (qv 5) ah)) (af (ar (af (QPE.f (qv 3)) aj)) aj))) (af (ar (af (QPE.f (au (qv 5) ah)) (af (ar (af (QPE.f (qv 3)) aj)) aj))) aj)))) aj))) aj))))
 aW)
 (ag (bc (bV hu (qv 2) ah)
 (ai (aV (ar (af (ar (af (QPE.f (qv 3)) (af (ar (af (ar (af (QPE.f (au (qv 5) ah)) (af (ar aj) aj))) (af (ar (af (QPE.f (au (qv 5) ah)) (af (ar aj) aj))) aj))) aj))) (af (ar (af (QPE.f (qv 4)) (af (ar (af (ar (af (QPE.f (au (qv 5) ah)) (af (ar aj) aj))) (af (ar (af (QPE.f (au (qv 5) ah)) (af (ar (af (QPE.f (qv 3)) (af (QPE.f (qv 4)) aj))) aj))) aj))) aj))) aj)))))
 aW)
 (ag (bc (bV hu (qv 2) ah)
 (ai (aV (ar (af (ar (af (QPE.f (qv 3)) (af (ar (af (ar (af (QPE.f (au (qv 5) ah)) (af (ar aj) aj))) (af (ar (af (QPE.f (au (qv 5) ah)) (af (ar (af (QPE.f (qv 3)) (af (QPE.f (qv 3)) aj))) aj))) aj))) aj))) aj))))
 aW)
 (ag (bc (bV hu (qv 2) ah)
 (ai (aV (ar (af (ar (af (QPE.f (qv 3)) (af (ar (af (ar (af (QPE.f (au (qv 5) ah)) (af (ar aj) aj))) (af (ar (af (QPE.f (au (qv 5) ah)) (af (ar (af (QPE.f (qv 4)) aj)) aj))) aj))) aj))) (af (ar (af (QPE.f (qv 4)) (af (ar (af (ar (af (QPE.f (au (qv 5) ah)) (af (ar (af (QPE.f (qv 3)) aj)) aj))) aj)) aj))) aj)))))
 aW)
 (ag (aB 6 cB.nd (aG aj))
 (ag (aB 7 cB.nd (aO ah (QPF.w (aX aI hr T.aY (ae (qv 0) (ae ah aw))))))
 (ag (aB 8 cB.nd bO)
 (ag (cg (g:=(Tg.nm 9)) PassesOwn.never U (fW U T.fQ (ae (qv 7) aw)) (bo 9 cB.nd)
 (ag (aB 10 cB.nd (aG aj))
 (ag (cg (g:=(Tg.nm 11)) PassesOwn.never U (fW U T.fQ (ae (QPF.w (aO ah (QPF.w (aX aI hr T.aY (ae (qv 0) (ae (QPF.w (jC (aG (af bO (af bO aj))) (QPF.w (bh nW vz (by rfl) T.IV (by kernel_rfl) (ae (QPF.w (kW (wB hu U) pH (bH _) (qv 7) ah)) aw))))) aw)))))) aw)) (bo 11 cB.nd)
 (ag (aB 12 cB.nd (nB (QPF.w (aX aI hr T.aY (ae (qv 0) (ae (QPF.w (jC (aG (af bO (af bO (af bO aj)))) (QPF.w (aX aI hr T.aY (ae (qv 0) (ae ah aw)))))) aw)))) (QPF.w (bh nW vz (by rfl) T.IV (by kernel_rfl) (ae (QPF.w (kW Cp (qH (g':=λi j=>.b (decide (j<i))) λ_ _ _ _=>.b _) (bH _) (QPF.w (aO (qv 9) (qv 11))) ah)) aw)))))
 (ag (kb (i:=13) cB.nd U (Or.inl U) U (nq U T.fQ (ae (qv 12) aw)) (N':=["_law_i","_law_words_here","_law_deal_here","_law_many"]) (.own U (.got (i:=1) U U (.inl U) (.got (i:=0) U U (.inl U) (.got (i:=7) U U (.inl U) .nil)))) (bX (g:=(Tg.nm 0)) (λ_ _ _ _ _=>((eh 0),(QPE.f (au (qv 1) (QPF.w (aX aI hr T.aY (ae (qv 2) (ae (qv 3) aw))))))))))
 (ag (cj (i:=10) (pv 10) (ar (af (QPE.f (au (qv 5) (qv 8))) (af (bh (bT U) bS (by rfl) T.cU (by kernel_rfl) (ae (qv 13) aw)) aj))))
 (ai (aB 8 cB.nd (aO (qv 8) ah)))))))
 (ai (cj (i:=6) (pv 6) (ar (af (QPE.f (au (qv 1) (qv 9))) (af (bh (bT U) bS (by rfl) T.cU (by kernel_rfl) (ae (qv 10) aw)) aj))))))))
 (ai (aV (bh (bT U) bS (by rfl) T.cU (by kernel_rfl) (ae (qv 6) aw))))))))))))))))),λts Q h=>?_)
  let(ws,U,hl,aS,hq):=h;obtain⟨x0,V,wr,rfl⟩:∃x0 V wr,ws=x0::V::wr:=by
   cases ws with
   |nil=>cases hl
   |cons x0 r=>cases r with
    |nil=>cases hl
    |cons V wr=>exact(x0,V,wr,U)
  let bD:atI ((x0::V::wr).map L2.T.s) 0=Z (.s x0):=gp (j:=0) U;let bw:atI ((x0::V::wr).map L2.T.s) 1=Z (.s V):=gp (j:=1) U;refine(by decide,by decide,λfm f0 f1=>(_,bD,U,_,bw,U,bu _,bu _,?_))
  let hM:((x0::V::wr).drop 4++(x0::V::wr).take 4).Nodup:=DR aS;let lM:((x0::V::wr).drop 4++(x0::V::wr).take 4).length=40:=by rw[px,VX,zL];lia
  refine(bQ (by have:=congrArg VH (Tw hl);rw[px,dz]at this;lia),CB _ _ _,CB _ _ _,?_)
  rw[Tw hl];let aQ:∀x∈(x0::V::wr).drop 4++(x0::V::wr).take 4,x∈x0::V::wr:=λx hx=>(p7.mp hx).elim List.mem_of_mem_drop VP
  generalize(x0::V::wr).drop 4++(x0::V::wr).take 4=M at hM lM aQ
  obtain⟨m0,m1,m2,m3,mr,rfl⟩:∃m0 m1 m2 m3 mr,M=m0::m1::m2::m3::mr:=by
   match M,lM with
   |m0::m1::m2::m3::mr,_=>exact(m0,m1,m2,m3,mr,U)
  let t0:atI ((m0::m1::m2::m3::mr).map L2.T.s) 0=Z (.s m0):=gp (j:=0) U;let t1:atI ((m0::m1::m2::m3::mr).map L2.T.s) 1=Z (.s m1):=gp (j:=1) U;let t2:atI ((m0::m1::m2::m3::mr).map L2.T.s) 2=Z (.s m2):=gp (j:=2) U;let t3:atI ((m0::m1::m2::m3::mr).map L2.T.s) 3=Z (.s m3):=gp (j:=3) U;let bt:3 <=(x0::V::wr).length:=by lia
  let aH:∀(ks:List Kd)(n made:Nat),sL (x0::V::wr) (m0::m1::m2::m3::mr) n ks n made->1<=n->n<=3->Q (tKs ks):=λks n made D n1 n3=>hq ks (D.good aS hM n1 n3 bt) λx hx=>aQ x (VP (D.mn▸hx))
  let a1:x0∈(x0::V::wr).take 1:=g5;let a2:x0∈(x0::V::wr).take 2:=g5;let b2:V∈(x0::V::wr).take 2:=j0 _ g5;refine(U,bE (λ_=>?_) (λ_=>?_))
  ·refine(U,_,t0,U,_,t1,U,U,?_);exact aH [(x0,[(m0,[]),(m1,[x0])])] 1 2 (U,U,by decide,all1 (Ni _ _,leK 2 6),all1 (all2 (leK 0 4,Bt) (leK 1 4,all1 a1))) (by decide) (by decide)
  refine(U,bE (λ_=>?_) (λ_=>?_))
  ·refine(U,_,t0,U,_,t1,U,U,_,t2,U,U,?_);exact aH [(x0,[(m0,[]),(m1,[x0]),(m2,[x0])])] 1 3 (U,U,by decide,all1 (Ni _ _,leK 3 6),all1 (Vn (leK 0 4,Bt) (leK 1 4,all1 a1) (leK 1 4,all1 a1))) (by decide) (by decide)
  refine(U,bE (λ_=>?_) (λ_=>?_))
  ·refine(U,_,t0,U,_,t1,U,U,_,t2,U,_,t3,U,U,U,?_);exact aH [(x0,[(m0,[]),(m1,[])]),(V,[(m2,[]),(m3,[x0,V])])] 2 4 (U,U,by decide,all2 (Ni _ _,leK 2 6) (Ni _ _,leK 2 6),all2 (all2 (leK 0 4,Bt) (leK 0 4,Bt)) (all2 (leK 0 4,Bt) (leK 2 4,all2 a2 b2))) (by decide) (by decide)
  refine(U,bE (λ_=>?_) (λ_=>?_))
  ·refine(U,_,t0,U,_,t1,U,U,U,?_);exact aH [(x0,[(m0,[]),(m1,[x0,x0])])] 1 2 (U,U,by decide,all1 (Ni _ _,leK 2 6),all1 (all2 (leK 0 4,Bt) (leK 2 4,all2 a1 a1))) (by decide) (by decide)
  refine(U,bE (λ_=>?_) (λ_=>?_))
  ·refine(U,_,t0,U,_,t1,U,U,U,_,t2,U,U,?_);exact aH [(x0,[(m0,[]),(m1,[V])]),(V,[(m2,[x0])])] 2 3 (U,U,by decide,all2 (Ni _ _,leK 2 6) (Ni _ _,leK 1 6),all2 (all2 (leK 0 4,Bt) (leK 1 4,all1 b2)) (all1 (leK 1 4,all1 a2))) (by decide) (by decide)
  clear t0 t1 t2 t3 bD bw aH a1 a2 b2 bt
  generalize cV:m0::m1::m2::m3::mr=M at hM lM aQ ⊢
  generalize cT:x0::V::wr=ws at aS hl aQ hq ⊢
  refine(by decide,by decide,λr2 cM cL=>?_)
  refine(by lia,by lia,λi q=>Y8 λks made L o9 a3 aE aD av=>q=[.r .cY,.r (.l (ws.map .s)),.o (.i fm),.o (.s x0),.o (.s V),.o (.l (M.map .s)),.o (.l L),.o (.i (1+r2)),.o (.i (made:Nat)),o9,a3,aE,aD,av]/\L=ks.map tK/\sL ws M (1+r2).toNat ks i made,
   ([],0,_,_,_,_,_,_,U,U,(U,U,mW _,bY,bY)),?_,?_)
  ·rintro i x q hx ⟨ks,made,L,o9,a3,aE,aD,av,rfl,rfl,D⟩
   let(U,hi):=jB hx;let cz:=D.b1;let cN:ks.length=i:=by
    have:=congrArg VH D.nm
    rw[dz,zL,Xg (by omega)]at this
    exact this
   let a7:i<ws.length:=by lia
   refine(_,U,U,_,Ss 3 6 _,?_,?_,λr5 cK cb=>?_)
   ·split <;> decide
   ·split <;> decide
   let cI:r5<6:=by split at cb <;> lia
   refine(by lia,by lia,λj q=>Y6 λms gn L' aE aD av=>q=[.r .cY,.r (.l (ws.map .s)),.o (.i fm),.o (.s x0),.o (.s V),.o (.l (M.map .s)),.o (.l (ks.map tK)),.o (.i (1+r2)),.o (.i (gn:Nat)),.r (.i (0+(i:Nat))),.o (.l L'),aE,aD,av]/\L'=ms.map tM/\ms.length=j/\gn=made+j/\M.take made++ms.map (·.1)=M.take gn/\(∀m∈ms,m.2.length<=4/\∀f∈m.2,f∈ws.take (1+r2).toNat),
    ([],made,_,_,_,_,U,U,U,U,by simp,λ_ z=>nomatch z),?_,?_)
   ·rintro j x q hx ⟨ms,gn,L',aE,aD,av,rfl,rfl,aM,a6,a4,a5⟩
    let(U,hj):=jB hx;refine(_,U,by decide,by decide,λr6 b7 b6=>?_)
    let(v,ev,hv):=NJ (x:=3) (y:=3) (z:=5) b7 b6;refine(_,ev,by lia,by lia,λr7 cG cE=>?_)
    refine(.inl (by lia,by lia),?_)
    let cc:∀b:Bool,0<=r7*(if b=O then 1 else 0)/\r7*(if b=O then 1 else 0)<=4:=λb=>by cases b <;> simp <;> lia
    let(w0,w4):=cc (decide (0<0+(i:Int)+(0+(j:Int))));refine(by lia,by lia,aF (by rw[d3];lia),λp ys=>∃fs:List Str,ys=fs.map .s/\fs.length=p/\∀f∈fs,f∈ws.take (1+r2).toNat,([],U,U,λ_ z=>nomatch z),?_,?_)
    ·rintro p x ys hx ⟨fs,rfl,lf,hf⟩
     let(U,hp):=jB hx;refine(_,U,by lia,by lia,λr8 b0 bP=>?_)
     let h8:r8.toNat<ws.length:=by lia
     let e8:atI (ws.map L2.T.s) r8=Z (.s ws[r8.toNat]):=by
      have:=gp (ws:=ws) (j:=r8.toNat) (w:=ws[r8.toNat]) (by simp[h8])
      rwa [QU b0]at this
     refine(_,e8,U,fs ++ [ws[r8.toNat]],by simp,by simp[lf],λf cx=>?_)
     obtain h|h:=p7.mp cx
     ·exact hf f h
     ·rw[ej.mp h];exact List.mem_take_iff_getElem.mpr (r8.toNat,X7.mpr ((Int.toNat_lt_toNat (by omega)).mpr bP,h8),U)
    ·rintro ys ⟨fs,rfl,lf,hf⟩
     rw[d3]at lf;let ct:i<=2:=WA (zI hi (XN.mpr (show 1+r2<=3 by omega)))
     let cq:j<=5:=WA (zI hj (XN.mpr (show 1+r5<=6 by omega)))
     let NS:gn<M.length:=by rw[a6,lM];exact Ws (Nat.add_le_add (u4 cz (Xt 6 ct)) cq) (by decide)
     let em:atI (M.map L2.T.s) ((gn:Nat):Int)=Z (.s M[gn]):=gp (by simp[NS])
     refine(aF (by rw[dz];lia),_,em,U,bu _,?_)
     refine(ms ++ [(M[gn],fs)],gn+1,_,_,_,_,U,by simp[tM],by simp[aM],by lia,?_,λm hm=>?_)
     ·rw[zJ,<- Nj,a4];exact take_one (by simp[NS])
     ·obtain h|h:=p7.mp hm
      ·exact a5 m h
      ·rw[ej.mp h];exact(by show fs.length<=4;lia,hf)
   ·rintro q ⟨ms,gn,L',aE,aD,av,rfl,rfl,aM,a6,a4,a5⟩
    rw[d3]at aM a6;let ei:atI (ws.map L2.T.s) (0+((i:Nat):Int))=Z (.s ws[i]):=by rw[Wh];exact gp (by simp[a7])
    refine(aF (by rw[dz];lia),_,ei,U,bC CG _,?_)
    refine(ks ++ [(ws[i],ms)],gn,_,_,_,_,_,_,U,by simp[tK,tMs],D.next (by simp[a7]) a4 (λz=>?_) (by lia) (by lia) a5)
    rw[z]at aM;simp at aM
    lia
  ·rintro q ⟨ks,made,L,o9,a3,aE,aD,av,rfl,rfl,D⟩
   rw[d3]at D;refine(bC uU _,?_);exact hq ks (D.good aS hM (by lia) (by lia) (by lia)) λx hx=>aQ x (VP (D.mn▸hx))
theorem Cr(T:Txt K mg a):a8 P w K mg base CX0 2 a.xg a.IH ["_law_deal_here","_law_scope","_law_some"] (spQ K AK):=by
 refine T.sU.F.okQ pI (λts Q h=>?_) (λ_ _ _ _ _ _ hr=>?_)
 ·let(sc,fs,t,_,U,_):=h;rfl
 ·let hu:=cD hr;refine(_,_,((ag (aB 3 pI.nd (aG aj))
 (ag (cg (g:=(Tg.nm 4)) PassesOwn.never U (OI (i:=2) (pv 2)) (bo 4 pI.nd)
 (ag (kb (i:=5) pI.nd U (Or.inl U) U (kc (qv 1)) (N':=["_law_name","_law_other","_law_kind"]) (.own U (.own U (.got (i:=4) U U (.inl U) .nil))) (OM (g:=(Tg.tp [0,1])) (λ_ _ _ _ _=>((ig (eh 0) (eh 1)),(bV hu (qv 1) (qv 2)),(QPE.f (qv 0))))))
 (ag (bc (bV hu (qv 5) (QPF.w (aG aj)))
 (ai (aV cS))
 aW)
 (ai (cj (i:=3) (pv 3) (QPE.f (au (qv 5) (QPF.w (cn (fX U) nc (by rfl) T.sD (by kernel_rfl) (ae (QPF.w (aX (gY (fi T)) hr T.aY (ae (qv 0) (ae (QPF.w (bN T.cE (ae (qv 5) aw))) aw)))) (ae (QPF.w (aX (gY (fi T)) hr T.aY (ae (qv 0) (ae (QPF.w (bN T.cE (ae (qv 5) aw))) aw)))) aw)))))))))))
 (ai (aV (bh (bT U) bS (by rfl) T.cU (by kernel_rfl) (ae (qv 3) aw))))))),λts Q h=>?_)
  let(sc,fs,t,ht,U,aM,aS,hn,hq):=h;obtain rfl|rfl:=ht
  all_goals
   refine(λi q=>Q4 λns o4 o5 L=>q=[.r .cY,.r (.l (sc.map tP)),.r _,.o (.l L),o4,o5]/\L=ns.map .s/\Fills sc ns (fs.take i),([],_,_,_,U,U,U,bY),?_,?_)
   ·rintro i x q hx ⟨ns,o4,o5,L,rfl,rfl,hF⟩
    rw[j5]at hx;let(f,hf,U):=j7.mp hx;let aQ:i<fs.length:=(j3.mp hf).1;refine(_,U,aF (by rw[dz];lia),λk ys=>∃os:List Str,ys=os.map .s/\os.length<=k/\∀n∈os,(n,f)∈sc,([],U,mW _,bY),?_,?_)
    ·rintro k x ys hx ⟨os,rfl,lo,ho⟩
     rw[j5]at hx;let(p,hp,U):=j7.mp hx;refine(_,U,U,bE (λe=>(U,os ++ [p.1],by simp,by simp;lia,λn hn=>?_)) (λ_=>(os,U,by lia,ho)))
     obtain h|h:=p7.mp hn
     ·exact ho n h
     ·rw[ej.mp h];let e':(L2.T.s p.2).v=(L2.T.s f).v:=by simpa using e
      let e2:p.2=f:=V.str.inj e';rw[<- e2];exact pA hp
    ·rintro ys ⟨os,rfl,lo,ho⟩
     rw[dz]at lo;refine(by rw[zf];rfl,bE (λ_=>hn) (λaE=>?_))
     let l0:0<os.length:=by
      cases os with
      |nil=>exact absurd U aE
      |cons _ _=>simp
     let ln:ns.length=i:=by rw[hF.1,zL];lia
     let av:((os.map L2.T.s).length:Int)=os.length:=by rw[dz]
     refine(aF (by rw[dz];lia),by rw[av];lia,by rw[av];lia,λr r0 r1=>(by rw[av];lia,by rw[av];lia,λr' aI aD=>?_))
     rw[av]at r1 aD;let hm:∃m:Int,(if r' > r then r' else r)=m/\0<=m/\m<os.length:=(_,U,by split <;> lia,by split <;> lia)
     let(m,em,m0,m1):=hm;let aH:m.toNat<os.length:=by lia
     refine(.s os[m.toNat],(by show atI (os.map L2.T.s) (if r' > r then r' else r)=_;rw[em];exact Qo m0 aH),U,ns ++ [os[m.toNat]],_,_,_,U,by simp,?_)
     rw[<- take_one hf];exact hF.snoc (ho _ (V9 _))
   ·rintro q ⟨ns,o4,o5,L,rfl,rfl,hF⟩
    rw[dz,uj]at hF;exact(bu _,hq ns hF)
theorem Hz(T:Txt K mg a):a8 P w K mg base CX0 3 a.pY a.C0 ["_law_deal_here","_law_world","_law_scope","_law_kind","_law_f"] (spQ K pM):=by
 refine T.xN.F.okQ du (λts Q h=>?_) (λ_ _ _ _ _ _ hr=>?_)
 ·let(ks,hs,ws,sc,f,h,U,_):=h;rfl
 ·let hu:=cD hr;refine(_,_,((ag (vU (g:=(Tg.tp [5,6,7])) (i:=1) (pv 1) (d9 (K:=K) (n:=3) U U (aL (bo 5 du.nd) (aL (bo 6 du.nd) (aL (bo 7 du.nd) d8)))))
 (ag (aB 8 du.nd (aX (Cr T) hr T.sU (ae (qv 0) (ae (qv 2) (ae (QPF.w (aG (af (QPE.f (qv 3)) aj))) aw)))))
 (ag (bc (bW pO lN (bH _) (qv 8) (QPF.w cS))
 (ai (aV (ar (af az (af (QPE.f (au (qv 8) ah)) aj)))))
 aW)
 (ag (aB 9 du.nd (QPE.f (au (qv 7) (QPF.w (bN T.cE (ae (qv 2) aw))))))
 (ag (cg (g:=(Tg.tp [10,11])) PassesOwn.never U (gU (QPE.f (bb (QPF.w (bh (i6 U) kP (by rfl) T.nY (by kernel_rfl) (ae (qv 5) aw))) (qv 3)))) (ig (bo 10 du.nd) (bo 11 du.nd))
 (ag (aB 12 du.nd (aX (Cr T) hr T.sU (ae (qv 0) (ae (qv 2) (ae (qv 11) aw)))))
 (ai (bc (bW pO lN (bH _) (qv 12) (QPF.w cS))
 (ai (aV (ar (af az (af (QPE.f (qv 9)) (af (QPE.f (qv 10)) (af (QPE.f (qv 12)) (af (ar (af az (af (QPE.f (qv 9)) aj))) aj))))))))
 aW))))
 (ag (aB 12 du.nd (bh (bT U) bS (by rfl) T.cU (by kernel_rfl) (ae (QPF.w (b9 U (kc (QPF.w (f7 (qv 2) iK (iJ (QPF.w (bN T.cE (ae (au (au (qv 6) (qv 4)) ah) aw))))))) (N':=["_law_name","_law_other"]) (.own U (.own U .nil)) (bX (g:=(Tg.tp [0,1])) (λ_ _ _ _ _=>((ig (eh 0) (eh 1)),(QPE.f (qv 0))))))) aw)))
 (ai (aV (ar (af az (af (QPE.f (qv 9)) (af (QPE.f (au (au (qv 6) (qv 4)) ah)) (af (QPE.f (qv 12)) (af (ar (af az (af (QPE.f (qv 9)) aj))) aj))))))))))))))),λts Q hh=>?_)
  let(ks,hs,ws,sc,f,h,U,W,hf,S,hq):=hh;let MJ:h∈hs:=pA hf;let(a3,aS,aQ,aI):=W.hp h MJ;let ef:atI (hs.map tH) (f:Int)=Z (tH h):=cH (by rw[j5,hf];rfl)
  let aH:sc.length<ws.length:=by have:=S.ln;have:=W.wl;omega
  let ex:atI (ws.map L2.T.s) ((sc.map tP).length:Int)=Z (.s ws[sc.length]):=by rw[dz];exact gp (eO aH)
  let fx:ws[sc.length] ∉ sc.map (·.1):=S.fresh W.wn (eO aH)
  generalize ws[sc.length]=x at ex fx
  refine(_,U,U,sc,[h.2.2],_,.inr U,U,by have:=S.ln;omega,by show 1<=1000;decide,?_,λns hF=>?_)
  ·let(kd,aE,ek):=NO aI;refine(_,ex,U,bC uU ks,_,mj ks,_,nN W.gk.nd aI,nQ _,λi q=>P3 λaD av V=>q=[.r .cY,.r (tW ks hs ws),.r (.l (sc.map tP)),.r (.s h.2.2),.r (.i f),.r (tKs ks),.r (.l (hs.map tH)),.r (.l (ws.map .s)),.o .n,.o (.s x),aD,av,V],(_,_,_,U),?_,?_)
   ·rintro i t q hx ⟨aD,av,V,rfl⟩
    rw[j5]at hx;let(m,hm,U):=j7.mp hx;let aM:m∈kd.2:=by rw[<- mv W.gk.nd aE,ek];exact pA hm
    refine(_,U,sc,m.2,_,.inl U,U,by have:=S.ln;omega,by have:=(W.gk.fl kd aE m aM).1;omega,(_,_,_,U),λns hF=>?_)
    refine(U,U,bu _,U,hq 2 _ (by decide) (.make aE aM hF fx (.give ?_)) (mH sj (mW _)))
    rw[ek];simp
   ·rintro q ⟨aD,av,V,rfl⟩
    let ec:eU (sc.map tP) Y (Z ((h.2.1.map tP).length:Int))=h.2.1.map tP:=by rw[dz,IM (by rw[dz];exact S.p1),<- WI,S.pf]
    refine(_,ef,_,U,bC jL _,?_);rw[ec];refine(aF (by rw[dz];omega),λi ys=>ys=((h.2.1.take i).map (·.1)).map .s,U,?_,?_)
    ·rintro i t ys hx rfl
     rw[j5]at hx;let(p,hp,U):=j7.mp hx;refine(_,U,U,?_);show _ ++ [L2.T.s p.1]=_;rw[u3,hp];simp
    ·rintro ys rfl
     rw[dz,uj];refine(bu _,U,_,ef,_,U,U,bu _,U,hq 2 _ (by decide) (.call MJ ?_ fx (.give (by simp))) (mH sj (mW _)))
     let z:=Fills.self (sc:=sc) (n:=h.2.1.length)
     rwa [S.pf]at z
  ·obtain⟨n,rfl⟩:∃n,ns=[n]:=by
    match ns,hF.1 with
    |[n],_=>exact(n,U)
   exact(_,U,U,hq 1 _ (by decide) (.give (hF.2 (n,h.2.2) (by simp))) sj)
theorem L6(T:Txt K mg a)(N:Nat)(i9:a8 P w K mg base CX0 (2*N+3) a.sg a.Bo ["_law_deal_here","_law_world","_law_scope","_law_f","_law_room"] (spQ K (kX N))):a8 P w K mg base CX0 (2*N+4) a.xj a.IK ["_law_deal_here","_law_world","_law_scope","_law_f","_law_room"] (spQ K (O8 N)):=by
 refine T.Js.F.okQ dB (λts Q h=>?_) (λ_ _ _ _ _ _ hr=>?_)
 ·let(ks,hs,ws,sc,f,h,u,U,_):=h;rfl
 ·let hu:=cD hr;refine(_,_,((ag (vU (g:=(Tg.tp [5,6,7])) (i:=1) (pv 1) (d9 (K:=K) (n:=3) U U (aL (bo 5 dB.nd) (aL (bo 6 dB.nd) (aL (bo 7 dB.nd) d8)))))
 (ag (gT (g:=(Tg.tp [8,9])) (au (qv 2) (QPF.w (cn (fX U) nc (by rfl) T.sD (by kernel_rfl) (ae (QPF.w (aX (gY (fi T)) hr T.aY (ae (qv 0) (ae (QPF.w (bN T.cE (ae (qv 2) aw))) aw)))) (ae (QPF.w (aX (gY (fi T)) hr T.aY (ae (qv 0) (ae (QPF.w (bN T.cE (ae (qv 2) aw))) aw)))) aw))))) (ig (bo 8 dB.nd) (bo 9 dB.nd)))
 (ag (aB 10 dB.nd (QPE.f (bb (QPF.w (bh (i6 U) kP (by rfl) T.nY (by kernel_rfl) (ae (qv 5) aw))) (qv 9))))
 (ag (yh (i:=4) (pv 4) (pv 4) (QPF.w (bN T.cE (ae (qv 10) aw))))
 (ag (aB 11 dB.nd (aG aj))
 (ag (cg (g:=(Tg.tp [12,13])) PassesOwn.never U (gU (QPE.f (qv 10))) (ig (bo 12 dB.nd) (bo 13 dB.nd))
 (ag (kb (i:=14) dB.nd U (Or.inl U) U (KO U T.jW (by kernel_rfl) (ae (qv 13) aw)) (N':=["_law_k","_law_field","_law_words_here","_law_scope"]) (.own U (.own U (.got (i:=7) U U (.inl U) (.got (i:=2) U U (.inl U) .nil)))) (bX (g:=(Tg.tp [0,1])) (λ_ _ _ _ _=>((ig (eh 0) (eh 1)),(ar (af (QPE.f (au (qv 2) (QPF.w (aO (QPF.w (bN T.cE (ae (qv 3) aw))) (qv 0))))) (af (QPE.f (qv 1)) aj)))))))
 (ag (aB 15 dB.nd (bh (bT U) bS (by rfl) T.cU (by kernel_rfl) (ae (QPF.w (b9 U (kc (qv 14)) (N':=["_law_name","_law_field"]) (.own U (.own U .nil)) (bX (g:=(Tg.tp [0,1])) (λ_ _ _ _ _=>((ig (eh 0) (eh 1)),(QPE.f (qv 0))))))) aw)))
 (ai (cj (i:=11) (pv 11) (ar (af (QPE.f (qv 12)) (af (QPE.f (qv 15)) (af (aX i9 hr T.lE (ae (qv 0) (ae (qv 1) (ae (QPF.w (aO (qv 2) (qv 14))) (ae (qv 3) (ae (qv 4) aw)))))) aj)))))))))
 (ai (aV (ar (af az (af (QPE.f (qv 8)) (af (bh (bT U) bS (by rfl) T.cU (by kernel_rfl) (ae (qv 11) aw)) aj))))))))))))),λts Q hh=>?_)
  let(ks,hs,ws,sc,f,h,u,U,W,hf,S,hl,a7,bw,hq):=hh;let l0:0<sc.length:=V6.mpr a7;let V:((sc.map tP).length:Int)=sc.length:=by rw[dz]
  refine(_,U,by rw[V];lia,by rw[V];lia,λr r0 r1=>(by rw[V];lia,by rw[V];lia,λr' a3 aM=>?_))
  rw[V]at r1 aM;let(m0,m1):=max_two r0 r1 a3 aM;let((x,k),hx,ex):=jF (f:=tP) m0 m1;refine(tP (x,k),ex,U,_,U,?_);let(kd,av,ek):=NO (S.kd _ hx);obtain rfl:kd.1=k:=ek;let em:=mv W.gk.nd av;refine(bC uU ks,_,mj ks,tMs kd.2,by rw[nN W.gk.nd (S.kd _ hx),em],nQ _,Xy _,?_)
  let(ne1,a4):=W.gk.ne kd av;let a6:1<=kd.2.length:=V6.mpr ne1;let a5:((kd.2.map tM).length:Int)=kd.2.length:=by rw[dz]
  let wl:=W.wl;let e1:(u - ((kd.2.map tM).length:Int)).toNat=u.toNat - kd.2.length:=by rw[a5];lia
  generalize u - ((kd.2.map tM).length:Int)=u' at e1 ⊢
  refine(nQ kd.2,λi q=>Y6 λarms L aI aH aE aD=>q=[.r .cY,.r (tW ks hs ws),.r (.l (sc.map tP)),.r (.i f),.r (.rm u'),.r (tKs ks),.r (.l (hs.map tH)),.r (.l (ws.map .s)),.r (.s x),.r (.s kd.1),.o (tMs kd.2),.o (.l L),aI,aH,aE,aD]/\L=arms.map tA/\uv ks hs h.2.2 sc (sz u'.toNat) (3*u'.toNat+2) arms (kd.2.take i),
   ([],_,_,_,_,_,U,U,(U,λi a m h1=>by simp at h1)),?_,?_)
  ·rintro i t q hx ⟨arms,L,aI,aH,aE,aD,rfl,rfl,hA⟩
   rw[j5]at hx;let(m,hm,U):=j7.mp hx;let(b6,bt):=W.gk.fl kd av m (pA hm);let b0:i<kd.2.length:=(j3.mp hm).1;let lA:arms.length=i:=by rw[hA.ln,zL];lia
   let(ln,aQ,S'):=S.more (ns:=(ws.drop sc.length).take m.2.length) W.wn U (by lia) (by lia) bt
   refine(_,U,aF (by rw[dU,dz];lia),λj ys=>ys=(((ws.drop sc.length).take j).zip (m.2.take j)).map tP,U,?_,?_)
   ·rintro j y ys hy rfl
    let(z,hz,U):=jN hy;rw[j5]at hz;let(g,hg,U):=j7.mp hz;let bP:j<m.2.length:=(j3.mp hg).1;let aS:sc.length+j<ws.length:=by lia
    let ew:atI (ws.map L2.T.s) (((sc.map tP).length:Int)+(j:Nat))=Z (.s ws[sc.length+j]):=by
     rw[dz];exact gp (j:=sc.length+j) (eO aS)
    refine(_,U,_,ew,U,U,?_);show _ ++ [tP (ws[sc.length+j],g)]=_;rw[E9 (a:=ws[sc.length+j]) (by rw[XJ,eO aS]) hg,zJ]
    rfl
   ·rintro ys rfl
    rw[show(jO (m.2.map L2.T.s)).length=m.2.length by rw[dU,dz],uj]
    generalize bD:(ws.drop sc.length).take m.2.length=ns at ln aQ S' ⊢
    refine(aF (by rw[dz,Ii];lia),λj ys=>ys=(((ns.zip m.2).take j).map (·.1)).map .s,U,?_,?_)
    ·rintro j y ys hy rfl
     rw[j5]at hy;let(p,hp,U):=j7.mp hy;refine(_,U,U,?_);show _ ++ [L2.T.s p.1]=_;rw[u3,hp];simp
    ·rintro ys rfl
     rw[show((ns.zip m.2).map tP).length=(ns.zip m.2).length by rw[dz],uj,BI ln]
     refine(bu _,aF (by rw[dz];lia),U,bu _,bQ (by rw[dz,dz,Ii];lia),bC jL _,bC jL _,ks,hs,ws,sc++ns.zip m.2,f,h,_,by rw[zJ],W,hf,S',by rw[px,Ii];lia,by lia,λn b hn hb dd=>?_)
     refine(arms ++ [(m.1,ns,b,n)],_,_,_,_,_,U,by simp[tA],?_)
     rw[u3,hm];exact hA.snoc (U,ln,aQ,hb,hn,dd)
  ·rintro q ⟨arms,L,aI,aH,aE,aD,rfl,rfl,hA⟩
   rw[dz,uj]at hA;let(hS,hle):=hA.snd hx av;refine(U,hA.im,hq _ _ ?_ hS ((hA.dep (by lia)).mono (by lia)))
   rw[hA.ln,e1]at hle
   have:=JQ (n:=u.toNat) a6 a4
   lia
def qMk(N:Nat):QS:=vW (GD (Tg.tp [17,18]) (qOp qIx (bp 5) (ie qZ (aJ (bp 0) (aJ (qCB DZ (aJ (bp 5) fb)) fb)))))
 (vW (GD (Tg.tp [19,20]) (qOp qIx (bp 18) (ie qZ (aJ (bp 0) (aJ (qCB DZ (aJ (bp 18) fb)) fb)))))
  (vW (Az 16 (ie AK (aJ (bp 0) (aJ (bp 2) (aJ (bp 20) fb)))))
   (vW (K5 (uJ (qOp (D3 ϊ) (bp 16) (qC .n))) (λD q=>ie pM (aJ (bp 0) (aJ (bp 1) (aJ (bp 2) (aJ (bp 8) (aJ (bp 3) fb))))) q D.rt) uK)
    λD q=>yo (aJ (qC (.s (Str.ofString "make"))) (aJ (qIm (bp 10)) (aJ (qIm (bp 19)) (aJ (qIm (bp 16)) (aJ (ie (kX N) (aJ (bp 0) (aJ (bp 1) (aJ (qOp tL (bp 2) (K4 (aJ (yo (aJ (qIm (bp 10)) (aJ (qIm (bp 17)) fb))) fb))) (aJ (bp 3) (aJ (bp 4) fb)))))) fb))))) q D.rt)))
def qCl(N:Nat):QS:=vW (K5 (uJ (qOp GN (bp 9) (qC (.i 6))))
 (vW (Az 15 (ie qZ (aJ (bp 0) (aJ (qCB DZ (aJ (bp 6) fb)) fb))))
  (vW (Az 16 (ie AK (aJ (bp 0) (aJ (bp 2) (aJ (Cc [Y] (asT (qOp qIx (qOp qIx (bp 6) (bp 15)) (qC (.i 1)))) (Tg.nm 0) GF (qIm (qOp qIx (bp 0) (qC (.i 1))))) fb)))))
   (K5 (uJ (qOp (D3 O) (bp 16) (qC .n))) (λD q=>yo (aJ (qC (.s (Str.ofString "call"))) (aJ (qIm (bp 10)) (aJ (qIm (qOp qIx (qOp qIx (bp 6) (bp 15)) (qC (.i 0)))) (aJ (qIm (bp 16)) (aJ (ie (kX N) (aJ (bp 0) (aJ (bp 1) (aJ (qOp tL (bp 2) (K4 (aJ (yo (aJ (qIm (bp 10)) (aJ (qIm (qOp qIx (qOp qIx (bp 6) (bp 15)) (qC (.i 2)))) fb))) fb))) (aJ (bp 3) (aJ (bp 4) fb)))))) fb))))) q D.rt) uK))) uK) (qMk N)
def qNm(N:Nat):QS:=vW (GD (Tg.tp [13,14]) (qOp qIx (bp 2) (ie qZ (aJ (bp 0) (aJ (qCB DZ (aJ (bp 2) fb)) fb)))))
 λD q=>yo (aJ (qC (.s (Str.ofString "name"))) (aJ (qIm (bp 10)) (aJ (qIm (bp 13)) (aJ (ie (kX N) (aJ (bp 0) (aJ (bp 1) (aJ (qOp tL (bp 2) (K4 (aJ (yo (aJ (qIm (bp 10)) (aJ (qIm (bp 14)) fb))) fb))) (aJ (bp 3) (aJ (bp 4) fb)))))) fb)))) q D.rt
structure Dw(N Yb D:Nat)(ks:List Kd)(hs:List Hd)(ws:List Str)(sc:Sc)(f:Nat)(h:Hd)(u:Int)(x:Str)(Q:L2.T->Prop):Prop where
 W:Wld ks hs ws
 kd:∀p∈sc,p.2∈ks.map (·.1)
 l16:sc.length<=16
 fx:x ∉ sc.map (·.1)
 hE:pM [.cY,tW ks hs ws,.l (sc.map tP),.s h.2.2,.i f] Q
 go:∀{k:Str},k∈ks.map (·.1)->∀{Q':L2.T->Prop},(∀n b,n<=Yb->Snd ks hs h.2.2 n (sc ++ [(x,k)]) b->Dep D b->Q' b)->kX N [.cY,tW ks hs ws,.l (sc.map tP ++ [tP (x,k)]),.i f,.rm u] Q'
 hq:∀n b,n<=Yb+1->Snd ks hs h.2.2 n sc b->Dep (D+1) b->Q b
 d1:1<=D
theorem B6(C:Dw N Yb D ks hs ws sc f h u x Q)(a3 aS aQ aM aI aH aE aD av V:Sl):
  qMk N {nx:=λ_=>Q .n,rt:=Q} [.r .cY,.r (tW ks hs ws),.r (.l (sc.map tP)),.r (.i f),.r (.rm u),.r (tKs ks),.r (.l (hs.map tH)),.r (.l (ws.map .s)),.o (.s h.2.2),.o (.i fm),.o (.s x),a3,aS,aQ,aM,aI,aH,aE,aD,av,V]:=by
 let(W,a5,h3,fx,hE,go,hq,d1):=C;let lk:((ks.map tK).length)=ks.length:=by rw[dz]
 let k1:=W.gk.k1;let k2:=W.gk.k2;refine(by lia,by lia,λr6 P z=>?_)
 rw[lk]at z;let(kd,g,ek):=jF P z;let(ne1,a4):=W.gk.ne kd g;let lm:((kd.2.map tM).length)=kd.2.length:=by rw[dz]
 let l1:=V6.mpr ne1;refine(_,ek,uU kd,_,U,by lia,by lia,λr7 K q=>?_)
 rw[lm]at q;let(m,hm,em):=jF K q;refine(_,em,CG m,_,U,sc,m.2,_,.inl U,U,by lia,by have:=(W.gk.fl kd g m hm).1;lia,hE,λns hF=>?_)
 refine(U,U,bu _,U,U,bQ (by rw[dz];show sc.length+1<=10000;lia),bC jL _,U,?_)
 exact go (ui.mpr (kd,g,U)) λn b hn hb dd=>hq (n+1) _ (by lia) (.make g hm hF fx hb) (mH dd d1)
theorem Kl(C:Dw N Yb D ks hs ws sc f h u x Q)(a3:sc ≠ [])(aQ aM aI aH aE aD av V P K:Sl):
  qNm N {nx:=nx,rt:=Q} [.r .cY,.r (tW ks hs ws),.r (.l (sc.map tP)),.r (.i f),.r (.rm u),.r (tKs ks),.r (.l (hs.map tH)),.r (.l (ws.map .s)),.o (.s h.2.2),.o (.i fm),.o (.s x),aQ,aM,aI,aH,aE,aD,av,V,P,K]:=by
 let(W,aS,h3,fx,hE,go,hq,d1):=C;let g:((sc.map tP).length)=sc.length:=by rw[dz]
 let l0:=V6.mpr a3;refine(by rw[g];lia,by rw[g];lia,λr5 z q=>?_)
 rw[g]at q;let((y,k),hy,ey):=jF z q;refine(_,ey,U,_,U,U,U,U,U,bQ (by rw[dz];show sc.length+1<=10000;lia),bC jL _,U,?_)
 exact go (aS _ hy) λn b hn hb dd=>hq (n+1) _ (by lia) (.name hy fx hb) (IC dd)
theorem Kn(C:Dw N Yb D ks hs ws sc f h u x Q)(aM aI aH aE aD av V P K z:Sl):
  qCl N {nx:=λ_=>Q .n,rt:=Q} [.r .cY,.r (tW ks hs ws),.r (.l (sc.map tP)),.r (.i f),.r (.rm u),.r (tKs ks),.r (.l (hs.map tH)),.r (.l (ws.map .s)),.o (.s h.2.2),.o (.i fm),.o (.s x),aM,aI,aH,aE,aD,av,V,P,K,z]:=by
 let(W,aQ,h3,fx,hE,go,hq,d1):=id C;refine(U,bE (λ_=>?_) (λ_=>B6 C _ _ _ _ _ _ _ _ _ _))
 let lh:((hs.map tH).length)=hs.length:=by rw[dz]
 let a3:=W.h1;let aS:=W.h8;refine(by lia,by lia,λg g0 g1=>?_)
 rw[lh]at g1;let(hd,q,eg):=jF g0 g1;let(q1,q2,q3,q4):=W.hp hd q;refine(_,eg,_,U,aF (by rw[dz];lia),λi ys=>ys=((hd.2.1.take i).map (·.2)).map .s,U,?_,?_)
 ·rintro i t ys ht rfl
  rw[j5]at ht;let(p,hp,U):=j7.mp ht;refine(_,U,_,U,U,?_);rw[u3,hp];simp
 ·rintro ys rfl
  rw[show(hd.2.1.map tP).length=hd.2.1.length by rw[dz],uj]
  refine(sc,hd.2.1.map (·.2),_,.inr U,U,by lia,by rw[dz];lia,B6 C _ _ _ _ _ _ _ _ _ _,λns hF=>?_)
  refine(U,_,eg,_,U,U,bu _,U,_,eg,_,U,U,bQ (by rw[dz];show sc.length+1<=10000;lia),bC jL _,U,?_)
  exact go q4 λn b hn hb dd=>hq (n+1) _ (by lia) (.call q hF fx hb) (mH dd d1)
theorem Sr{r:Int}(h0:0<=r)(h1:r<3):∃w:Str,atI [L2.T.s "pay",L2.T.s "pay",L2.T.s "get"] r=Z (.s w)/\(w="pay" \/ w="get"):=by
 obtain⟨n,rfl⟩:∃n:Nat,r=n:=(r.toNat,by lia)
 match n,h1 with
 | 0,_=>exact(_,U,.inl U)
 | 1,_=>exact(_,U,.inl U)
 | 2,_=>exact(_,U,.inr U)
 |n+3,h=>lia
theorem L7(T:Txt K mg a)(N:Nat):a8 P w K mg base CX0 (2*N+3) a.sg a.Bo ["_law_deal_here","_law_world","_law_scope","_law_f","_law_room"] (spQ K (kX N)):=by
 induction N with
 |zero =>
  refine never λts Q hh=>?_
  let(ks,hs,ws,sc,f,h,u,U,W,hf,S,hl,aS,hq):=hh
  lia
 |succ N i9 =>
  let QW:=L6 T N i9;let V:=gY (@fi P w K mg base a T);refine T.lE.F.okQ b8 (λts Q h=>?_) (λ_ _ _ _ _ _ hr=>?_)
  ·let(ks,hs,ws,sc,f,h,u,U,_):=h;rfl
  ·let hu:=cD hr;refine(_,_,((ag (vU (g:=(Tg.tp [5,6,7])) (i:=1) (pv 1) (d9 (K:=K) (n:=3) U U (aL (bo 5 b8.nd) (aL (bo 6 b8.nd) (aL (bo 7 b8.nd) d8)))))
 (ag (aB 8 b8.nd (QPE.f (au (au (qv 6) (qv 3)) ah)))
 (ag (aB 9 b8.nd (aX V hr T.aY (ae (qv 0) (ae ah aw))))
 (ag (bc (QPW.pt (uG (uH (KR (qv 4) ah) ah) (uG (bV hu (qv 9) ah) (vT (qT (QPF.w (bN T.cE (ae (qv 2) aw))) ah)))))
 (ai (aV (aX (Hz T) hr T.xN (ae (qv 0) (ae (qv 1) (ae (qv 2) (ae (qv 8) (ae (qv 3) aw))))))))
 aW)
 (ag (yh (i:=4) (pv 4) (pv 4) ah)
 (ag (aB 10 b8.nd (QPE.f (au (qv 7) (QPF.w (bN T.cE (ae (qv 2) aw))))))
 (ag (bc (uH (qv 9) ah)
 (ag (aB 11 b8.nd (aO ah (QPF.w (aX V hr T.aY (ae (qv 0) (ae (QPF.w (jC (aG (af bO (af bO (af bO aj)))) (QPF.w (aX V hr T.aY (ae (qv 0) (ae ah aw)))))) aw))))))
 (ag (aB 12 b8.nd (jC (aG (gE (by rfl))) (QPF.w (aX V hr T.aY (ae (qv 0) (ae ah aw))))))
 (ai (aV (ar (af (QPE.f (qv 12)) (af (QPE.f (qv 11)) (af (aX i9 hr T.lE (ae (qv 0) (ae (qv 1) (ae (qv 2) (ae (qv 3) (ae (qv 4) aw)))))) aj))))))))
 aW)
 (ag (bc (QPW.pt (kU (uH (qv 9) ah) (iH (bW (yG hu U) uz (bH _) (qv 2) (QPF.w (aG aj))))))
 (ai (aV (aX QW hr T.Js (ae (qv 0) (ae (qv 1) (ae (qv 2) (ae (qv 3) (ae (qv 4) aw))))))))
 aW)
 (ag (bc (QPW.pt (kU (bV hu (qv 9) ah) (iH (bW (yG hu U) uz (bH _) (qv 2) (QPF.w (aG aj))))))
 (ag (gT (g:=(Tg.tp [13,14])) (au (qv 2) (QPF.w (aX V hr T.aY (ae (qv 0) (ae (QPF.w (bN T.cE (ae (qv 2) aw))) aw))))) (ig (bo 13 b8.nd) (bo 14 b8.nd)))
 (ai (aV (ar (af az (af (QPE.f (qv 10)) (af (QPE.f (qv 13)) (af (aX i9 hr T.lE (ae (qv 0) (ae (qv 1) (ae (QPF.w (aO (qv 2) (QPF.w (aG (af (ar (af (QPE.f (qv 10)) (af (QPE.f (qv 14)) aj))) aj))))) (ae (qv 3) (ae (qv 4) aw)))))) aj))))))))
 aW)
 (ag (bc (bV hu (qv 9) ah)
 (ag (aB 15 b8.nd (aX V hr T.aY (ae (qv 0) (ae (QPF.w (bN T.cE (ae (qv 6) aw))) aw))))
 (ag (aB 16 b8.nd (aX (Cr T) hr T.sU (ae (qv 0) (ae (qv 2) (ae (QPF.w (b9 U (d7 (au (au (qv 6) (qv 15)) ah)) (N':=["_law_param"]) (.own U .nil) (bX (g:=(Tg.nm 0)) (λ_ _ _ _ _=>((eh 0),(QPE.f (au (qv 0) ah))))))) aw)))))
 (ai (bc (bW pO lN (bH _) (qv 16) (QPF.w cS))
 (ai (aV (ar (af az (af (QPE.f (qv 10)) (af (QPE.f (au (au (qv 6) (qv 15)) ah)) (af (QPE.f (qv 16)) (af (aX i9 hr T.lE (ae (qv 0) (ae (qv 1) (ae (QPF.w (aO (qv 2) (QPF.w (aG (af (ar (af (QPE.f (qv 10)) (af (QPE.f (au (au (qv 6) (qv 15)) ah)) aj))) aj))))) (ae (qv 3) (ae (qv 4) aw)))))) aj))))))))
 aW))))
 aW)
 (ag (gT (g:=(Tg.tp [17,18])) (au (qv 5) (QPF.w (aX V hr T.aY (ae (qv 0) (ae (QPF.w (bN T.cE (ae (qv 5) aw))) aw))))) (ig (bo 17 b8.nd) (bo 18 b8.nd)))
 (ag (gT (g:=(Tg.tp [19,20])) (au (qv 18) (QPF.w (aX V hr T.aY (ae (qv 0) (ae (QPF.w (bN T.cE (ae (qv 18) aw))) aw))))) (ig (bo 19 b8.nd) (bo 20 b8.nd)))
 (ag (aB 16 b8.nd (aX (Cr T) hr T.sU (ae (qv 0) (ae (qv 2) (ae (qv 20) aw)))))
 (ag (bc (bW nH j9 (bH _) (qv 16) (QPF.w cS))
 (ai (aV (aX (Hz T) hr T.xN (ae (qv 0) (ae (qv 1) (ae (qv 2) (ae (qv 8) (ae (qv 3) aw))))))))
 aW)
 (ai (aV (ar (af az (af (QPE.f (qv 10)) (af (QPE.f (qv 19)) (af (QPE.f (qv 16)) (af (aX i9 hr T.lE (ae (qv 0) (ae (qv 1) (ae (QPF.w (aO (qv 2) (QPF.w (aG (af (ar (af (QPE.f (qv 10)) (af (QPE.f (qv 17)) aj))) aj))))) (ae (qv 3) (ae (qv 4) aw)))))) aj))))))))))))))))))))))),λts Q hh=>?_)
   let(ks,hs,ws,sc,f,h,u,U,W,hf,S,hl,aS,hq):=hh;let ef:atI (hs.map tH) (f:Int)=Z (tH h):=cH (by rw[j5,hf];rfl)
   let hE:pM [.cY,tW ks hs ws,.l (sc.map tP),.s h.2.2,.i f] Q:=(ks,hs,ws,sc,f,h,U,W,hf,S,λn b hn hb dd=>hq n b (u4 hn (FA _)) hb (dd.mono (by lia)))
   let aQ:((sc.map tP).length:Int)=sc.length:=by rw[dz]
   let wl:=W.wl;let av:sc.length<ws.length:=by lia
   let ex:atI (ws.map L2.T.s) ((sc.map tP).length:Int)=Z (.s ws[sc.length]):=by rw[dz];exact gp (eO av)
   let hx:ws[sc.length]?=Z ws[sc.length]:=eO av;let fx:ws[sc.length] ∉ sc.map (·.1):=S.fresh W.wn hx
   generalize ws[sc.length]=x at ex fx hx
   refine(_,U,_,ef,_,U,U,by decide,by decide,λfm f0 f1=>(U,λr a5=>bE (λ_=>hE) (λh1=>(U,bE (λ_=>hE) (λ_=>bE (λ_=>hE) (λh3=>?_))))))
   let h1:¬ r<1:=λz=>h1 (decide_eq_true z)
   let h3:sc.length<=16:=by
    let h3:¬(16:Int)<((sc.map tP).length:Int):=λz=>h3 (decide_eq_true z)
    rw[aQ]at h3
    lia
   let u1:u.toNat=(u - 1).toNat+1:=by lia
   let uN:(u - 1).toNat<N:=by lia
   let s1:=Ab (u - 1).toNat;rw[<- u1]at s1;let go:∀{k:Str},k∈ks.map (·.1)->∀{Q':L2.T->Prop},(∀n b,n<=sz (u - 1).toNat->Snd ks hs h.2.2 n (sc ++ [(x,k)]) b->Dep (3*(u - 1).toNat+2) b->Q' b)->kX N [.cY,tW ks hs ws,.l (sc.map tP ++ [tP (x,k)]),.i f,.rm (u - 1)] Q':=λ{k} hk {Q'} hQ =>
    (ks,hs,ws,sc ++ [(x,k)],f,h,u - 1,by rw[zJ];rfl,W,hf,S.snoc hx (by lia) hk,by rw[px];simp;lia,uN,hQ)
   let C:Dw N (sz (u - 1).toNat) (3*(u - 1).toNat+2) ks hs ws sc f h (u - 1) x Q:=(W,S.kd,h3,fx,hE,go,λn b hn hb dd=>hq n b (by lia) hb (dd.mono (by lia)),by lia)
   refine(by decide,_,ex,U,bE (λ_=>?_) (λ_=>?_))
   ·refine(by decide,by decide,λr2 aM aH=>?_)
    let(v2,a3,a4):=NJ (x:=3) (y:=9) (z:=1000) aM aH;refine(_,a3,by lia,by lia,λc c0 c1=>(by decide,by decide,λr4 aE aD=>?_))
    let(wd,ew,hw):=Sr aE aD;refine(_,ew,U,U,ks,hs,ws,sc,f,h,u - 1,U,W,hf,S,hl,uN,λn b hn hb dd=>hq (n+1) _ (by lia) (.su (hw,by lia,by lia) hb) ((EG dd).mono (by lia)))
   ·refine(λrest=>bE (λ_=>bE (λq=>?_) (λ_=>rest)) (λ_=>rest)) ?_
    ·let UW:sc ≠ []:=λz=>by rw[z]at q;exact absurd q (by decide)
     exact(ks,hs,ws,sc,f,h,u - 1,U,W,hf,S,by lia,UW,uN,λn b hn hb dd=>hq n b (by rw[u1];exact hn) hb (dd.mono (by lia)))
    refine(λrest=>(U,bE (λ_=>bE (λq=>Kl C (λz=>by rw[z]at q;exact absurd q (by decide)) _ _ _ _ _ _ _ _ _ _) (λ_=>rest)) (λ_=>rest))) ?_
    exact Kn C _ _ _ _ _ _ _ _ _ _
theorem AZ(T:Txt K mg a):a8 P w K mg base CX0 66 a.kj a.uY ["_law_deal_here","_law_most","_law_room"] (spQ K D5):=by
 let aI:=gY (@fi P w K mg base a T);refine T.vh.F.okQ bU (λts Q h=>?_) (λ_ _ _ _ _ _ hr=>?_)
 ·let(m,u,U,_):=h;rfl
 ·let hu:=cD hr;refine(_,_,((ag (aB 3 bU.nd (aX (yI T) hr T.xI (ae (qv 0) (ae ah aw))))
 (ag (aB 4 bU.nd (aX (Hx T) hr T.Du (ae (qv 0) (ae (qv 3) aw))))
 (ag (aB 5 bU.nd (aG aj))
 (ag (cg (g:=(Tg.nm 6)) PassesOwn.never U (fW U T.fQ (ae (QPF.w (aO ah (QPF.w (aX aI hr T.aY (ae (qv 0) (ae (qv 1) aw)))))) aw)) (bo 6 bU.nd)
 (ag (aB 7 bU.nd (jC (aG (af bO (af bO (af bO (af bO (af bO (af bO (af bO aj)))))))) (QPF.w (aX aI hr T.aY (ae (qv 0) (ae ah aw))))))
 (ag (kb (i:=8) bU.nd U (Or.inl U) U (nq U T.fQ (ae (qv 7) aw)) (N':=["_law_k","_law_words_here","_law_kinds_here","_law_deal_here"]) (.own U (.got (i:=3) U U (.inl U) (.got (i:=4) U U (.inl U) (.got (i:=0) U U (.inl U) .nil)))) (bX (g:=(Tg.nm 0)) (λ_ _ _ _ _=>((eh 0),(ar (af (QPE.f (au (qv 1) (qv 0))) (af (QPE.f (au (au (qv 2) (QPF.w (aX aI hr T.aY (ae (qv 3) (ae (QPF.w (bN T.cE (ae (qv 2) aw))) aw))))) ah)) aj)))))))
 (ai (cj (i:=5) (pv 5) (ar (af (QPE.f (au (qv 3) (QPF.w (nt ah (qv 6))))) (af (bh (bT U) bS (by rfl) T.cU (by kernel_rfl) (ae (qv 8) aw)) (af (QPE.f (au (au (qv 4) (QPF.w (aX aI hr T.aY (ae (qv 0) (ae (QPF.w (bN T.cE (ae (qv 4) aw))) aw))))) ah)) aj)))))))))
 (ag (aB 9 bU.nd (aG aj))
 (ag (cg (g:=(Tg.tp [6,10])) PassesOwn.never U (Gx (i:=5) U T.jW (by kernel_rfl) (pv 5)) (ig (bo 6 bU.nd) (bo 10 bU.nd))
 (ag (aB 11 bU.nd (aX (L7 T 31) hr T.lE (ae (qv 0) (ae (KP (ae (qv 4) (ae (qv 5) (ae (qv 3) aw)))) (ae (QPF.w (bh (EO U) DH (by rfl) T.sE (by kernel_rfl) (ae (au (qv 10) ah) aw))) (ae (qv 6) (ae (QPF.w (KQ (aG (af (QPE.f (qv 2)) aj)))) aw)))))))
 (ai (cj (i:=9) (pv 9) (aO (qv 10) (QPF.w (ar (af (QPE.f (qv 11)) aj))))))))
 (ai (aV (ar (af (QPE.f (qv 4)) (af (bh (bT U) bS (by rfl) T.cU (by kernel_rfl) (ae (qv 9) aw)) aj)))))))))))),λts Q hh=>?_)
  let(mo,u,U,ct,cq,u0,cc,hq):=hh;refine(40,U,by decide,by decide,λws hl aH _=>?_)
  let hl:ws.length=40:=by lia
  refine(ws,U,hl,aH,λks a7 _=>?_)
  let gk:=a7.p;let k1:=gk.k1;let k2:=gk.k2;let lk:((ks.map tK).length:Int)=ks.length:=by rw[dz]
  refine(by lia,by lia,λn n0 n1=>?_)
  refine(by lia,by lia,λi q=>Y5 λhs L o5 o6 o7=>q=[.r .cY,.r (.i mo),.r (.i u),.o (.l (ws.map .s)),.o (tKs ks),.o (.l L),o5,o6,o7,.no,.no,.no]/\L=hs.map tH/\vf ks ws 1 hs i,([],_,_,_,_,U,U,(U,U,bY)),?_,?_)
  ·rintro i x q hx ⟨hs,L,o5,o6,o7,rfl,rfl,hH⟩
   let(U,hi):=jB hx;refine(_,U,by decide,by decide,λr2 bP bD=>?_)
   let(m,hm,em):=jF (xs:=[1,1,2,2,0,3,4]) (f:=L2.T.i) bP bD;let hm:m=1\/m=1\/m=2\/m=2\/m=0\/m=3\/m=4:=by simpa using hm
   refine(_,em,by lia,by lia,aF (by rw[d3];lia),λp ys=>∃ps:Sc,ys=ps.map tP/\ps.map (·.1)=ws.take p/\∀q∈ps,q.2∈ks.map (·.1),([],U,U,bY),?_,?_)
   ·rintro p y ys hy ⟨ps,rfl,aD,aQ⟩
    let(U,hp):=jB hy;let a6:p<ws.length:=by lia
    let ew:atI (ws.map L2.T.s) (0+((p:Nat):Int))=Z (.s ws[p]):=by rw[Wh];exact gp (by simp[a6])
    refine(_,U,_,ew,U,by rw[lk];lia,by rw[lk];lia,λr3 bw a4=>?_)
    rw[lk]at a4;let(kd,aS,ek):=jF (f:=tK) bw a4;refine(_,ek,_,U,U,ps ++ [(ws[p],kd.1)],by simp[tP],?_,λq b6=>?_)
    ·rw[zJ,aD];exact take_one (by simp[a6])
    ·obtain z|z:=p7.mp b6
     ·exact aQ q z
     ·rw[ej.mp z];exact ui.mpr (kd,aS,U)
   ·rintro ys ⟨ps,rfl,aD,aQ⟩
    rw[d3]at aD;let b0:ps.length=m.toNat:=by
     have:=congrArg VH aD
     rw[dz,zL]at this
     lia
    let a5:kr 1 i<ws.length:=by unfold kr;split <;> lia
    let ei:atI (ws.map L2.T.s) (39 - (0+(i:Int)))=Z (.s ws[kr 1 i]):=by
     let e:39 - (0+(i:Int))=((kr 1 i:Nat):Int):=by unfold kr;rw[if_neg (by decide)];lia
     rw[e];exact gp (by simp[a5])
    refine(aF (by rw[dz,hH.ln];lia),_,ei,U,bC jL _,by rw[lk];lia,by rw[lk];lia,λr4 bt a3=>?_)
    rw[lk]at a3;let(kd,aS,ek):=jF (f:=tK) bt a3;refine(_,ek,_,U,U,hs ++ [(ws[kr 1 i],ps,kd.1)],_,_,_,_,U,by simp[tH],hH.snoc (eO a5) (by show ps.length<=4;lia,aQ,by show ps.map (·.1)=ws.take ps.length;rw[b0];exact aD,ui.mpr (kd,aS,U)))
  ·rintro q ⟨hs,L,o5,o6,o7,rfl,rfl,hH⟩
   rw[d3]at hH;let W:Wld ks hs ws:=(gk,hl,aH,by rw[hH.ln];lia,by rw[hH.ln];lia,hH.nd hl aH (by lia),hH.hp)
   refine(λi q=>Y5 λfs L o5 o9 aM=>q=[.r .cY,.r (.i mo),.r (.i u),.o (.l (ws.map .s)),.o (tKs ks),.r (.l (hs.map tH)),o5,o6,o7,.o (.l L),o9,aM]/\L=fs.map tF/\fs.map (·.1)=hs.take i/\∀f∈fs,Snd ks hs f.1.2.2 f.2.2 f.1.2.1 f.2.1/\f.2.2<=50000/\Dep 92 f.2.1,([],_,_,_,_,U,U,U,bY),?_,?_)
   ·rintro i x q hx ⟨fs,L,o5,o9,aM,rfl,rfl,V,av⟩
    let(y,hy,U):=jN hx;rw[j5]at hy;let(hd,aE,U):=j7.mp hy;let MJ:=pA aE;let(q1,q2,q3,q4):=W.hp hd MJ;let cx:fs.length=i:=by
     have:=congrArg VH V
     rw[dz,zL]at this
     have:=(j3.mp aE).1
     lia
    let lhs:=W.h8;let cz:=(j3.mp aE).1;refine(_,U,_,U,bC jL _,U,ks,hs,ws,hd.2.1,i,hd,u,U,W,aE,(q3,by lia,q2,mW _,by rw[uj]),by lia,by lia,λn b hn hb dd=>?_)
    refine(aF (by rw[dz];lia),hb.im,bQ (by show 4<=10000;decide),S0 hd,(by show(b.im&&O)=O;rw[hb.im];rfl),fs ++ [(hd,b,n)],_,_,_,_,U,by simp[tF],?_,λf' cb=>?_)
    ·rw[zJ,V,u3,aE];rfl
    ·obtain z|z:=p7.mp cb
     ·exact av f' z
     ·rw[ej.mp z];exact(hb,u4 hn (u4 (JP (by lia)) Ru),dd.mono (by lia))
   ·rintro q ⟨fs,L,o5,o9,aM,rfl,rfl,V,av⟩
    rw[dU,dz,uj]at V;let b7:L2.T.ims (fs.map tF)=true:=by
     let go:∀(l:List Fn),(∀f∈l,f.2.1.im=O)->L2.T.ims (l.map tF)=true:=by
      intro l
      induction l with
      |nil=>intro _;rfl
      |cons f r ih =>
       intro h;show((O&&(L2.T.ims (f.1.2.1.map tP)&&(O&&(f.2.1.im&&O))))&&L2.T.ims (r.map tF))=O;rw[bC jL,h f g5,ih λf hf=>h f (j0 _ hf)];rfl
     exact go fs λf hf=>(av f hf).1.im
    refine(rV ks,b7,hq ks fs (gk,?_,?_,λf hf=>?_,λf hf=>?_,λf hf=>(av f hf).2.2) a7 ?_)
    ·have:=congrArg VH V
     rw[dz]at this
     have:=W.h8
     lia
    ·have:fs.map (·.1.1)=(fs.map (·.1)).map (·.1):=by rw[Jg];rfl
     rw[this,V];exact W.hn
    ·let hm:f.1∈hs:=by rw[<- V];exact ui.mpr (f,hf,U)
     let(q1,q2,q3,q4):=W.hp f.1 hm;exact(q1,q2,by rw[q3];exact aH.sublist (V1 _ _),q4)
    ·rw[V];exact((av f hf).1,(av f hf).2.1)
    ·intro z;rw[z]at V;let h1:=W.h1;rw[<- V]at h1;simp at h1
theorem Cq(T:Txt K mg a):a8 P w K mg base CX0 1 a.dS a.jS ["self","piece","above","arm"] (Ae a.bw ["piece","above","arm"]):=by
 refine Fun.ok T.gN vD (λvs H Q E h=>?_) λcdv A outer s H vs Q E hr h=>?_
 ·let(x,dx,args,U,hl,_):=h;show args.length+1=4;rw[hl];rfl
 ·let(x,dx,args,U,hl,hx,hq):=h;obtain⟨v1,v2,g,rfl⟩:∃v1 v2 g,args=[v1,v2,g]:=by
   cases args with
   |nil=>cases hl
   |cons v1 r=>cases r with
    |nil=>cases hl
    |cons v2 r=>cases r with
     |nil=>cases hl
     |cons g r=>cases r with
      |nil=>exact(v1,v2,g,U)
      |cons=>cases hl
  refine(_,cp (v7 (pv 0) (pv 1) U) (cp (v7 (pv 0) (pv 2) U) (iL (v7 (pv 0) (pv 3) U))),(_,U,_,U,x,a.bw,dx,_,U,hx,T.mK,T.gX,(by show 0<1000;decide),(_,U,_,U,x,a.bw,dx,_,U,ax,T.mK,T.tZ,(by show 1<1000;decide),(_,U,_,U,x,a.bw,dx,_,U,ax,T.mK,T.yR,(by show 2<1000;decide),?_))))
  rw[pC,pC];exact hq
theorem Eg(T:Txt K mg a):a8 P w K mg base CX0 1 a.mF a.zr ["_law_kinds_here"] (spQ K GW):=by
 refine T.zT.F.okQ dQ (λts Q h=>?_) (λ_ _ _ _ _ _ hr=>?_)
 ·let(ks,U,_):=h;rfl
 ·let hu:=cD hr;refine(_,_,((ag (aB 1 dQ.nd KY)
 (ag (cg (g:=(Tg.nm 2)) PassesOwn.never U (fW U T.fQ (ae (QPF.w (aO (QPF.w (bN T.cE (ae (qv 0) aw))) ah)) aw)) (bo 2 dQ.nd)
 (ai (cg (g:=(Tg.tp [3,4])) PassesOwn.never U (gU (QPE.f (qv 0))) (ig (bo 3 dQ.nd) (bo 4 dQ.nd))
 (ai (cg (g:=(Tg.tp [5,6])) PassesOwn.never U (gU (QPE.f (qv 4))) (ig (bo 5 dQ.nd) (bo 6 dQ.nd))
 (ai (bc (fu (QPF.w (cn (u6 U U) B1 (by rfl) T.NZ (by kernel_rfl) (ae (QPF.w (b9 U (d7 (qv 6)) (N':=["_law_field","_law_found"]) (.own U (.got (i:=1) U U (.inl U) .nil)) (bX (g:=(Tg.nm 0)) (λ_ _ _ _ _=>((eh 0),(kW (Hs hu) B0 U (qv 0) (qv 1))))))) aw))))
 (ag (aB 7 dQ.nd (aO ah (QPF.w (cn (kl U U) pF (by rfl) T.C7 (by kernel_rfl) (ae (QPF.w (b9 U (d7 (qv 6)) (N':=["_law_field","_law_found"]) (.own U (.got (i:=1) U U (.inl U) .nil)) (bX (g:=(Tg.nm 0)) (λ_ _ _ _ _=>((eh 0),(QPE.f (qW (qv 1) (qv 0)))))))) aw)))))
 (ai (Gu (i:=1) hu (pv 1) (qv 3) (QPF.w (cn (EM U) nc (by rfl) T.TC (by kernel_rfl) (ae (KW hu (qv 1) (qv 3) (qv 7)) (ae (qv 7) aw)))))))
 aW)))))))
 (ai (ka (i:=1) (pv 1)))))),λts Q h=>?_)
  let(ks,U,gk,hq):=h
  have:=gk.k1
  have:=gk.k2
  refine(?_,?_,λi q=>(Y7 λds o2 o3 o4 o5 o6 o7=>q=[.r (tKs ks),.o (dT ds),o2,o3,o4,o5,o6,o7]/\jo ks ds/\(1<=i->∀kd∈ks,∀m∈kd.2,Zd ds kd.1 m)),([],_,_,_,_,_,_,U,jo.nil ks,λz=>absurd z (by lia)),?_,?_)
  ·lia
  ·rw[dz];lia
  ·rintro i x q hx ⟨ds,o2,o3,o4,o5,o6,o7,rfl,hI,hZ⟩
   refine(_,U,?_);refine(rV ks,λj q=>(Y7 λds o2 o3 o4 o5 o6 o7=>q=[.r (tKs ks),.o (dT ds),o2,o3,o4,o5,o6,o7]/\jo ks ds/\∀j' kd,j'<j->ks[j']?=Z kd->∀m∈kd.2,Zd ds kd.1 m),(ds,_,_,_,_,_,_,U,hI,λ_ _ z=>absurd z (by lia)),?_,?_)
   ·rintro j x q hx ⟨ds,o2,o3,o4,o5,o6,o7,rfl,hI,hZ⟩
    rw[j5]at hx;let(kd,hk,U):=j7.mp hx;refine(_,U,?_);refine(nQ _,λl q=>(Y5 λds o2 o5 o6 o7=>q=[.r (tKs ks),.o (dT ds),o2,.r (.s kd.1),.r (tMs kd.2),o5,o6,o7]/\jo ks ds/\(∀j' kd,j'<j->ks[j']?=Z kd->∀m∈kd.2,Zd ds kd.1 m)/\∀l' m,l'<l->kd.2[l']?=Z m->Zd ds kd.1 m),(ds,_,_,_,_,U,hI,hZ,λ_ _ z=>absurd z (by lia)),?_,?_)
    ·rintro l x q hx ⟨ds,o2,o5,o6,o7,rfl,hI,hZ,hL⟩
     rw[j5]at hx;let(m,hm,U):=j7.mp hx;refine(_,U,?_);let f4:=gk.fl kd (pA hk) m (pA hm);refine(aF (by rw[dz];lia),λi ys=>ys=(m.2.take i).map λf=>.b (lk ds f).isSome,U,?_,?_)
     ·rintro i x ys hx rfl
      rw[j5]at hx;let(f,hf,U):=j7.mp hx;refine(_,U,?_);show _ ++ [L2.T.b (bI (ds.map dEn) (.inr f)).isSome]=_;rw[gF,<- take_one hf,zJ,Wm];rfl
     ·rintro ys rfl
      refine(_,xp _ _,(bE (λg1=>?_) (λg1=>?_)))
      ·let g1:=by simpa using g1
       refine(aF (by rw[dz];lia),λi ys=>ys=(m.2.take i).map λf=>.i ((lk ds f).getD 0),U,?_,?_)
       ·rintro i x ys hx rfl
        rw[j5]at hx;let(f,hf,U):=j7.mp hx;let(u,aE):=Vw.mp (g1 f (pA hf));refine(_,U,.i u,by rw[gF,aE];rfl,U,?_)
        rw[<- take_one hf,zJ,WZ,aE];rfl
       ·rintro ys rfl
        rw[dz,uj];refine(_,ins_map _ _,?_);let lI:=hI.len gk;refine OB ?_;dsimp only[dW.seq];refine DT (ds:=ds) (k:=kd.1) (v:=min ((lk ds kd.1).getD (1+cP ds m.2)) (1+cP ds m.2)) U U U (aF (by lia)) ?_ ?_
        ·exact Pr _ _
        refine(_,_,_,_,_,U,hI.put (ui.mpr (kd,pA hk,U)) (by rw[HG gk.nd hk];exact pA hm) f4.1 g1 U,λj' aD hj av m' V=>(hZ j' aD hj av m' V).put _ _,λl' m' aH V=>?_)
        ·by_cases e:l'=l
         ·intro _;rw[rM,if_pos rfl];rfl
         ·exact(hL l' m' (by lia) V).put _ _
      ·refine(ds,_,_,_,_,U,hI,hZ,λl' m' aH V=>?_)
       by_cases e:l'=l
       ·subst e;rw[hm]at V;cases V;intro e0;rw[e0]at g1;exact absurd U g1
       ·exact hL l' m' (by lia) V
    ·rintro q ⟨ds,o2,o5,o6,o7,rfl,hI,hZ,hL⟩
     refine(ds,_,_,_,_,_,_,U,hI,λj' aD hj av m hm=>?_)
     by_cases e:j'=j
     ·subst e;rw[hk]at av;cases av;let(l,hl):=Wn hm;exact hL l m (by have:=(j3.mp hl).1;rw[dz];lia) hl
     ·exact hZ j' aD (by lia) av m hm
   ·rintro q ⟨ds,o2,o3,o4,o5,o6,o7,rfl,hI,hZ⟩
    refine(ds,_,_,_,_,_,_,U,hI,λ_ kd hk m hm=>?_)
    let(l,hl):=Wn hk;exact hZ l kd (by have:=(j3.mp hl).1;rw[dz];lia) hl m hm
  ·rintro q ⟨ds,o2,o3,o4,o5,o6,o7,rfl,hI,hZ⟩
   rw[d3]at hZ;exact hq ds hI (hZ (by lia))
theorem Ht(T:Txt K mg a)(n:Nat):a8 P w K mg base CX0 (n+2) a.pT a.CT ["_law_deal_here","_law_kinds_here","_law_leasts_here","_law_kind","_law_room"] (spQ K (Lc n)):=by
 induction n with
 |zero =>
  refine never λts Q hz=>?_
  let(ks,ds,k,room,v,_,_,hI,hv,h1,h2,_):=hz
  have:=(hI.bd _ (jG hv)).1
  simp only at this
  lia
 |succ n xE =>
  refine T.xJ.F.okQ cZ (λts Q h=>?_) (λ_ _ _ _ _ _ hr=>?_)
  ·let(ks,ds,k,room,v,U,_):=h;rfl
  ·let hu:=cD hr;refine(_,_,((ag (aB 5 cZ.nd (aG aj))
 (ag (cg (g:=(Tg.tp [6,7])) PassesOwn.never U (gU (QPE.f (qW (QPF.w (bh (i6 U) kP (by rfl) T.nY (by kernel_rfl) (ae (qv 1) aw))) (qv 3)))) (ig (bo 6 cZ.nd) (bo 7 cZ.nd))
 (ai (bc (fu (QPF.w (cn (u6 U U) B1 (by rfl) T.NZ (by kernel_rfl) (ae (QPF.w (b9 U (d7 (qv 7)) (N':=["_law_field","_law_leasts_here"]) (.own U (.got (i:=2) U U (.inl U) .nil)) (bX (g:=(Tg.nm 0)) (λ_ _ _ _ _=>((eh 0),(kW (Hs hu) B0 U (qv 0) (qv 1))))))) aw))))
 (ai (bc (RO (QPF.w (aO ah (QPF.w (cn (kl U U) pF (by rfl) T.C7 (by kernel_rfl) (ae (QPF.w (b9 U (d7 (qv 7)) (N':=["_law_field","_law_leasts_here"]) (.own U (.got (i:=2) U U (.inl U) .nil)) (bX (g:=(Tg.nm 0)) (λ_ _ _ _ _=>((eh 0),(QPE.f (qW (qv 1) (qv 0)))))))) aw))))) (qv 4))
 (ai (cj (i:=5) (pv 5) (ar (af (QPE.f (qv 6)) (af (QPE.f (qv 7)) aj)))))
 aW))
 aW)))
 (ag (gT (g:=(Tg.tp [6,7])) (au (qv 5) (QPF.w (cn (fX U) nc (by rfl) T.sD (by kernel_rfl) (ae (QPF.w (aX (gY (fi T)) hr T.aY (ae (qv 0) (ae (QPF.w (bN T.cE (ae (qv 5) aw))) aw)))) (ae (QPF.w (aX (gY (fi T)) hr T.aY (ae (qv 0) (ae (QPF.w (bN T.cE (ae (qv 5) aw))) aw)))) aw))))) (ig (bo 6 cZ.nd) (bo 7 cZ.nd)))
 (ag (aB 8 cZ.nd (nt (QPF.w (nt (qv 4) ah)) (QPF.w (cn (kl U U) pF (by rfl) T.C7 (by kernel_rfl) (ae (QPF.w (b9 U (d7 (qv 7)) (N':=["_law_field","_law_leasts_here"]) (.own U (.got (i:=2) U U (.inl U) .nil)) (bX (g:=(Tg.nm 0)) (λ_ _ _ _ _=>((eh 0),(QPE.f (qW (qv 1) (qv 0)))))))) aw)))))
 (ag (aB 9 cZ.nd (aG aj))
 (ag (cg (g:=(Tg.nm 10)) PassesOwn.never U (gU (QPE.f (qv 7))) (bo 10 cZ.nd)
 (ag (aB 11 cZ.nd (aX (gY (fi T)) hr T.aY (ae (qv 0) (ae (QPF.w (aO (qv 8) ah)) aw))))
 (ag (aB 8 cZ.nd (nt (qv 8) (qv 11)))
 (ai (cj (i:=9) (pv 9) (aX xE hr T.xJ (ae (qv 0) (ae (qv 1) (ae (qv 2) (ae (qv 10) (ae (QPF.w (aO (qW (qv 2) (qv 10)) (qv 11))) aw)))))))))))
 (ai (aV (ar (af (QPE.f (qv 6)) (af (bh (bT U) bS (by rfl) T.cU (by kernel_rfl) (ae (qv 9) aw)) aj)))))))))))),λts Q h=>?_)
   let(ks,ds,k,room,v,U,gk,hI,hv,a6,bt,bw,hq):=h;let hk:k∈ks.map (·.1):=hI.sub _ (jG hv);refine(bC uU ks,_,mj ks,_,nN gk.nd hk,nQ _,λi q=>P3 λo6 o7 L=>q=[.r .cY,.r (tKs ks),.r (dT ds),.r (.s k),.r (.i room),.o (.l L),o6,o7,.no,.no,.no,.no]/\L=(((fA ks k).take i).filter (gf ds room)).map tM,(_,_,_,U,U),?_,?_)
   ·rintro i x q hx ⟨o6,o7,L,rfl,rfl⟩
    rw[j5]at hx;let(m,hm,U):=j7.mp hx;refine(_,U,?_);let mm:=pA hm;let(f4,ff,m6):=gk.ma mm;let sn:((fA ks k).take (i+1)).filter (gf ds room)=((fA ks k).take i).filter (gf ds room)++if gf ds room m=O then [m]else []:=by
     rw[ux hm,List.filter_append]
     congr 1
     by_cases e:gf ds room m=O
     ·rw[if_pos e,List.filter_cons_of_pos e];rfl
     ·rw[if_neg e,List.filter_cons_of_neg e];rfl
    refine(aF (by rw[dz];lia),λi ys=>ys=(m.2.take i).map λf=>.b (lk ds f).isSome,U,?_,?_)
    ·rintro i x ys hx rfl
     rw[j5]at hx;let(f,hf,U):=j7.mp hx;refine(_,U,?_);show _ ++ [L2.T.b (bI (ds.map dEn) (.inr f)).isSome]=_;rw[gF,<- take_one hf,zJ,Wm];rfl
    ·rintro ys rfl
     rw[dz,uj];refine(_,xp _ _,?_);refine bE (λg1=>?_) (λg1=>?_)
     ·let g0:∀f∈m.2,(lk ds f).isSome=true:=by simpa using g1
      refine(aF (by rw[dz];lia),λi ys=>ys=(m.2.take i).map λf=>.i ((lk ds f).getD 0),U,?_,?_)
      ·rintro i x ys hx rfl
       rw[j5]at hx;let(f,hf,U):=j7.mp hx;let(u,V):=Vw.mp (g0 f (pA hf));refine(_,U,.i u,by rw[gF,V];rfl,U,?_)
       show _ ++ [L2.T.i u]=_;rw[<- take_one hf,zJ,WZ,V];rfl
      ·rintro ys rfl
       rw[dz,uj];refine(_,ins_map _ _,?_);refine bE (λg2=>?_) (λg2=>?_)
       ·let g2:1+cP ds m.2<=room:=of_decide_eq_true g2;refine(?_,U,?_,_,_,_,U,?_)
        ·exact aF (by rw[dz];exact u4 (Xn _ _) (by rw[zL];lia))
        ·exact bC (λ_=>rfl) m.2
        ·rw[sn,if_pos (by unfold gf;rw[g1,decide_eq_true g2];rfl),zJ]
         rfl
       ·let g2:¬ 1+cP ds m.2<=room:=λz=>g2 (decide_eq_true z)
        refine(_,_,_,U,?_);rw[sn,if_neg (by unfold gf;rw[decide_eq_false g2,Wx];exact qf),sQ]
     ·refine(_,_,_,U,?_);rw[sn,if_neg (by unfold gf;intro z;rw[sO]at z;exact g1 z.1),sQ]
   ·rintro q ⟨o6,o7,L,rfl,rfl⟩
    rw[dz,uj];let(m0,aE,aH,a7):=hI.wt k v hv;let lm:=(gk.ma aE).2.2;let p0:m0∈(fA ks k).filter (gf ds room):=WM.mpr (aE,by unfold gf;rw[decide_eq_true (by lia),Xx];simpa using aH)
    let l0:=Xd p0;let l1:((fA ks k).filter (gf ds room)).length<=6:=u4 (Xn _ _) lm;let l2:(((fA ks k).filter (gf ds room)).map tM).length=((fA ks k).filter (gf ds room)).length:=dz _;refine(by lia,by lia,λr1 a5 a4=>(by lia,by lia,λr2 a3 aS=>?_))
    let(x,ex,hx):=Br (xs:=((fA ks k).filter (gf ds room)).map tM) (i:=if r2 > r1 then r2 else r1) (by split <;> lia) (by split <;> lia)
    let(m,hm,U):=ui.mp hx;let(mm,hp):=WM.mp hm;let(f4,ff,_):=gk.ma mm;unfold gf at hp;rw[sO]at hp;let g0:∀f∈m.2,(lk ds f).isSome=true:=by simpa using hp.1
    let g2:1+cP ds m.2<=room:=of_decide_eq_true hp.2;refine(_,ex,CG m,_,U,?_);refine(aF (by rw[dz];lia),λi ys=>ys=(m.2.take i).map λf=>.i ((lk ds f).getD 0),U,?_,?_)
    ·rintro i x ys hx rfl
     rw[j5]at hx;let(f,hf,U):=j7.mp hx;let(u,V):=Vw.mp (g0 f (pA hf));refine(_,U,.i u,by rw[gF,V];rfl,U,?_)
     show _ ++ [L2.T.i u]=_;rw[<- take_one hf,zJ,WZ,V];rfl
    ·rintro ys rfl
     rw[dz,uj];refine(_,ins_map _ _,?_);let aQ:=hI.sum m.2;refine(bC (λ_=>rfl) m.2,λi q=>Y6 λsp ps o5 aD av L=>q=[.r .cY,.r (tKs ks),.r (dT ds),.r (.s k),.r (.i room),o5,.r (.s m.1),.r (.t (m.2.map .s)),.o (.i sp),.o (.l L),aD,av]/\L=ps/\ps.length=i/\0<=sp/\(∀(j:Nat) f p,m.2[j]?=Z f->ps[j]?=Z p->isN ks n f p=O)/\(∀p∈ps,Ok n p)/\((ps.map (wt n)).sum:Int)+sp<=cP ds (m.2.take i)+(room - 1 - cP ds m.2),(room - 1 - cP ds m.2,[],_,_,_,_,U,U,U,by lia,λj f p _ h=>by simp at h,by simp,by simp[cP]),?_,?_)
     ·rintro i x q hx ⟨sp,ps,o5,aD,av,L,rfl,rfl,hl,s0,hN,hO,hS⟩
      rw[j5]at hx;let(f,hf,U):=j7.mp hx;let(u,V):=Vw.mp (g0 f (pA hf));let hi:=(j3.mp hf).1;let st:=DE (ds:=ds) hf;rw[V]at st;let aM:=oo hI m.2 (i+1);let aI:=hI.sum (m.2.take i);simp only[X3]at st;let u1:=(hI.bd _ (jG V)).1;simp only at u1;refine(_,U,by lia,by lia,λmore h0 h1=>(aF (by lia),.i u,by rw[gF,V];rfl,?_))
      refine(ks,ds,f,u+more,u,U,gk,hI,V,by lia,by lia,by lia,λt t1 t2 t3=>?_)
      refine(sp - more,L ++ [t],_,_,_,_,U,U,by simp[hl],by lia,λj f' p hj hp=>?_,λp hp=>?_,?_)
      ·by_cases e:j=i
       ·subst e;rw[hf]at hj;cases hj;rw[xD (by lia),hl,Wg]at hp
        cases hp;exact t1
       ·by_cases lt:j<i
        ·rw[wh (by lia)]at hp
         exact hN j f' p hj hp
        ·rw[Vt (by simp;lia)]at hp
         cases hp
      ·obtain z|z:=p7.mp hp
       ·exact hO p z
       ·rw[ej.mp z];exact t2
      ·rw[FC]
       lia
     ·rintro q ⟨sp,ps,o5,aD,av,L,rfl,rfl,hl,s0,hN,hO,hS⟩
      rw[dz]at hl;rw[dz,uj]at hS;refine(U,cw λp hp=>(hO p hp).im,?_)
      refine hq _ ?_ ?_ ?_
      ·show(match due ks k (.s m.1) L.length with|some fs=>(fs.zip L).all λp=>isN ks n p.1 p.2|none=>ϊ)=O
       rw[hl,MS gk mm];rw[Fq];intro p hp;let(j,hj):=Wn hp;rw[Fs]at hj;exact hN j _ _ hj.1 hj.2
      ·refine(?_,U,λx y e=>?_,λx ps' e=>?_)
       ·simp[L2.T.im,L2.T.ims,cw λp hp=>(hO p hp).im]
       ·cases e;rfl
       ·cases e;exact(U,by lia,hO)
      ·show((1+(L.map (wt n)).sum:Nat):Int)<=room
       lia
theorem gh(T:Txt K mg a):a8 P w K mg base CX0 1 a.dy a.gZ ["self","body","between"] (spL K 0 (O7 a.aD)):=by
 refine T.fq.okL qM (λts Q h=>?_) (λ_ _ _ _ _ _ hr=>?_) λts Q h=>?_
 ·let(_,_,_,_,_,_,_,U,_):=h;rfl
 ·refine(_,_,((ag (dC T.aH T.aM (aR (j:=0)) (QPE.f (qv 1)))
 (ai (vV T.aH T.je Bf (aR (j:=0)) (QPF.w (aO ah (qv 2))))))),λts Q t0 a0 h g ha=>?_)
  let(x,f,n,p,ns,b,k,U,q,hq):=h;cases g;cases ha;exact(q,U,by decide,_,U,(U,by decide,n,U,_,U,(_,U,U,hq)))
 ·let(x,f,n,p,ns,b,k,U,_):=h;exact(_,_,U,U)
theorem dq(T:Txt K mg a):a8 P w K mg base CX0 2 a.b6 a.dN ["self","value"] (spL K 0 (AJ a.aD)):=by
 refine T.cI.okL ko (λts Q h=>?_) (λ_ _ _ _ _ _ hr=>?_) λts Q h=>?_
 ·let(_,_,_,_,_,_,_,_,U,_):=h;rfl
 ·let hu:=cD hr;refine(_,_,((ag (Kx hu (bA T.aH T.bZ (aR (j:=0))) (au (bF (bA T.aH T.aM (aR (j:=0)))) ah) (qv 1))
 (ai (cC T.aH T.gm (gh T) hr.bz T.g7 (aR (j:=0)) (ae (au (bF (bA T.aH T.aM (aR (j:=0)))) (QPF.w (gW ah))) (ae ah aw)))))),λts Q t0 a0 h ht ha=>?_)
  let(x,f,n,ps,ns,v,y,b,U,hv,q,hl,g,e1,V,hq):=h;cases ht;cases ha;let z:=by
   have:=Xq V
   exact cv g this
  exact(U,_,U,U,_,U,_,cH e1,zI hl (by decide),q,hv,_,U,(U,U,U,_,U,b,xu V,(by show(b.im&&(O&&O))=O;rw[z];rfl),a0,f,n,_,_,b,0,U,z,U,U,_,U,(_,U,U,hq)))
 ·let(x,f,n,ps,ns,v,y,b,U,_):=h;exact(_,_,U,U)
theorem fg(T:Txt K mg a):a8 P w K mg base CX0 1 a.cM a.fK ["self","ending"] (spL K 0 (D6 a.aE)):=by
 refine T.dE.okL ni (λts Q h=>?_) (λ_ _ _ _ _ _ hr=>?_) λts Q h=>?_
 ·let(_,_,_,_,_,_,_,U,_):=h;rfl
 ·refine(_,_,((ag (dC T.aQ T.c5 (aR (j:=0)) (QPE.f (qv 1)))
 (ai (dC T.aQ T.bP (aR (j:=0)) (aG aj))))),λts Q t0 a0 h g ha=>?_)
  let(x,fns,frs,c,m,e,v,U,hv,hq):=h;cases g;cases ha;exact(hv,U,by decide,_,U,(U,by decide,_,U,(_,U,U,hq)))
 ·let(x,fns,frs,c,m,e,v,U,_):=h;exact(_,_,U,U)
theorem tX(T:Txt K mg a):a8 P w K mg base CX0 1 a.eD a.iX ["self"] (spQ K (AI a.aE λc _ _=>.i c)):=by
 refine T.fU.okQ tE (λts Q h=>?_) (λ_ _ _ _ _ _ hr=>?_)
 ·let(_,_,_,_,_,_,U,_):=h;rfl
 ·refine(_,_,((ai (aV (QPE.f (pL T.aQ T.fj (qv 0)))))),λts Q h=>?_)
  let(x,fns,frs,c,m,e,U,he,hq):=h;exact(U,_,U,U,hq)
theorem tV(T:Txt K mg a):a8 P w K mg base CX0 1 a.eC a.iW ["self"] (spQ K (AI a.aE λ_ m _=>.i m)):=by
 refine T.fS.okQ tD (λts Q h=>?_) (λ_ _ _ _ _ _ hr=>?_)
 ·let(_,_,_,_,_,_,U,_):=h;rfl
 ·refine(_,_,((ai (aV (QPE.f (pL T.aQ T.iR (qv 0)))))),λts Q h=>?_)
  let(x,fns,frs,c,m,e,U,he,hq):=h;exact(U,_,U,U,hq)
theorem yM(T:Txt K mg a):a8 P w K mg base CX0 1 a.gy a.lg ["self"] (spQ K (AI a.aE λ_ _ e=>e)):=by
 refine T.jb.okQ ya (λts Q h=>?_) (λ_ _ _ _ _ _ hr=>?_)
 ·let(_,_,_,_,_,_,U,_):=h;rfl
 ·refine(_,_,((ai (aV (QPE.f (pL T.aQ T.c5 (qv 0)))))),λts Q h=>?_)
  let(x,fns,frs,c,m,e,U,he,hq):=h;exact(U,_,U,he,hq)
theorem wF(T:Txt K mg a):a8 P w K mg base CX0 1 a.gI a.oB ["value"] (spQ K O5):=by
 refine T.oN.F.okQ fO (λts Q h=>?_) (λ_ _ _ _ _ _ hr=>?_)
 ·let(v,U,_):=h;rfl
 ·refine(_,_,((ag (aB 1 fO.nd (aG aj))
 (ag (aB 2 fO.nd (aG (af (QPE.f (qv 0)) aj)))
 (ag (lY PassesOwn.never (fu (qv 2))
 (ag (Gv (j:=3) fO.nd U (Or.inl U) (pv 2))
 (ag (cj (pv 1) (QPE.f (au (qv 3) ah)))
 (ai (uI (pv 2) (yk U U T.sE U T.lj (au (qv 3) ah)))))))
 (ai (ka (pv 1))))))),λts Q h=>?_)
  let(v,U,hv,hq):=h;refine(v.im,λc q=>∃(L:List Str)(W:List Vl)(LL g:List L2.T)(o3:Sl),q=[.r v.t,.o (.l LL),.o (.l g),o3]/\LL=L.map .s/\g=W.map Vl.t/\L.length+Vl.szs W=v.sz/\c=Vl.szs W,(_,[],[v],_,_,_,U,U,U,by rw[Vl.szs,Vl.szs];simp,U),?_)
  rintro c q ⟨L,W,LL,g,o3,rfl,rfl,rfl,hl,rfl⟩
  obtain rfl |⟨V,u,rfl⟩:=Xm W
  ·rw[Vl.szs]at hl;exact hq L (by lia)
  ·let e1:(V ++ [u]).map Vl.t=V.map Vl.t ++ [.t [.s u.mm,.t (u.ps.map Vl.t)]]:=by rw[zJ,<- Vl.Aa];rfl
   let e2:Vl.szs (V ++ [u])=Vl.szs V+(1+Vl.szs u.ps):=by
    rw[Vl.j8,Vl.szs];cases u with
    |mk m ps=>rfl
   let h1:=Vl.mx V;let h2:=Vl.mx u.ps;rw[List.concat_eq_append]at *;rw[e1];refine bE (λ_=>(λq'=>∃(L:List Str)(W:List Vl)(LL g:List L2.T)(o3:Sl),q'=[.r v.t,.o (.l LL),.o (.l g),o3]/\LL=L.map .s/\g=W.map Vl.t/\L.length+Vl.szs W=v.sz/\Vl.szs W<Vl.szs (V ++ [u]),?_,?_)) (λz=>absurd (by simp) z)
   ·rintro q' ⟨L,W,LL,g,o3,rfl,rfl,rfl,g1,g2⟩
    exact(Vl.szs W,g2,L,W,_,_,_,U,U,U,g1,U)
   ·refine(_,_,U,(by rw[<- e1];exact Vl.ims _),by decide,?_)
    refine(bx (by rw[dz];lia),.s u.mm,U,U,?_)
    refine(.t (u.ps.map Vl.t),U,Vl.ims _,P1 (bx (by simp only[dz,UR];lia)),?_)
    refine(L ++ [u.mm],V++u.ps.reverse,_,_,_,U,by simp,by simp,?_,?_)
    ·rw[Vl.j8,Vl.vv,px];show L.length+1+_=_
     lia
    ·rw[Vl.j8,Vl.vv];lia
theorem L3(T:Txt K mg a):a8 P w K mg base CX0 2 a.xb a.IF ["value"] (spQ K Up):=by
 refine T.Jr.F.okQ Ke (λts Q h=>?_) (λ_ _ _ _ _ _ hr=>?_)
 ·let(v,U,_):=h;rfl
 ·refine(_,_,((ai (aV (bN T.cE (ae (QPF.w (aX (wF T) hr T.oN (ae (qv 0) aw))) aw))))),λts Q h=>?_)
  let(v,U,hv,hq):=h;refine(v,U,hv,λL g=>?_)
  rw[<- g]at hq;let e:((L.map L2.T.s).length)=(L.length):=by rw[dz]
  rw[<- e]at hq;exact hq
theorem xZ:∀g:List Vl,Vl.szs (g.flatMap Vl.ps)+g.length=Vl.szs g
 |[]=>rfl
 |.mk m ps::r=>by
  rw[XX,Vl.j8,Vl.szs,Vl.sz,rl,<- xZ r];show Vl.szs ps+_+_=_
  lia
theorem zj:∀{g:List Vl},g ≠ []->Vl.dps (g.flatMap Vl.ps)+1=Vl.dps g
 |.mk m ps::r,_=>by
  rw[XX,Vl.CN,Vl.dps,Vl.dp];show max (Vl.dps ps) _+1=_;cases r with
  |nil=>show max (Vl.dps ps) 0+1=max _ 0;lia
  |cons v r=>rw[<- zj (Ni v r)];lia
theorem HA(T:Txt K mg a):a8 P w K mg base CX0 1 a.pZ a.C1 ["value"] (spQ K Ur):=by
 refine T.Dv.F.okQ f6 (λts Q h=>?_) (λ_ _ _ _ _ _ hr=>?_)
 ·let(v,U,_):=h;rfl
 ·refine(_,_,((ag (aB 1 f6.nd bO)
 (ag (aB 2 f6.nd (aG (af (QPE.f (qv 0)) aj)))
 (ag (lY PassesOwn.never (fu (qv 2))
 (ag (B8 (i:=1) f6.nd ah)
 (ag (aB 3 f6.nd (aG aj))
 (ag (cg (g:=(Tg.nm 4)) PassesOwn.never U (KJ (pv 2)) (bo 4 f6.nd)
 (ai (KC (pv 3) (au (qv 4) ah))))
 (ai (KA (i:=2) f6.nd (pv 3)))))))
 (ai (aV (QPE.f (qv 1)))))))),λts Q h=>?_)
  let(v,U,hv,hq):=h;refine(v.im,λc q=>∃(V:List Vl)(d:Nat)(LY:List L2.T)(dI:Int)(o3 o4:Sl),q=[.r v.t,.o (.i dI),.o (.l LY),o3,o4]/\LY=V.map Vl.t/\dI=d/\d+Vl.dps V=v.dp/\Vl.szs V<=v.sz/\c=Vl.dps V,(_,[v],0,_,_,_,_,U,U,U,?_,?_,U),?_)
  ·rw[Vl.dps,Vl.dps];lia
  ·rw[Vl.szs,Vl.szs];lia
  rintro c q ⟨V,d,LY,dI,o3,o4,rfl,rfl,rfl,hd,hs,rfl⟩
  cases V with
  |nil =>
   have:d=v.dp:=by rw[Vl.dps]at hd;lia
   subst this;exact(U,hq)
  |cons u r =>
   let aD:u::r ≠ []:=Ni _ _;let f1:=zj aD;let f2:=xZ (u::r)
   generalize u::r=V at *
   refine bE (λ_=>(λq'=>∃(av:List Vl)(LY:List L2.T)(dI:Int)(o3 o4:Sl),q'=[.r v.t,.o (.i dI),.o (.l LY),o3,o4]/\LY=av.map Vl.t/\dI=(d+1:Nat)/\av=V.flatMap Vl.ps,?_,?_)) (λz=>absurd (by cases V with|nil=>exact absurd rfl aD|cons _ _=>rfl) z)
   ·rintro q' ⟨av,LY,dI,o3,o4,rfl,rfl,rfl,rfl⟩
    exact(_,by lia,V.flatMap Vl.ps,d+1,_,_,_,_,U,U,U,by lia,by lia,U)
   ·refine((d:Nat),U,((λi q=>∃(BB:List L2.T)(o4:Sl),q=[.r v.t,.o (.i (d+1)),.r (.l (V.map Vl.t)),.o (.l BB),o4]/\BB=((V.take i).flatMap Vl.ps).map Vl.t,(_,_,U,U),λi z q hz hi=>?_,λq hi=>?_)))
    ·let(BB,o4,U,U):=hi;rw[j5]at hz;let(t,ht,U):=j7.mp hz;rw[Vl.Aa];let hlen:=Vl.mx (V.flatMap Vl.ps);let aE:V.take (i+1)=V.take i ++ [t]:=by rw[u3,ht];rfl
     let S3:((V.take i).flatMap Vl.ps).length+t.ps.length <=(V.flatMap Vl.ps).length:=by
      let h3:((V.take (i+1)).flatMap Vl.ps).length <=(V.flatMap Vl.ps).length:=by
       conv=>rhs;rw[<- WB (i+1) V,Xu,px]
       lia
      rw[aE,Xu]at h3;simpa using h3
     refine(_,U,.t (t.ps.map Vl.t),U,Vl.ims _,P1 (bx (by simp only[dz];lia)),_,_,U,?_)
     rw[aE];simp
    ·let(BB,o4,U,U):=hi;rw[dz,uj];exact(by decide,by show 2<5;decide,V.flatMap Vl.ps,_,_,_,_,U,U,U,U)
theorem gg(T:Txt K mg a):a8 P w K mg base CX0 1 a.cx a.eJ ["self","names"] (spQ K (AH a.aD)):=by
 refine T.cV.okQ kR (λts Q h=>?_) (λ_ _ _ _ _ _ hr=>?_)
 ·let(_,_,_,_,_,_,_,U,_):=h;rfl
 ·refine(_,_,((ai (aV (bh (bT U) bS (by rfl) T.cU (by kernel_rfl) (ae (QPF.w (b9 U (d7 (qv 1)) (N':=["name","self"]) (.own U (.got (i:=0) U U (.inl U) .nil)) (bX (g:=(Tg.nm 0)) (λ_ _ _ _ _=>((eh 0),(QPE.f (bb (pL T.aH T.bZ (qv 1)) (qv 0)))))))) aw))))),λts Q h=>?_)
  let(x,f,n,p,ns,ys,vs,U,hy,(hl,hv),hq):=h;refine(bx (by rw[dz];lia),λi zs=>zs=vs.take i,U,λi z zs V e=>?_,λzs e=>?_)
  ·subst e;rw[j5]at V;let(y,q,U):=j7.mp V;let(v,h1,h2,h3):=hv i y q;refine(_,U,U,_,U,v,h2,h3,?_);rw[u3,h1];rfl
  ·subst e;rw[dz,<- hl,uj];refine(cw λt ht=>?_,hq)
   let(i,hi,U):=zN ht;let(v,h1,h2,h3):=hv i (ys[i]'(by lia)) (eO (by lia))
   rw[eO hi]at h1;cases h1;exact h3
theorem kI(T:Txt K mg a)(t2:Bool):a8 P w K mg base CX0 1 a.dh a.iY ["self","functions","f","values"] (spL K 0 (yu a.aD t2)):=by
 refine T.fV.okL tG (λts Q h=>?_) (λ_ _ _ _ _ _ hr=>?_) λts Q h=>?_
 ·let(_,_,_,_,_,_,U,_):=h;rfl
 ·refine(_,_,((ag (dC T.aH T.A1 (aR (j:=0)) (QPE.f (qv 2)))
 (ag (dC T.aH T.je (aR (j:=0)) bO)
 (ag (dC T.aH T.aM (aR (j:=0)) (QPE.f (au (au (qv 1) (qv 2)) ah)))
 (ai (dC T.aH T.bZ (aR (j:=0)) (qX (t2:=t2) U T.nY U T.C6 (ae (QPF.w (b9 U (d7 (au (au (qv 1) (qv 2)) ah)) (N':=["name","kind"]) (.own U (.own U .nil)) (bX (g:=(Tg.tp [0,1])) (λ_ _ _ _ _=>((ig (eh 0) (eh 1)),(QPE.f (qv 0))))))) (ae (qv 3) aw))))))))),λts Q t0 a0 h ht ha=>?_)
  let(x,gs,f,g,vs,u,U,av,hg,hl,q,V,hq):=h;cases ht;cases ha;let eg:atI (gs.map WF.t) (f)=Z g.t:=cH (by rw[j5,hg];rfl)
  let aE:=cv av (VR (pA hg));let aI:=by
   let h:(g.nm.im&&((L2.T.t (g.prs.map λp=>.t [.s p.1,p.2])).im&&(g.kd.im&&(g.b.im&&O))))=true:=aE
   simp only[sO]at h;exact h.2.2.2.1
  refine(U,U,by decide,_,U,(U,by decide,_,U,(g.t,eg,g.b,U,aI,U,by decide,_,U,(g.t,eg,_,U,bx (by rw[dz];omega),λi ys=>ys=((g.prs.take i).map λp=>L2.T.s p.1),U,λi z ys hz hi=>?_,λys e=>?_))))
  ·subst hi;rw[j5]at hz;let(p,hp,U):=j7.mp hz;refine(_,U,U,?_);rw[u3,hp];simp
  ·subst e;rw[dz,uj];let ek:jI (g.prs.map λp=>L2.T.s p.1)=Z (g.prs.map λp=>(.inr p.1)):=by
    induction g.prs with
    |nil=>rfl
    |cons p r ih=>rw[xG,jI,ih];rfl
   obtain⟨rfl,rfl⟩|⟨rfl,rfl|rfl⟩:=V
   ·exact(U,q,_,ek,U,by decide,_,U,(_,U,U,hq))
   ·exact(U,q,_,ek,U,by decide,_,U,(_,U,U,hq))
   ·exact(U,q,_,ek,U,by decide,_,U,(_,U,U,hq))
 ·let(x,gs,f,g,vs,u,U,_):=h;exact(_,_,U,U)
theorem wI(T:Txt K mg a)(t2:Bool):a8 P w K mg base CX0 3 a.dR a.jR ["self","program","f","args","coins"] (spL K 0 (AG a.aE a.aD t2)):=by
 refine T.gM.okL vC (λts Q h=>?_) (λ_ _ _ _ _ _ hr=>?_) λts Q h=>?_
 ·let(_,_,_,_,_,_,_,_,U,_):=h;rfl
 ·refine(_,_,((ag (dC T.aQ T.cT (aR (j:=0)) (QPE.f (au (qv 1) ah)))
 (ag (dC T.aQ T.bP (aR (j:=0)) (aG (af (qV T.yT (kI T t2) hr.bz U T.yS T.mP (ae (bF (bA T.aQ T.cT (aR (j:=0)))) (ae (qv 2) (ae (qv 3) aw)))) aj)))
 (ag (dC T.aQ T.fj (aR (j:=0)) (QPE.f (qv 4)))
 (ag (dC T.aQ T.iR (aR (j:=0)) bO)
 (ai (dC T.aQ T.c5 (aR (j:=0)) cS))))))),λts Q t0 a0 h ht ha=>?_)
  let(x,ks,gs,f,g,vs,u,c,U,q,hg,hl,i4,i5,V,hq):=h;cases ht;cases ha;let hi:=q;exact(_,U,hi,U,by decide,_,U,(U,_,U,λz=>(z,gs,f,g,vs,u,U,q,hg,hl,i4,V,U,U,(U,by decide,_,U,(U,U,by decide,_,U,(U,by decide,_,U,(U,by decide,_,U,(_,U,U,hq z))))))))
 ·let(x,ks,gs,f,g,vs,u,c,U,_):=h;exact(_,_,U,U)
theorem nK(T:Txt K mg a):a8 P w K mg base CX0 3 a.cN a.fL ["self","frame","word"] (spL K 0 (D7 a.aE a.aD)):=by
 refine T.dF.okL ib (λts Q h=>?_) (λ_ _ _ _ _ _ hr=>?_) λts Q h=>?_
 ·let(_,_,_,_,_,_,_,_,_,_,_,_,U,_):=h;rfl
 ·let V:=cD hr;refine(_,_,((ag (aB 3 ib.nd (QPE.f (au (bF (bA T.aH T.aM (cR (j:=0) (i:=1)))) ah)))
 (ai (bc (QPW.pt (kU (bV V (qv 2) (QPF.w az)) (iH (qT (qv 3) (bF (bA T.aQ T.fj (aR (j:=0))))))))
 (ai (cC T.aQ T.fh (fg T) hr.bz T.fM (aR (j:=0)) (ae (QPF.w (ar (af az (af (QPE.f (qv 3)) aj)))) aw)))
 (ag (vV T.aQ T.fj Bf (aR (j:=0)) (QPF.w (Nz (bV V (qv 2) (QPF.w az)) (QPE.f (qv 3)) (gW (qv 3)))))
 (ai (cC T.aH T.gm (gh T) hr.bz T.g7 (cR (j:=0) (i:=1)) (ae (au (bF (bA T.aH T.aM (cR (j:=0) (i:=1)))) ah) (ae ah aw))))))))),λts Q t0 a0 h ht ha=>?_)
  let(x0,x,fns,frs,f,n,wd,k,b,ns,c,m,U,q,hw,h1,h2,h3):=h;cases ht;cases ha;refine(x,_,wy frs,_,_,_,.inl U,U,aU,U,_,U,.i k,U,U,?_);obtain rfl|rfl:=hw
  ·refine(U,U,_,U,bE (λg=>?_) λg=>?_)
   ·exact(U,U,U,U,a0,_,_,c,m,.n,_,U,U,U,U,_,U,((_,U,U,h1 (U,of_decide_eq_true g))))
   ·refine(U,by decide,c,U,U,_,U,(x,_,wy frs,_,_,_,.inl U,U,aU (c:=c + -k),U,U,x,_,wy frs,_,_,_,.inl U,U,aU (c:=c + -k),U,_,U,b,U,(by show(b.im&&(O&&O))=O;rw[q];rfl),x,f,n,_,ns,b,0,U,q,U,U,_,U,?_))
    exact(_,U,ki (h2 (U,λz=>g (decide_eq_true z))))
  ·refine(U,U,by decide,c,U,U,U,_,U,(x,_,wy frs,_,_,_,.inl U,U,aU (c:=c+k),U,U,x,_,wy frs,_,_,_,.inl U,U,aU (c:=c+k),U,_,U,b,U,(by show(b.im&&(O&&O))=O;rw[q];rfl),x,f,n,_,ns,b,0,U,q,U,U,_,U,?_))
   exact(_,U,ki (h3 U))
 ·let(x0,x,fns,frs,f,n,wd,k,b,ns,c,m,U,_):=h;exact(_,_,U,U)
theorem oT(T:Txt K mg a):a8 P w K mg base CX0 3 a.c6 a.gA ["self","frame"] (spL K 0 (GY a.aE a.aD)):=by
 refine T.eQ.okL jc (λts Q h=>?_) (λ_ _ _ _ _ _ hr=>?_) λts Q h=>?_
 ·let(_,_,_,_,_,_,_,_,_,_,_,_,_,_,U,_):=h;rfl
 ·refine(_,_,((ag (aB 2 jc.nd (ar (af (QPE.f (au (bF (bA T.aH T.aM (cR (j:=0) (i:=1)))) ah)) (af (yj T.aH T.gj (gg T) hr.bz T.gK (bF (cR (j:=0) (i:=1))) (ae (au (bF (bA T.aH T.aM (cR (j:=0) (i:=1)))) ah) aw)) aj))))
 (ai (bc (QPW.pt (uG (qT (QPF.w (aX (L3 T) hr T.Jr (ae (qv 2) aw))) (QPF.w (yn U T.um))) (vT (qT (QPF.w (aX (HA T) hr T.Dv (ae (qv 2) aw))) (QPF.w (yn U T.uk))))))
 (ai (cC T.aQ T.fh (fg T) hr.bz T.fM (aR (j:=0)) (ae (QPF.w (ar (af az (af (QPE.f (au (bF (bA T.aH T.aM (cR (j:=0) (i:=1)))) ah)) aj)))) aw)))
 (ai (cC T.aH T.dt (dq T) hr.bz T.dO (cR (j:=0) (i:=1)) (ae (qv 2) aw))))))),λts Q t0 a0 h ht ha=>?_)
  let(x0,x,fns,frs,f,n,y,mk,ys,vs,b,ns,c,m,U,hb,aS,hl,av,a3,hsz,q,aI):=h;cases ht;cases ha;let z:(L2.T.t [.s mk,.t (vs.map Vl.t)])=(Vl.mk mk vs).t:=by rw[Vl.Aa];rfl
  refine(x,_,wy frs,_,_,_,.inl U,U,aU,U,_,U,.s mk,U,U,(x,_,wy frs,_,_,_,.inl U,U,aU,U,U,(x,_,wy frs,_,_,_,.inl U,U,aU,U,_,U,.t (ys.map .s),U,(x,f,n,_,ns,ys,vs.map Vl.t,U,av,a3,(Vl.mk mk vs,by rw[<- z],hsz,?_)))))
  let g:(L2.T.t [.s mk,.t (vs.map Vl.t)]).im=true:=by rw[z];exact Vl.im _
  let V:=by
   show(O&&(O&&(O&&(L2.T.ims (ys.map .s)&&(b.im&&O)))))=O;rw[bu,hb];rfl
  refine bE (λg1=>?_) (λg1=>?_)
  ·let g1:=of_decide_eq_true g1;refine(U,U,x,_,wy frs,_,_,_,.inl U,U,aU,U,_,U,.s mk,U,U,U,a0,_,_,c,m,.n,_,U,U,U,U,_,U,?_);exact(_,U,U,q (.inl (by lia)))
  ·refine(Vl.mk mk vs,by rw[<- z],hsz,bE (λg2=>?_) (λg2=>?_))
   ·refine(U,U,x,_,wy frs,_,_,_,.inl U,U,aU,U,_,U,.s mk,U,U,U,a0,_,_,c,m,.n,_,U,U,U,U,_,U,?_);exact(_,U,U,q (.inr (by lia)))
   ·refine(x,_,wy frs,_,_,_,.inl U,U,aU,U,U,(by show((L2.T.t [.s mk,.t (vs.map Vl.t)]).im&&O)=O;rw[g];rfl),x,f,n,_,ns,_,y,b,U,g,aS,hl,V,U,U,U,U,_,U,?_)
    let hq:=aI (by lia)
    rw[<- z]at hq;exact(_,U,ki hq)
 ·let(x0,x,fns,frs,f,n,y,mk,ys,vs,b,ns,c,m,U,_):=h;exact(_,_,U,U)
theorem wD(T:Txt K mg a):a8 P w K mg base CX0 1 a.gH a.oA ["functions","name"] (spQ K GU):=by
 refine T.oM.F.okQ iF (λts Q h=>?_) (λ_ _ _ _ _ _ hr=>?_)
 ·let(_,_,_,_,U,_):=h;rfl
 ·let hu:=cD hr;refine(_,_,((ag (cg (g:=(Tg.tp [2,3])) PassesOwn.never U (KN U T.jW (by kernel_rfl) (ae (qv 0) aw)) (ig (bo 2 iF.nd) (bo 3 iF.nd))
 (ai (bc (bV hu (au (qv 3) ah) (qv 1))
 (ai (aV (QPE.f (qv 2))))
 aW)))
 (ai (aV cS)))),λts Q h=>?_)
  let(gs,nm,f,g,U,aI,hg,aM,aH,hq):=h;let aQ:=(j3.mp hg).1;refine(aI,λi q=>(∃o2 o3,q=[.r (.t (gs.map WF.t)),.r (.s nm),o2,o3])/\i<=f,((_,_,U),Jf _),?_,?_)
  ·rintro i x q hx ⟨⟨o2,o3,rfl⟩,av⟩
   let(y,hy,U):=jN hx;rw[j5]at hy;let(g',aD,U):=j7.mp hy;obtain z|rfl:=W0 av
   ·let(s',e,aE):=aH i g' z aD;exact(_,U,.s s',by show Z g'.nm=_;rw[e],U,bE (λg=>(absurd (V.str.inj (of_decide_eq_true g)) aE)) λg=>((_,_,U),z))
   ·rw[hg]at aD;cases aD;refine(_,U,.s nm,by show Z g.nm=_;rw[aM],U,bE (λ_=>(U,hq)) λz=>absurd (decide_eq_true U) z)
  ·rintro q ⟨_,av⟩
   rw[dU,dz]at av
   lia
theorem kg(T:Txt K mg a):∀k:Nat,a8 P w K mg base CX0 (k+1) a.mE a.zq ["_law_body_here"] (spQ K (GV k))
 | 0=>never λts Q h=>by let(_,_,_,h,_):=h;cases h
 |k+1=>by
  let fG:=kg T k;refine T.iB.F.okQ e7 (λts Q h=>?_) (λ_ _ _ _ _ _ hr=>?_)
  ·let(_,_,U,_):=h;rfl
  ·let hu:=cD hr;refine(_,_,((ag (aB 1 e7.nd (aG (af (QPE.f (qv 0)) aj)))
 (ag (bc (bV hu (au (qv 0) ah) (QPF.w az))
 (ai (cg (g:=(Tg.tp [2,3,4])) PassesOwn.never U (gU (QPE.f (au (qv 0) ah))) (d9 (K:=K) (n:=3) U U (aL (bo 2 e7.nd) (aL (bo 3 e7.nd) (aL (bo 4 e7.nd) d8))))
 (ai (aB 1 e7.nd (aO (qv 1) (QPF.w (aX fG hr T.iB (ae (qv 4) aw))))))))
 (ai (bc (bW NK FL (bH _) (au (qv 0) ah) (QPF.w az))
 (ai (aB 1 e7.nd (aO (qv 1) (QPF.w (aX fG hr T.iB (ae (au (qv 0) (QPF.w (gW ah))) aw))))))
 aW)))
 (ai (ka (i:=1) (pv 1)))))),λts Q h=>?_)
   let(b,L,U,hL,hlen,hq):=h;let aI:=hL.ims;let av:=hL.im;cases hL with
   |@give _ y=>exact(U,_,U,U,_,U,U,hq)
   |@more _ wd ps b' L' h1 h2 h3 h4 h5 h6 =>
    let e0:=cH h1;let n1:=λz=>h3 (V.str.inj (of_decide_eq_true z))
    let n2:¬(!decide ((L2.T.s wd).v=(L2.T.s "give").v))=false:=λz=>h2 (V.str.inj (of_decide_eq_true (by cases hz:decide ((L2.T.s wd).v=(L2.T.s "give").v)with|true=>exact hz|false=>rw[hz]at z;cases z)))
    rw[rl]at hlen;refine(av,_,e0,U,bE (λz=>absurd z n1) λ_=>?_)
    refine(_,e0,U,bE (λ_=>?_) λz=>absurd (by simpa using z) n2)
    exact(b',xu h4,b',L',U,h6,by lia,P1 (bx (by show 1+L'.length<=_;lia)),(by show((L2.T.t ps).im&&O)=O;rw[av];rfl),h6.ims,hq)
   |@case _ x arms Ls hl h2 h3 =>
    refine(av,_,U,U,bE (λ_=>?_) λz=>absurd (by decide +kernel) z)
    let len:∀i,((Ls.take i).flatten).length<=Ls.flatten.length:=λi=>by
     conv=>rhs;rw[<- WB i Ls,Xv,px]
     lia
    rw[rl]at hlen;obtain⟨b0,aD⟩:∃b0:L2.T,b0=.t [.s "case",.s x,.t (arms.map fD)]:=(_,U)
    refine(_,U,h3,λi q=>∃(LL:List L2.T)(o2 o3 o4:Sl),q=[.r b0,.o (.l LL),o2,o3,o4]/\LL=b0 ::(Ls.take i).flatten,(_,_,_,_,by rw[aD];rfl,by rw[aD];rfl),?_,?_)
    ·rintro i y q hy ⟨LL,o2,o3,o4,rfl,rfl⟩
     rw[j5]at hy;let(z,hz,U):=j7.mp hy;let hi:=(j3.mp hz).1;let aH:Ls[i]?=Z (Ls[i]'(by lia)):=eO (by lia)
     let aE:=h2 i z _ hz aH;let e1:(Ls.take (i+1)).flatten=(Ls.take i).flatten++Ls[i]'(by lia):=by
      rw[u3,aH,Xv];simp
     let l1:=len (i+1);rw[e1,px]at l1;let U5:b0.im=true:=by rw[aD];exact av
     let i1:L2.T.ims (b0 ::(Ls.take i).flatten)=true:=cw λt ht=>by
      obtain rfl|ht:=kf.mp ht
      ·exact U5
      ·refine cv aI (j0 _ ?_);let(M,hM,ht):=WG.mp ht;exact WG.mpr (M,VP hM,ht)
     refine(_,U,z.2.2,_,U,aE,by lia,P1 (bx (by rw[rl];lia)),i1,aE.ims,_,_,_,_,U,?_)
     rw[e1];rfl
    ·rintro q ⟨LL,o2,o3,o4,rfl,rfl⟩
     rw[dz,<- hl,uj,aD];exact hq
theorem yJ(T:Txt K mg a):∀k:Nat,a8 P w K mg base CX0 (k+1) a.pV a.CV ["_law_value_here"] (spQ K (Lf k))
 | 0=>never λts Q h=>by let(v,_,h,_):=h;cases v with|mk m ps=>rw[Vl.dp]at h;lia
 |k+1=>by
  let xF:=yJ T k;refine T.xM.F.okQ x6 (λts Q h=>?_) (λ_ _ _ _ _ _ hr=>?_)
  ·let(_,U,_):=h;rfl
  ·refine(_,_,((ag (kb (i:=1) x6.nd U (Or.inl U) U (d7 (au (qv 0) ah)) (N':=["_law_part"]) (.own U .nil) (bX (g:=(Tg.nm 0)) (λ_ _ _ _ _=>((eh 0),(aX xF hr T.xM (ae (qv 0) aw))))))
 (ai (aV (ar (af (aO ah (QPF.w (cn (kl U U) pF (by rfl) T.C7 (by kernel_rfl) (ae (QPF.w (b9 U (kc (qv 1)) (N':=["_law_one"]) (.own U .nil) (bX (g:=(Tg.nm 0)) (λ_ _ _ _ _=>((eh 0),(QPE.f (au (qv 0) ah))))))) aw)))) (af (aO ah (QPF.w (KS T.sD (QPF.w (b9 U (kc (qv 1)) (N':=["_law_one"]) (.own U .nil) (bX (g:=(Tg.nm 0)) (λ_ _ _ _ _=>((eh 0),(QPE.f (au (qv 0) ah)))))))))) aj))))))),λts Q h=>?_)
   let(v,U,hd,hs,hq):=h;rw[Vl.Aa];let aD:=Vl.mx v.ps;let ev:v.sz=1+Vl.szs v.ps:=by cases v with|mk m ps=>rw[Vl.sz];rfl
   let ed:v.dp=1+Vl.dps v.ps:=by cases v with|mk m ps=>rw[Vl.dp];rfl
   refine(_,U,bx (by rw[dz];lia),λi ys=>ys=(v.ps.take i).map λu=>L2.T.t [.i (u.sz:Nat),.i (u.dp:Nat)],U,λi z ys V e=>?_,λys e=>?_)
   ·subst e;rw[j5]at V;let(u,q,U):=j7.mp V;let hm:=pA q;let aE:=Vl.Bm hm;let av:=Vl.Ac hm;refine(_,U,u,U,by lia,by lia,?_)
    rw[u3,q];simp
   ·subst e;rw[dz,uj];refine(bx (by rw[dz];lia),λi ys=>ys=(v.ps.take i).map λu=>L2.T.i (u.sz:Nat),U,λi z ys V e=>?_,λys e=>?_)
    ·subst e;rw[j5]at V;let(u,q,U):=j7.mp V;refine(_,U,_,U,U,?_);rw[u3,q];simp
    ·subst e;rw[dz,uj];refine(v.ps.map λu=>((u.sz:Nat):Int),by rw[<- L2.ins_map,Jg];rfl,?_)
     refine(bx (by rw[dz];lia),λi ys=>ys=(v.ps.take i).map λu=>L2.T.i (u.dp:Nat),U,λi z ys V e=>?_,λys e=>?_)
     ·subst e;rw[j5]at V;let(u,q,U):=j7.mp V;refine(_,U,_,U,U,?_);rw[u3,q];simp
     ·subst e;rw[dz,uj];refine(v.ps.map λu=>((u.dp:Nat):Int),by rw[Jg];rfl,?_)
      rw[Vl.BP,Vl.MT];let e1:(1:Int)+((Vl.szs v.ps:Nat):Int)=((v.sz:Nat):Int):=by lia
      let e2:(1:Int)+((Vl.dps v.ps:Nat):Int)=((v.dp:Nat):Int):=by lia
      rw[<- e1,<- e2]at hq;exact hq
theorem yL(T:Txt K mg a)(t2:Bool):a8 P w K mg base CX0 1 a.p8 a.C2 ["_law_program_here","_law_f","_law_args_here","_law_coins"] (spQ K (Lk t2)):=by
 refine T.xP.F.okQ x9 (λts Q h=>?_) (λ_ _ _ _ _ _ hr=>?_)
 ·let(_,_,_,_,_,_,_,U,_):=h;rfl
 ·refine(_,_,((ag (aB 4 x9.nd (qX (t2:=t2) U T.nY U T.C6 (ae (QPF.w (b9 U (d7 (au (au (au (qv 0) ah) (qv 1)) ah)) (N':=["_law_param"]) (.own U .nil) (bX (g:=(Tg.nm 0)) (λ_ _ _ _ _=>((eh 0),(QPE.f (au (qv 0) ah))))))) (ae (qv 2) aw))))
 (ai (Gw (i:=4) (aV (GA (lZ (QPF.w az) (QPF.w (df (aG (af (ar (af (QPE.f (qv 1)) (af bO (af (QPE.f (qv 4)) aj)))) aj)))) (lZ (QPF.w az) (qv 3) (lZ (QPF.w az) ah (lZ (QPF.w az) (QPF.w cS) KG)))))))))),λts Q h=>?_)
  let(ks,gs,f,g,vs,u,c,U,aE,hg,hl,hv,aD,av,hq):=h;let eg:atI (gs.map WF.t) (f)=Z g.t:=cH (by rw[j5,hg];rfl)
  refine(_,U,g.t,eg,_,U,bx (by rw[dz];lia),λi ys=>ys=((g.prs.take i).map λp=>L2.T.s p.1),U,λi z ys hz hi=>?_,λys e=>?_)
  ·subst hi;rw[j5]at hz;let(p,hp,U):=j7.mp hz;refine(_,U,_,U,U,?_);rw[u3,hp];simp
  ·subst e;rw[dz,uj];let ek:jI (g.prs.map λp=>L2.T.s p.1)=Z (g.prs.map λp=>(.inr p.1)):=by
    induction g.prs with
    |nil=>rfl
    |cons p r ih=>rw[xG,jI,ih];rfl
   let V:L2.T.imk (g.names vs)=true:=WF.yQ hv;let q:((O&&(O&&(L2.T.gc (g.names vs)&&O)))&&O)=true:=by rw[WF.nL aD];rfl
   obtain⟨rfl,rfl⟩|⟨rfl,rfl|rfl⟩:=av
   ·exact(U,hv,_,ek,V,λo ws=>(U,U,q,U,U,U,U,hq o ws))
   ·exact(U,hv,_,ek,V,λo ws=>(U,U,q,U,U,U,U,hq o ws))
   ·exact(U,hv,_,ek,V,λo ws=>(U,U,q,U,U,U,U,hq o ws))
theorem uQ(T:Txt K mg a):a8 P w K mg base CX0 1 a.mG a.zt ["_law_state","_law_end"] (spM K 0 GX):=by
 refine T.dA.F.okM DO (λts Q h=>?_) (λ_ _ _ _ _ _ hr=>?_)
 ·let(_,_,_,_,_,_,U,_):=h;rfl
 ·let q:=cD hr;refine(_,_,((ag (iI q (pv 0) (QPF.w az) (qv 1))
 (ai (iI q (pv 0) (QPF.w az) (QPF.w (df (aG aj))))))),λts Q p ks h z=>?_)
  let(a0,stk,c,m,e,e',U,he,g,hq):=h;cases z;let i1:=by show(O&&(O&&(O&&(e.im&&O))))=O;rw[he];rfl
  let i2:=by show(O&&(O&&(O&&(e'.im&&O))))=O;rw[g];rfl
  exact((by show 4<mV;decide),i1,g,(U,(by show 4<mV;decide),i2,U,(_,U,(by show(O&&(O&&(O&&(e'.im&&O))))=O;rw[g];rfl),hq)))
theorem Hw(T:Txt K mg a)(t2:Bool):a8 P w K mg base CX0 1 a.MQ a.Tt ["_law_state","_law_n","_law_names","_law_values"] (spM K 0 (Uq t2)):=by
 refine T.kD.F.okM qL (λts Q h=>?_) (λ_ _ _ _ _ _ hr=>?_)
 ·let(_,_,_,_,_,_,_,_,_,_,_,_,_,_,U,_):=h;rfl
 ·let hu:=cD hr;refine(_,_,((ag (gT (g:=(Tg.tp [4,5,6])) (au (bb (qv 0) (QPF.w az)) (QPF.w (gW ah))) (d9 (K:=K) (n:=3) U U (aL (bo 4 qL.nd) (aL (bo 5 qL.nd) (aL (bo 6 qL.nd) d8)))))
 (ag (aB 7 qL.nd (bh sA vA (by rfl) T.nY (by kernel_rfl) (ae (qv 6) aw)))
 (ag (cg (g:=(Tg.tp [8,9])) PassesOwn.never U (KH (t2:=t2) U T.C6 (by kernel_rfl) (ae (qv 2) (ae (qv 3) aw))) (ig (bo 8 qL.nd) (bo 9 qL.nd))
 (ai (Gu (i:=7) hu (pv 7) (qv 8) (qv 9))))
 (ai (Gw (i:=7) (iI (i:=0) hu (pv 0) (QPF.w az) (QPF.w (df (aO (QPF.w (f7 (bb (qv 0) (QPF.w az)) iK (iJ (QPF.w (gW ah))))) (QPF.w (aG (af (ar (af (QPE.f (qv 4)) (af (QPE.f (qv 1)) (af (QPE.f (qv 7)) aj)))) aj))))))))))))),λts Q p ks h ht=>?_)
  let(a0,stk,f,n,n',o,vs,ns,c,m,ys,us,u1,u2,U,hi,hp,hl,aM,aS,bt,bw,a6,a7,e1,e2,hq):=h;cases ht;let IA:atI (stk ++ [frL f n o vs ns]) (-1)=Z (frL f n o vs ns):=L2.mR _ _;refine(_,U,_,IA,U,_,U,?_);refine(hi,?_);obtain⟨V,av⟩:∃V,V=(ys.map λy=>(.inr y:Key)).zip us:=(_,U)
  let a3:V.length=ys.length:=by rw[av,Ii,dz,aM];lia
  let aD:∀p∈V,p.2.im=true:=λp hp=>by rw[av]at hp;exact cv aS (QV hp).2
  let a4:∀p∈V,p.2.pln=true:=λp hp=>by rw[av]at hp;exact f9 bt (QV hp).2
  let stp:∀i,aP ns (V.take (i+1))=match V[i]? with|some q=>cX (aP ns (V.take i)) q.1 q.2|none=>aP ns (V.take i):=λi=>by
   rw[u3];cases V[i]? with
   |none=>rw[Option.toList_none,sQ]
   |some q=>unfold aP;rw[XI,List.foldl_append];rfl
  let loop:∀(u1 u2:L2.T)(D:dW),(∀o8 o9,D.nx [.o (.dp p (stT (stk ++ [frL f n o vs ns]) c m .n)),.r (.i n'),.r u1,.r u2,.r (.i f),.r (.i n),.r (.fd o vs ns),.o (.d (aP ns V)),o8,o9]) ->
    T3 (Tg.tp [8,9]) (DX 7 (bp 8) (bp 9)) D (lH (ys.map .s) us) [.o (.dp p (stT (stk ++ [frL f n o vs ns]) c m .n)),.r (.i n'),.r u1,.r u2,.r (.i f),.r (.i n),.r (.fd o vs ns),.o (.d ns),.no,.no]:=λu1 u2 D h=>by
   refine(λi q=>∃(DD:List (Key×L2.T))(o8 o9:Sl),q=[.o (.dp p (stT (stk ++ [frL f n o vs ns]) c m .n)),.r (.i n'),.r u1,.r u2,.r (.i f),.r (.i n),.r (.fd o vs ns),.o (.d DD),o8,o9]/\DD=aP ns (V.take i),(_,_,_,U,U),?_,?_)
   ·rintro i z q hz ⟨DD,o8,o9,rfl,rfl⟩
    let(x1,y1,aH,a5,U):=vj hz;rw[j5]at aH;let(y,hy,U):=j7.mp aH;let aQ:V[i]?=Z (.inr y,y1):=by
     rw[av,Fs];exact(by rw[j5,hy];rfl,a5)
    let UZ:=aD _ (pA aQ);let l1:(aP ns (V.take i)).length<=ns.length+(V.take i).length:=kh;rw[zL]at l1;refine(_,U,bx (by lia),iu hi λq hq=>aD q (VP hq),UZ,_,_,_,U,?_)
    rw[stp i,aQ]
   ·rintro q ⟨DD,o8,o9,rfl,rfl⟩
    rw[jq,dz,aM,XS,<- a3,uj];exact h o8 o9
  let dI:L2.T.imk (aP ns V)=true:=iu hi aD;let dP:L2.T.gc (aP ns V)=true:=iN hp a4;rw[<- av]at hq;let i1:L2.T.imk (stT (stk ++ [frL f n o vs ns]) c m .n)=true:=rfl;let nl:∀o' vs',L2.T.dv (stk ++ [frL f n' o' vs' (aP ns V)])=true:=λo' vs'=>gb λt ht=>by
   obtain z|z:=p7.mp ht
   ·exact f9 a6 z
   ·rw[ej.mp z];show(O&&(O&&(L2.T.gc (aP ns V)&&O)))=O;rw[dP];rfl
  let S4:L2.T.ims (eU (stk ++ [frL f n o vs ns]) Y (Z (-1)))=true:=by rw[jT];exact a7
  let S6:(eU (stk ++ [frL f n o vs ns]) Y (Z (-1))).length+1<=mV:=by rw[jT];exact P1 (bx (by lia))
  let aE:∀o' vs',L2.T.dv (eU (stk ++ [frL f n o vs ns]) Y (Z (-1)) ++ [frL f n' o' vs' (aP ns V)])=true:=λo' vs'=>by rw[jT];exact nl o' vs'
  let aI:∀o' vs',Q (.dp p (stT (eU (stk ++ [frL f n o vs ns]) Y (Z (-1)) ++ [frL f n' o' vs' (aP ns V)]) c m .n)):=λo' vs'=>by rw[jT];exact hq o' vs'
  cases t2 with
  |true =>
   subst e1 e2;refine(U,bu ys,aS,loop _ _ _ λo8 o9=>?_)
   refine(dI,λo' vs'=>?_)
   refine(_,U,?_);exact(U,U,U,S6,S4,U,aE o' vs',(by show 4<mV;decide),i1,U,_,U,U,aI o' vs')
  |false =>
   subst e1 e2;refine(U,loop _ _ _ λo8 o9=>?_)
   refine(dI,λo' vs'=>?_)
   refine(_,U,?_);exact(U,U,U,S6,S4,U,aE o' vs',(by show 4<mV;decide),i1,U,_,U,U,aI o' vs')
theorem nJ(T:Txt K mg a):a8 P w K mg base CX0 3 a.dD a.jg ["piece","number"] (spQ K (D8 a.bw)):=by
 refine T.ji.F.okQ nh (λts Q h=>?_) (λ_ _ _ _ _ _ hr=>?_)
 ·let(_,_,_,U,_):=h;rfl
 ·let hu:=cD hr;refine(_,_,((ag (bc (bV hu (au (qv 0) ah) (QPF.w az))
 (ai (aV (aG aj)))
 aW)
 (ag (bc (bV hu (au (qv 0) ah) (QPF.w az))
 (ai (aV (b9 U (d7 (au (qv 0) ah)) (N':=["arm","number"]) (.own U (.got (i:=1) U U (.inl U) .nil)) (bX (g:=(Tg.nm 0)) (λ_ _ _ _ _=>((eh 0),(qU U T.wL (Cq T) hr.bz U T.wK T.jX (ae (au (qv 0) ah) (ae (qv 1) (ae (qv 0) aw))))))))))
 aW)
 (ai (aV (aG (af (qU U T.wL (Cq T) hr.bz U T.wK T.jX (ae (au (qv 0) (QPF.w (gW ah))) (ae (qv 1) (ae (QPF.w cS) aw)))) aj))))))),λts Q h=>?_)
  let(b,bs,n,U,hb,hq):=h;cases hb with
  |give=>exact(_,U,U,hq _ .nil)
  |@more wd ps b' h0 h1 h2 h3 h4 =>
   let e0:=cH h0;let q:=cv h4 (Xq h3);exact(_,e0,U,bE (λg=>absurd (of_decide_eq_true g) λz=>h1 (by cases z;rfl)) λ_=>(_,e0,U,bE (λg=>absurd (of_decide_eq_true g) λz=>h2 (by cases z;rfl)) λ_=>(b',xu h3,(by show(b'.im&&(O&&(O&&O)))=O;rw[q];rfl),U,hq _ .one)))
  |@case x arms h1 h2 =>
   refine(_,U,U,_,U,U,_,U,bx (by rw[dz];lia),λi ys=>SpL a.bw ys ((arms.take i).map (·.2.2)),.nil,λi z ys hz hy=>?_,λys hy=>?_)
   ·rw[j5]at hz;let(arm,ha,U):=j7.mp hz;let V:=cv h1 (VR (pA ha));let q:=by
     let h:(O&&(L2.T.ims (arm.2.1.map .s)&&(arm.2.2.im&&O)))=true:=V;simp only[sO]at h;exact h.2.2.1
    refine(_,U,_,U,(by show(arm.2.2.im&&(O&&((fD arm).im&&O)))=O;rw[q,V];rfl),?_)
    rw[u3,ha,zJ];exact(U,hy.app .one)
   ·rw[dz,uj]at hy;exact hq _ hy
theorem Hu(T:Txt K mg a):a8 P w K mg base CX0 4 a.pU a.CU ["body"] (spQ K (Le a.bw)):=by
 refine T.Dr.F.okQ lO (λts Q h=>?_) (λ_ _ _ _ _ _ hr=>?_)
 ·let(_,_,U,_):=h;rfl
 ·refine(_,_,((ag (aB 1 lO.nd (aG aj))
 (ag (aB 2 lO.nd (aG (af (qU U T.wL (Cq T) hr.bz U T.wK T.jX (ae (qv 0) (ae (QPF.w cS) (ae (QPF.w cS) aw)))) aj)))
 (ag (lY PassesOwn.never (fu (qv 2))
 (ag (Gv (j:=3) lO.nd U (Or.inl U) (pv 2))
 (ag (uI (pv 2) (ym U U T.sE U T.lj (QPF.w (aX (nJ T) hr T.ji (ae (Ca T.mK T.gX (qv 3)) (ae (QPF.w (bN T.cE (ae (qv 1) aw))) aw))))))
 (ai (cj (pv 1) (QPE.f (qv 3)))))))
 (ai (ka (pv 1))))))),λts Q h=>?_)
  let(b,L,U,hL,hl,hq):=h;refine((by show(b.im&&(O&&(O&&O)))=O;rw[hL.im];rfl),U,((λc q=>∃(L1 ds M X Ya:List L2.T)(o3:Sl),q=[.r b,.o (.l X),.o (.l Ya),o3]/\SpL a.bw X L1/\SpL a.bw Ya ds.reverse/\kC ds M/\L=L1++M/\M.length=c,(L.length,[],[b],L,_,_,_,U,.nil,.one,by have:=kC.cons hL .nil;rwa [sQ]at this,U,U),?_)))
  rintro c q ⟨L1,ds,M,X,Ya,o3,rfl,hX,hY,hM,rfl,rfl⟩
  rw[px]at hl;let aQ:=hX.1;cases hM with
  |nil =>
   have:=Wb hY.1
   subst this;rw[sQ]at hq;exact hq _ hX
  |@cons d ds Ld M' hd aD =>
   rw[px]at hl;let(bs,Md,hb,U,aE):=hd.kids (by lia)
   rw[rl]at hl;rw[VE]at hY;let g:=hY.1;rw[px,UR]at g;let(a1,r1,e1):=hY.2 ds.length d (by simp)
   obtain⟨Y',y,rfl⟩:∃Y' y,Ya=Y' ++ [y]:=(Ya.dropLast,Ya.getLast (by intro z;rw[z]at g;cases g),(List.dropLast_concat_getLast _).symm)
   let Qf:=by simpa using g
   rw[xD (by lia),Qf,Wg]at e1
   cases e1;let aH:SpL a.bw Y' ds.reverse:=(by rw[Qf,UR],λi b' e=>by
    let hi:i<Y'.length:=by rw[Qf,<- UR];exact(j3.mp e).1
    have:=hY.2 i b' (by rw[wh (by rw[UR];lia)];exact e)
    rwa [wh hi]at this)
   refine bE (λ_=>(λq'=>∃(L9 V M2 X2 Y2:List L2.T)(o3:Sl),q'=[.r b,.o (.l X2),.o (.l Y2),o3]/\SpL a.bw X2 L9/\SpL a.bw Y2 V.reverse/\kC V M2/\L1++(d::Md++M')=L9++M2/\M2.length=Md.length+M'.length,?_,?_)) (λz=>absurd (by cases Y' <;> rfl) z)
   ·rintro q' ⟨L9,V,M2,X2,Y2,o3,rfl,h1,h2,h3,h4,h5⟩
    exact(_,(by rw[px,rl];lia),L9,V,M2,X2,Y2,o3,U,h1,h2,h3,h4,U)
   ·refine(Y',_,U,hY.ims,by decide,(U,by decide,_,U,d,bs,_,U,hb,λY2 av=>?_))
    let aS:=av.1;let aM:=aE.len;let aI:=aD.len;refine(av.ims,P1 (bx (by rw[UR];lia)),bx (by lia),U,?_)
    refine(L1 ++ [d],bs++ds,Md++M',_,_,_,U,hX.app .one,?_,aE.app aD,by simp,by simp)
    rw[List.reverse_append];exact aH.app av.rev
theorem Ef(T:Txt K mg a):a8 P w K mg base CX0 5 a.mD a.zp ["body"] (spQ K GS):=by
 refine T.zS.F.okQ DN (λts Q h=>?_) (λ_ _ _ _ _ _ hr=>?_)
 ·let(_,_,U,_):=h;rfl
 ·refine(_,_,((ai (aV (b9 U (kc (QPF.w (aX (Hu T) hr T.Dr (ae (qv 0) aw)))) (N':=["spot"]) (.own U .nil) (bX (g:=(Tg.nm 0)) (λ_ _ _ _ _=>((eh 0),(QPE.f (Ca T.mK T.gX (qv 0)))))))))),λts Q h=>?_)
  let(b,L,U,hL,hl,hq):=h;refine(b,L,U,hL,hl,λYa V=>?_)
  let q:=V.1;refine(bx (by lia),λi ys=>ys=L.take i,U,λi y ys z e=>?_,λys e=>?_)
  ·subst e;let hi:i<L.length:=by rw[<- q];exact(j3.mp z).1
   let(a1,r1,e1):=V.2 i L[i] (eO hi);rw[e1]at z;cases z;refine(_,U,U,(by decide),_,U,cv hL.ims (V9 hi),?_)
   rw[u3,eO hi];rfl
  ·subst e;rw[q,uj];exact hq
theorem jm(T:Txt K mg a):a8 P w K mg base CX0 6 a.bJ a.c8 ["self"] (spL K 0 (Lh a.aD)):=by
 refine T.cz.okL aZ (λts Q h=>?_) (λ_ _ _ _ _ _ hr=>?_) λts Q h=>?_
 ·let(_,_,_,_,_,_,_,_,_,_,_,_,U,_):=h;rfl
 ·let hu:=cD hr;refine(_,_,((ag (aB 1 aZ.nd (QPE.f (bF (bA T.aH T.aM (aR (j:=0))))))
 (ag (aB 2 aZ.nd (QPE.f (bb (bF (bA T.aH T.bZ (aR (j:=0)))) (au (qv 1) ah))))
 (ag (aB 3 aZ.nd bO)
 (ai (cg (g:=(Tg.tp [4,5,6])) PassesOwn.never U (gU (QPE.f (au (qv 1) ah))) (d9 (K:=K) U U (aL (bo 4 aZ.nd) (aL (bo 5 aZ.nd) (aL (bo 6 aZ.nd) d8))))
 (ag (bc (bV hu (qv 4) (au (qv 2) ah))
 (ag (Ku U (bA T.aH T.bZ (aR (j:=0))) (Ay U U T.sE U T.C6 (ae (qv 5) (ae (au (qv 2) ah) aw))))
 (ag (cC T.aH T.gm (gh T) hr.bz T.g7 (aR (j:=0)) (ae (qv 6) (ae (qv 3) aw)))
 (ai yi)))
 aW)
 (ai (B8 (i:=3) aZ.nd (QPF.w (bN T.cE (ae (QPF.w (aX (Ef T) hr T.zS (ae (qv 6) aw))) aw)))))))))))),λts Q t0 a0 h ht ha=>?_)
  let(x,f,n,z,arms,Ls,mk,us,ns,j,ys,b,U,aQ,a6,hv,av,hA,hj,aS,a5,a4,hq):=h;cases ht;cases ha;let a7:=(j3.mp hj).1;let aI:(L2.T.t [.s "case",.s z,.t (arms.map fD)]).im=true:=by show(O&&(O&&(L2.T.ims _&&O)))=O;rw[hA.im];rfl
  let aE:=by show(O&&(L2.T.ims us&&O))=O;rw[av];rfl
  refine(U,_,U,aI,(U,_,U,.s z,U,_,hv,aE,(_,U,hA.im,((λi q=>∃(k:Int)(o4 o5 o6:Sl),q=[.o (fT a.aD a0 f n (.t [.s "case",.s z,.t (arms.map fD)]) ns),.o (.t [.s "case",.s z,.t (arms.map fD)]),.o (.t [.s mk,.t us]),.o (.i k),o4,o5,o6]/\k=(ahd Ls i:Nat)/\i<=j,(0,_,_,_,U,U,Jf _),?_,?_)))))
  ·rintro i y q hy ⟨k,o4,o5,o6,rfl,rfl,V⟩
   rw[j5]at hy;let(arm,nR,U):=j7.mp hy;let(L,e1,e2,e3,e4):=hA.at nR;refine(_,U,_,U,U,bE (λg=>?_) (λg=>?_))
   ·let g:arm.1=mk:=by have:=of_decide_eq_true g;cases this;rfl
    let a3:i=j:=Nat.le_antisymm V (WH λz'=>aS i arm z' nR g)
    subst a3;rw[hj]at nR;cases nR;refine(U,_,U,_,U,bu _,av,aQ,JD av,_,_,uP ys us,?_,U,?_)
    ·refine P1 (bx ?_);rw[Ii,dz]
     lia
    ·exact(U,U,(by show(b.im&&(O&&O))=O;rw[e4];rfl),a0,f,n,_,_,b,_,U,e4,U,U,_,U,(_,U,U,hq))
   ·let g:arm.1≠mk:=λz'=>g (decide_eq_true (by rw[z']))
    let Qa:i<j:=XM V λz'=>by
     subst z';rw[hj]at nR;cases nR;exact g U
    exact(_,U,arm.2.2,L,U,e2,e3,(_,_,_,_,U,by rw[zB e1];push_cast;rfl,Qa))
  ·rintro q ⟨k,o4,o5,o6,rfl,rfl,V⟩
   rw[dz]at V
   lia
 ·let(_,_,_,_,_,_,_,_,_,_,_,_,U,_):=h;exact(_,_,U,U)
theorem oU(T:Txt K mg a):a8 P w K mg base CX0 3 a.c7 a.gB ["self","frame"] (spL K 0 (GZ a.aE a.aD)):=by
 refine T.eR.okL jd (λts Q h=>?_) (λ_ _ _ _ _ _ hr=>?_) λts Q h=>?_
 ·let(_,_,_,_,_,_,_,_,_,_,_,U,_):=h;rfl
 ·refine(_,_,((ag (aB 2 jd.nd (QPE.f (bb (bF (bA T.aH T.bZ (cR (j:=0) (i:=1)))) (au (bF (bA T.aH T.aM (cR (j:=0) (i:=1)))) ah))))
 (ag (Ky (bA T.aQ T.bP (aR (j:=0))))
 (ai (bc (fu (bF (bA T.aQ T.bP (aR (j:=0)))))
 (ai (cC T.aH T.dt (dq T) hr.bz T.dO (Nx (bA T.aQ T.bP (aR (j:=0))) (G8 zZ bG) (λ_ _ _ h=>(1,U,h))) (ae (qv 2) aw)))
 (ai (cC T.aQ T.fh (fg T) hr.bz T.fM (aR (j:=0)) (ae (QPF.w (ar (af az (af (QPE.f (qv 2)) aj)))) aw)))))))),λts Q t0 a0 h ht ha=>?_)
  let(x0,x,fns,frs,f,n,z,ns,v,c,m,U,av,hv,q,aI,hq):=h;cases ht;cases ha;refine(x,_,wy frs,_,_,_,.inl U,U,aU,U,_,U,x,_,wy frs,_,_,_,.inl U,U,aU,U,_,U,.s z,U,v,hv,q,(U,_,U,Wv _ (Ni _ _),_,U,?_));rw[WJ];obtain⟨rfl,hq⟩|⟨dg,x',f',n',ps',ns',y,b,hb,hq⟩:=hq
  ·exact(U,_,U,(U,U,q,(by show((O&&(v.im&&O))&&O)=O;rw[q];rfl),a0,_,_,c,m,.n,_,U,(by show(O&&(v.im&&O))=O;rw[q];rfl),U,U,_,U,(_,U,U,hq)))
  ·let(U,i1,i2,i3,i4,V):=hb;exact(U,_,U,(bE (λ_=>(U,_,U,dg.length,_,HW,Ip,U,U,(by show(v.im&&O)=O;rw[q];rfl),x',f',n',ps',ns',v,y,b,U,q,i1,i2,i3,i4,V,U,U,_,U,(_,U,ki (C:=a.aE) (a:=a0) (fns:=fns) (frs:=dg) (c:=c) (n:=m) (e:=.n) (t:=fT a.aD x' f' n' (.t ps') ns') hq))) λg=>absurd (by cases dg <;> rfl) g))
 ·let(_,_,_,_,_,_,_,_,_,_,_,U,_):=h;exact(_,_,U,U)
theorem A0(T:Txt K mg a):a8 P w K mg base CX0 7 a.ix a.nV ["self","frame"] (spL K 0 (Us a.aE a.aD)):=by
 refine T.kn.okL kQ (λts Q h=>?_) (λ_ _ _ _ _ _ hr=>?_) λts Q h=>?_
 ·let(_,_,_,_,_,_,_,_,_,_,_,U,_):=h;rfl
 ·let hu:=cD hr;refine(_,_,((ag (aB 2 kQ.nd (QPE.f (au (bF (bA T.aH T.aM (cR (j:=0) (i:=1)))) ah)))
 (ai (bc (bV hu (qv 2) (QPF.w az))
 (ai (cC T.aQ T.oW (oU T) hr.bz T.sH (aR (j:=0)) (ae (qv 1) aw)))
 (ai (bc (bV hu (qv 2) (QPF.w az))
 (ai (cC T.aQ T.oV (oT T) hr.bz T.sG (aR (j:=0)) (ae (qv 1) aw)))
 (ai (bc (bV hu (qv 2) (QPF.w az))
 (ag (aB 3 kQ.nd (aX (wD T) hr T.oM (ae (bF (bA T.aQ T.cT (aR (j:=0)))) (ae (au (bF (bA T.aH T.aM (cR (j:=0) (i:=1)))) ah) aw))))
 (ai (KD (bA T.aQ T.bP (aR (j:=0))) (qV T.yT (kI T O) hr.bz U T.yS T.mP (ae (bF (bA T.aQ T.cT (aR (j:=0)))) (ae (qv 3) (ae (QPF.w (yj T.aH T.gj (gg T) hr.bz T.gK (bF (cR (j:=0) (i:=1))) (ae (au (bF (bA T.aH T.aM (cR (j:=0) (i:=1)))) ah) aw))) aw)))))))
 (ai (bc (bV hu (qv 2) (QPF.w az))
 (ai (cC T.aH T.dt (dq T) hr.bz T.dO (cR (j:=0) (i:=1)) (ae (bb (bF (bA T.aH T.bZ (cR (j:=0) (i:=1)))) (au (bF (bA T.aH T.aM (cR (j:=0) (i:=1)))) ah)) aw)))
 (ai (bc (bV hu (qv 2) (QPF.w az))
 (ai (DW T.aH T.jn (jm T) hr.bz T.jY (cR (j:=0) (i:=1))))
 (ai (cC T.aQ T.nM (nK T) hr.bz T.ph (aR (j:=0)) (ae (qv 1) (ae (qv 2) aw)))))))))))))))),λts Q t0 a0 h ht ha=>?_)
  let(x0,x,gs,frs,f,n,p,ns,c,m,r,U,hf,q,hl,aI,hs,av,hq):=h;let V:ns.length<1000:=WT hl (by decide)
  cases ht;cases ha;cases hs with
  |@short k _ b _ h1 h2 =>
   refine(x,_,wy frs,_,_,_,.inl U,U,aU,U,_,U,.s "pay",U,U,?_);refine(U,U,U,U,U,U,U,U,a0,x,_,frs,f,n,_,k,b,ns,c,m,U,h1,.inl U,λ_=>(U,U,_,U,?_),λg=>absurd h2 g.2,λg=>absurd g (by decide))
   exact(_,U,U,hq _ U)
  |@pay k _ b _ h1 h2 =>
   refine(x,_,wy frs,_,_,_,.inl U,U,aU,U,_,U,.s "pay",U,U,?_);refine(U,U,U,U,U,U,U,U,a0,x,_,frs,f,n,_,k,b,ns,c,m,U,h1,.inl U,λg=>absurd g.2 h2,λ_=>(U,U,_,U,?_),λg=>absurd g (by decide))
   exact(_,U,U,hq _ U)
  |@get k _ b _ h1 =>
   refine(x,_,wy frs,_,_,_,.inl U,U,aU,U,_,U,.s "get",U,U,?_);refine(U,U,U,U,U,U,U,U,a0,x,_,frs,f,n,_,k,b,ns,c,m,U,h1,.inr U,λg=>absurd g.1 (by decide),λg=>absurd g.1 (by decide),λ_=>(U,U,_,U,?_))
   exact(_,U,U,hq _ U)
  |@name y z v b _ _ h1 h2 h3 =>
   refine(x,_,wy frs,_,_,_,.inl U,U,aU,U,_,U,.s "name",U,U,?_);refine(U,U,U,U,x,_,wy frs,_,_,_,.inl U,U,aU,U,U,x,_,wy frs,_,_,_,.inl U,U,aU,U,_,U,?_);refine(x,_,wy frs,_,_,_,.inl U,U,aU,U,_,U,.s z,U,v,h2,(by show(v.im&&O)=O;rw[h3];rfl),x,f,n,_,ns,v,y,b,U,h3,q,V,(by show(O&&(O&&(O&&(b.im&&O))))=O;rw[h1];rfl),U,U,U,U,_,U,?_)
   exact(_,U,ki (t:=fT a.aD x f n (.t [.s "name",.s y,.s z,b]) ns) (hq _ U))
  |@great y mk ys vs b _ _ h1 h2 h3 h4 h5 =>
   refine(x,_,wy frs,_,_,_,.inl U,U,aU,U,_,U,.s "make",U,U,?_);refine(U,U,U,U,U,a0,x,_,frs,f,n,y,mk,ys,vs,b,ns,c,m,U,h1,q,V,h2,h3,h4.1,λ_=>(U,U,_,U,?_),λz=>absurd h5 z)
   exact(_,U,U,hq _ U)
  |@make y mk ys vs b _ _ h1 h2 h3 h4 h5 =>
   refine(x,_,wy frs,_,_,_,.inl U,U,aU,U,_,U,.s "make",U,U,?_);refine(U,U,U,U,U,a0,x,_,frs,f,n,y,mk,ys,vs,b,ns,c,m,U,h1,q,V,h2,h3,h4.1,λz=>absurd z h5,λ_=>(U,U,_,U,?_))
   exact(_,U,U,hq _ U)
  |@call y nm ys vs b _ _ h g h1 h2 h3 h4 h5 h6 h7 =>
   refine(x,_,wy frs,_,_,_,.inl U,U,aU,U,_,U,.s "call",U,U,?_);refine(U,U,U,U,_,U,x,_,wy frs,_,_,_,.inl U,U,aU,U,_,U,.s nm,U,gs,nm,h,g,U,hf,h4,h5,h6,?_);refine(U,_,U,bx (by rw[px];show frs.length+1<=_;lia),?_)
   refine(U,_,U,x,_,wy frs,_,_,_,.inl U,U,aU,U,U,x,_,wy frs,_,_,_,.inl U,U,aU,U,_,U,.t (ys.map .s),U,?_);refine(x,f,n,_,ns,ys,vs,U,h2,h3,?_);let aS:(L2.T.t (gs.map WF.t)).im=true:=hf;refine λx'=>?_
   refine(x',gs,h,g,vs,.t vs,U,hf,h4,h7,h3.ims,.inl (U,U),U,U,?_);exact(_,U,_,U,U,hq _ (x',g,h4,U))
  |@give _ z v _ h1 h2 =>
   refine(x,_,wy frs,_,_,_,.inl U,U,aU,U,_,U,.s "give",U,U,?_);refine(U,U,U,U,a0,x,_,frs,f,n,z,ns,v,c,m,U,q,h1,h2,aI,?_);obtain rfl |⟨dg,x',f',n',ps',ns',y,b,hb⟩:=av
   ·exact .inl (U,U,U,_,U,_,U,U,hq _ (.inl (U,U)))
   ·exact .inr (dg,x',f',n',ps',ns',y,b,hb,U,U,_,U,_,U,U,hq _ (.inr (dg,x',f',n',ps',ns',y,b,hb,U)))
  |@case _ z mk us _ arms Ls j ys b h1 h2 h3 h4 h5 h6 h7 =>
   refine(x,_,wy frs,_,_,_,.inl U,U,aU,U,_,U,.s "case",U,U,?_)
   refine(U,U,U,U,U,x,_,wy frs,_,_,_,.inl U,U,aU,U,U,U,x,f,n,z,arms,Ls,mk,us,ns,j,ys,b,U,q,hl,h1,h2,h3,h4,h5,h6,h7,U,U,_,U,?_);exact(_,U,ki (hq _ U))
 ·let(x0,x,gs,frs,f,n,p,ns,c,m,r,U,_):=h;exact(_,_,U,U)
theorem wH(T:Txt K mg a):a8 P w K mg base CX0 8 a.fC a.jQ ["self"] (spL K 0 (v9 a.aE a.aD)):=by
 refine T.gL.okL vB (λts Q h=>?_) (λ_ _ _ _ _ _ hr=>?_) λts Q h=>?_
 ·obtain⟨_,_,_,_,_,_,_,_,_,_,_,rfl,_⟩|⟨_,_,_,_,_,rfl,_⟩:=h <;> rfl
 ·refine(_,_,((ag (bc (bW nH j9 (bH _) (bF (bA T.aQ T.c5 (aR (j:=0)))) (QPF.w cS))
 (ag (vV T.aQ T.iR Bf (aR (j:=0)) ah)
 (ai (cC T.aQ T.A6 (A0 T) hr.bz T.EU (aR (j:=0)) (ae (QPF.w (OJ (Nx (bA T.aQ T.bP (aR (j:=0))) (G8 zZ bG) (λ_ _ _ h=>(1,U,h))))) aw))))
 aW)
 (ai (Kw (kW nH j9 (bH _) (bF (bA T.aQ T.c5 (aR (j:=0)))) (QPF.w cS)))))),λts Q t0 a0 h q ha=>?_)
  obtain⟨x0,x,gs,frs,f,n,p,ns,c,m,r,rfl,hf,z,hl,av,hs,V,hq⟩|⟨x0,fns,c,m,ps,rfl,hi,hq⟩:=h
  ·cases q;cases ha;refine(U,_,U,U,by decide,m,U,_,U,(U,U,U,_,U,frs.length,fT a.aD x f n p ns,?_,?_,U,a0,x,gs,frs,f,n,p,ns,c,m+1,r,U,hf,z,hl,av,hs,V,λt q=>?_))
   ·rw[px];show(if -((frs.length+1):Int) <= -1 then Z (-1+((frs.length+1):Int)).toNat else Y)=Z frs.length
    rw[if_pos (by lia)]
    congr 1
    lia
   ·rw[xD (mW _),Wg];rfl
   ·cases r with
    |on n' p' ns' c' =>
     obtain rfl:=q;exact(U,U,_,U,(U,_,U,_,U,U,hq _ U))
    |push g vs =>
     let(x',g',hg,U):=q;exact(U,U,_,U,((U,_,U,_,U,U,hq _ (x',g',hg,U))))
    |give v =>
     obtain⟨rfl,rfl⟩|⟨dg,x',f',n',ps',ns',y,b,hb,rfl⟩:=q
     ·exact(U,U,_,U,((U,_,U,_,U,U,hq _ (.inl (U,U)))))
     ·refine(U,U,_,U,?_)
      have:=hq _ (.inr (dg,x',f',n',ps',ns',y,b,hb,U))
      let e:Ct frs (.give v)=true:=by rw[hb.e];cases dg <;> rfl
      rw[e]at this;exact(U,_,U,_,U,U,this)
    |fin c' e' =>
     obtain⟨ps,rfl⟩:∃ps,e'=.t ps:=by cases hs <;> exact(_,U)
     obtain rfl:=q;exact(U,U,_,U,(U,_,U,_,U,U,hq _ U))
  ·cases q;cases ha;exact(U,_,U,U,_,U,_,U,U,hq)
 ·obtain⟨x0,x,gs,frs,f,n,p,ns,c,m,r,rfl,_⟩|⟨x0,fns,c,m,ps,rfl,_⟩:=h
  ·exact(_,_,U,U)
  ·exact(_,_,U,U)
theorem Hy(T:Txt K mg a):a8 P w K mg base CX0 97 a.pX a.CZ ["_law_program_here","_law_state","_law_value_here"] (spM K 1 Li):=by
 refine T.qg.F.okM lP (λts Q h=>?_) (λ_ _ _ _ _ _ hr=>?_)
 ·let(_,_,_,_,_,_,_,_,U,_):=h;rfl
 ·let hu:=cD hr;refine(_,_,((ag (iI (i:=1) hu (pv 1) (QPF.w az) (QPF.w (df (f7 (bb (qv 1) (QPF.w az)) iK (iJ (QPF.w (gW ah)))))))
 (ai (bc (bW (Pj (CH hr) U) J7 (bH _) (bb (qv 1) (QPF.w az)) (QPF.w (aG aj)))
 (ai (d5 (i:=1) (uQ T) hr.bz U T.dA.m T.dA.F.kp T.dA.b (d6 (pv 1) (ae (QPF.w (ar (af az (af (QPE.f (qv 2)) aj)))) aw))))
 (ag (gT (g:=(Tg.tp [3,4,5])) (au (bb (qv 1) (QPF.w az)) (QPF.w (gW ah))) (d9 U U (aL (bo 3 lP.nd) (aL (bo 4 lP.nd) (aL (bo 5 lP.nd) d8)))))
 (ai (d5 (i:=1) (j:=0) (Hw T ϊ) hr.bz U T.kD.m T.kD.F.kp T.kD.b (d6 (i:=1) (pv 1) (ae (QPF.w (aO (qv 4) ah)) (ae (QPF.w (df (aG (af (QPE.f (au (au (QPF.w (aX (kg T 93) hr T.iB (ae (au (au (au (qv 0) ah) (qv 3)) ah) aw))) (qv 4)) ah)) aj)))) (ae (QPF.w (df (aG (af (QPE.f (qv 2)) aj)))) aw))))))))))),λts Q pp aM h V=>?_)
  let(a0,ks,gs,stk,fr,c,m,v,U,hv,z,aQ,aE,av,aH,hq):=h;cases V;let cl:=jT (xs:=stk) (x:=fr);refine(_,U,(by rw[cl];exact av),(by show 4<mV;decide),U,U,?_)
  rw[cl];refine(_,U,stk,[],0,U,U,Jf _,λj x y _ h=>by simp at h,λcc aD=>?_)
  obtain⟨rfl,hq⟩|⟨lL,f',n',o',vs',ns',y,hg,hq⟩:=hq
  ·obtain rfl:=aD.mpr U;exact(U,hv,(by show((O&&(v.im&&O))&&O)=O;rw[hv];rfl),pp,_,c,m,.n,_,U,U,(by show(O&&(v.im&&O))=O;rw[hv];rfl),(_,U,(by show(O&&(O&&(O&&((O&&(v.im&&O))&&O))))=O;rw[hv];rfl),hq))
  ·let(U,(g,L,ps,eg,hL,aI,hp,hy),q):=hg;cases cc with
   |true=>exact absurd (aD.mp U) (Wv _ (Ni _ _))
   |false =>
    let eg:atI (gs.map WF.t) (f':Int)=Z g.t:=cH (by rw[j5,eg];rfl)
    let s1:=gb λt V=>f9 av (qr _ V)
    let s2:=cw λt V=>cv aH (qr _ V)
    rw[px]at aE;refine(_,U,_,L2.mR _ _,U,_,U,?_);refine(U,_,U,g.t,eg,g.b,U,g.b,L,U,hL,aI,_,cH hp,.s y,cH hy,U,U,hv,(by show(v.pln&&O)=O;rw[z];rfl),U,pp,lL,f',n',(n':Int)+1,o',vs',ns',c,m,[y],[v],.zl [.s y],.zl [v],U,q.1,q.2.1,(by have:=q.2.2;show ns'.length+1<1000;lia),U,(by show(v.im&&O)=O;rw[hv];rfl),(by show(v.pln&&O)=O;rw[z];rfl),by lia,s1,s2,U,U,λo2 vs2=>?_)
    exact(_,U,U,hq o2 vs2)
theorem wG(T:Txt K mg a):a8 P w K mg base CX0 97 a.gJ a.oC ["_law_state","_law_n","_law_piece","_law_value_here"] (spM K 0 AL):=by
 refine T.gO.F.okM de (λts Q h=>?_) (λ_ _ _ _ _ _ hr=>?_)
 ·let(_,_,_,_,_,_,_,_,_,_,_,_,_,_,_,_,_,_,U,_):=h;rfl
 ·let hu:=cD hr;refine(_,_,((ag (aB 4 de.nd (aO (qv 1) ah))
 (ai (cg (g:=(Tg.tp [5,6,7])) PassesOwn.never U (gU (QPE.f (au (qv 2) ah))) (d9 U U (aL (bo 5 de.nd) (aL (bo 6 de.nd) (aL (bo 7 de.nd) d8))))
 (ag (bc (bV hu (qv 5) (au (qv 3) ah))
 (ag (d5 (Hw T O) hr.bz U T.kD.m T.kD.F.kp T.kD.b (d6 (pv 0) (ae (qv 4) (ae (qv 6) (ae (au (qv 3) ah) aw)))))
 (ai yi))
 aW)
 (ai (aB 4 de.nd (aO (qv 4) (QPF.w (bN T.cE (ae (QPF.w (aX (kg T 93) hr T.iB (ae (qv 7) aw))) aw))))))))))),λts Q pp a3 h ht=>?_)
  let(a0,stk,f,n0,n,o,vs,ns,c,m,z,mk,us,arms,Ls,j,ys,b,U,av,aD,aE,a5,aI,aM,hA,hj,aQ,aH,a4,hq):=h;cases ht;let a6:=(j3.mp hj).1;refine(_,U,hA.im,((λi q=>∃(k:Int)(o5 o6 o7:Sl),q=[.o (.dp pp (stT (stk ++ [frL f n0 o vs ns]) c m .n)),.r (.i n),.r (.t [.s "case",.s z,.t (arms.map fD)]),.r (.t [.s mk,.t us]),.o (.i k),o5,o6,o7]/\k=n+(1+(ahd Ls i:Nat))/\i<=j,(_,_,_,_,U,U,Jf _),?_,?_)))
  ·rintro i y q hy ⟨k,o5,o6,o7,rfl,hk,V⟩
   rw[j5]at hy;let(arm,nR,U):=j7.mp hy;let(L,e1,e2,e3,e4):=hA.at nR;refine(_,U,_,U,U,bE (λg=>?_) (λg=>?_))
   ·let g:arm.1=mk:=by have:=of_decide_eq_true g;cases this;rfl
    let aS:=Nat.le_antisymm V (WH λz'=>aQ i arm z' nR g)
    subst aS;rw[hj]at nR;cases nR;rw[<- hk]at hq;refine(U,_,U,(by show(O&&(L2.T.ims (ys.map .s)&&(L2.T.ims us&&O)))=O;rw[bu,aD];rfl),pp,stk,f,n0,k,o,vs,ns,c,m,ys,us,_,_,U,av.1,av.2.1,(by have:=av.2.2;lia),aH,aD,aE,by lia,aI,aM,U,U,λo' vs'=>?_)
    exact(U,_,U,U,hq o' vs')
   ·let g:arm.1≠mk:=λz'=>g (decide_eq_true (by rw[z']))
    let Qa:=XM V λz'=>by
     subst z';rw[hj]at nR;cases nR;exact g U
    refine(arm.2.2,L,U,e2,by lia,?_)
    exact(_,_,_,_,U,by rw[zB e1,hk];lia,Qa)
  ·rintro q ⟨k,o5,o6,o7,rfl,hk,V⟩
   rw[dz]at V
   lia
theorem L0(T:Txt K mg a):a8 P w K mg base CX0 98 a.xa a.IE ["_law_program_here","_law_state"] (spM K 1 wa):=by
 refine T.xK.F.okM dY (λts Q h=>?_) (λ_ _ _ _ _ _ hr=>?_)
 ·let(_,_,_,_,_,_,_,_,_,_,_,_,_,_,_,U,_):=h;rfl
 ·let hu:=cD hr;refine(_,_,((ag (gT (g:=(Tg.tp [2,3,4])) (au (bb (qv 1) (QPF.w az)) (QPF.w (gW ah))) (d9 (K:=K) (n:=3) U U (aL (bo 2 dY.nd) (aL (bo 3 dY.nd) (aL (bo 4 dY.nd) d8)))))
 (ag (aB 5 dY.nd (QPE.f (au (QPF.w (aX (kg T 93) hr T.iB (ae (au (au (au (qv 0) ah) (qv 2)) ah) aw))) (qv 3))))
 (ag (aB 6 dY.nd (QPE.f (au (qv 5) ah)))
 (ag (iI (i:=1) hu (pv 1) (QPF.w az) (QPF.w (aO (bb (qv 1) (QPF.w az)) ah)))
 (ai (bc (bV hu (qv 6) (QPF.w az))
 (ag (aB 7 dY.nd (ar (af (QPE.f (au (qv 5) ah)) (af (bh (bT U) bS (by rfl) T.cU (by kernel_rfl) (ae (QPF.w (b9 U (d7 (au (qv 5) ah)) (N':=["_law_y","_law_known"]) (.own U (.got (i:=4) U U (.inl U) .nil)) (bX (g:=(Tg.nm 0)) (λ_ _ _ _ _=>((eh 0),(QPE.f (bb (qv 1) (qv 0)))))))) aw)) aj))))
 (ag (gT (g:=(Tg.tp [8,9])) (QPF.w (aX (yJ T 90) hr T.xM (ae (qv 7) aw))) (ig (bo 8 dY.nd) (bo 9 dY.nd)))
 (ai (bc (QPW.pt (uG (qT (qv 8) ah) (vT (qT (qv 9) ah))))
 (ai (d5 (i:=1) (j:=0) (uQ T) hr.bz U T.dA.m T.dA.F.kp T.dA.b (d6 (i:=1) (pv 1) (ae (QPF.w (ar (af az (af (QPE.f (au (qv 5) ah)) aj)))) aw))))
 (ai (d5 (i:=1) (j:=0) (Hw T ϊ) hr.bz U T.kD.m T.kD.F.kp T.kD.b (d6 (i:=1) (pv 1) (ae (QPF.w (aO (qv 3) ah)) (ae (QPF.w (df (aG (af (QPE.f (au (qv 5) ah)) aj)))) (ae (QPF.w (df (aG (af (QPE.f (qv 7)) aj)))) aw))))))))))
 (ai (bc (bV hu (qv 6) (QPF.w az))
 (ag (aB 10 dY.nd (Gz (QPF.w (b9 U (d7 (au (qv 0) ah)) (N':=["_law_head"]) (.own U .nil) (bX (g:=(Tg.nm 0)) (λ_ _ _ _ _=>((eh 0),(QPE.f (au (qv 0) ah))))))) (au (qv 5) ah)))
 (ag (kb (i:=11) dY.nd U (Or.inl U) U (d7 (au (qv 5) ah)) (N':=["_law_y","_law_known"]) (.own U (.got (i:=4) U U (.inl U) .nil)) (bX (g:=(Tg.nm 0)) (λ_ _ _ _ _=>((eh 0),(QPE.f (bb (qv 1) (qv 0)))))))
 (ai (iI (i:=1) hu (pv 1) (QPF.w az) (QPF.w (df (K0 (bb (qv 1) (QPF.w az)) (bb (QPF.w (aX (yL T ϊ) hr T.xP (ae (qv 0) (ae (qv 10) (ae (qv 11) (ae ah aw)))))) (QPF.w az)))))))))
 (ai (bc (bV hu (qv 6) (QPF.w az))
 (ai (d5 (i:=1) (j:=0) (Hw T ϊ) hr.bz U T.kD.m T.kD.F.kp T.kD.b (d6 (i:=1) (pv 1) (ae (QPF.w (aO (qv 3) ah)) (ae (QPF.w (df (aG (af (QPE.f (au (qv 5) ah)) aj)))) (ae (QPF.w (df (aG (af (QPE.f (bb (qv 4) (au (qv 5) ah))) aj)))) aw))))))
 (ai (bc (bV hu (qv 6) (QPF.w az))
 (ai (d5 (i:=1) (j:=0) (wG T) hr.bz U T.gO.m T.gO.F.kp T.gO.b (d6 (i:=1) (pv 1) (ae (qv 3) (ae (qv 5) (ae (bb (qv 4) (au (qv 5) ah)) aw))))))
 (ai (bc (bV hu (qv 6) (QPF.w az))
 (ai (d5 (i:=1) (j:=1) (Hy T) hr.bz U T.qg.m T.qg.F.kp T.qg.b (B9 (qv 0) (d6 (i:=1) (pv 1) (ae (bb (qv 4) (au (qv 5) ah)) aw)))))
 (ai (bc (QPW.pt (kU (bV hu (qv 6) (QPF.w az)) (iH (uH (bb (qv 1) (QPF.w az)) (au (qv 5) ah)))))
 (ai (d5 (i:=1) (j:=0) (uQ T) hr.bz U T.dA.m T.dA.F.kp T.dA.b (d6 (i:=1) (pv 1) (ae (QPF.w (ar (af az (af (QPE.f (au (qv 5) ah)) aj)))) aw))))
 (ag (iI (i:=1) hu (pv 1) (QPF.w az) (QPF.w (aO (bb (qv 1) (QPF.w az)) (QPF.w (nB (au (qv 5) ah) (QPF.w (jC (aG (af bO (af (gW ah) aj))) (QPF.w (bh nW vz (by rfl) T.IV (by kernel_rfl) (ae (QPF.w (kW (wB hu U) pH (bH _) (qv 6) (QPF.w az))) aw))))))))))
 (ai (d5 (i:=1) (j:=0) (Hw T ϊ) hr.bz U T.kD.m T.kD.F.kp T.kD.b (d6 (i:=1) (pv 1) (ae (QPF.w (aO (qv 3) ah)) (ae (QPF.w (df (aG aj))) (ae (QPF.w (df (aG aj))) aw)))))))))))))))))))))))),λts Q pp bw h ht=>?_)
  let(a0,ks,gs,stk,f,n,o,vs,ns,c,m,g,L,p,r,U,a5,aS,aE,bD,hg,hL,a7,hp,q,aQ,V,av,hs,a6,hq):=h;cases ht;let eg:atI (gs.map WF.t) (f:Int)=Z g.t:=cH (by rw[j5,hg];rfl)
  let IA:atI (stk ++ [frL f n o vs ns]) (-1)=Z (frL f n o vs ns):=L2.mR _ _;let aH:p.im=true:=cv hL.ims (pA hp);refine(_,U,_,IA,U,_,U,?_);refine(_,U,g.t,eg,g.b,U,g.b,L,U,hL,a7,p,cH hp,aH,?_);cases hs with
  |@short k _ b _ h1 h2 =>
   refine(_,U,U,?_);refine(_,U,(by show 4<mV;decide),U,U,?_)
   refine(U,U,U,U,U,U,_,U,_,U,bE (λ_=>?_) (λz=>absurd (decide_eq_true h2) z))
   refine(U,_,U,U,U,pp,_,c,m+1,.n,_,U,U,U,?_);exact(_,U,U,hq _ U)
  |@pay k _ b _ h1 h2 =>
   refine(_,U,U,?_);refine(_,U,(by show 4<mV;decide),U,U,?_)
   refine(U,U,U,U,U,U,_,U,_,U,bE (λz=>absurd (of_decide_eq_true z) h2) (λ_=>?_))
   refine(_,U,_,U,U,.i (-1),by rfl,.inr (by decide,by decide),(by show 4<mV;decide),U,U,?_)
   refine(U,U,U,U,pp,stk,f,n,(n:Int)+1,o,vs,ns,c+k * -1,m+1,[],[],.zl [],.zl [],U,q.1,q.2.1,WT q.2.2 (by decide),U,U,U,by lia,V,av,U,U,λo' vs'=>?_)
   exact(_,U,U,hq _ (o',vs',by rw[show c - k=c+k * -1 by lia];rfl))
  |@get k _ b _ h1 =>
   refine(_,U,U,?_);refine(_,U,(by show 4<mV;decide),U,U,?_)
   refine(U,U,U,U,U,U,?_);refine(_,U,_,U,U,.i 1,by rfl,.inr (by decide,by decide),(by show 4<mV;decide),U,U,?_)
   refine(U,U,U,U,pp,stk,f,n,(n:Int)+1,o,vs,ns,c+k*1,m+1,[],[],.zl [],.zl [],U,q.1,q.2.1,WT q.2.2 (by decide),U,U,U,by lia,V,av,U,U,λo' vs'=>?_)
   exact(_,U,U,hq _ (o',vs',by rw[show c+k=c+k*1 by lia];rfl))
  |@name y z v b _ _ h1 h2 h3 =>
   refine(_,U,U,?_);refine(_,U,(by show 4<mV;decide),U,U,?_)
   refine(U,U,U,?_);let vp:=q.pln h2;refine(U,_,U,U,U,_,U,_,h2,h3,(by show(v.pln&&O)=O;rw[vp];rfl),U,pp,stk,f,n,(n:Int)+1,o,vs,ns,c,m+1,[y],[v],.zl [.s y],.zl [v],U,q.1,q.2.1,(by have:=q.2.2;show ns.length+1<1000;lia),U,(by show(v.im&&O)=O;rw[h3];rfl),(by show(v.pln&&O)=O;rw[vp];rfl),by lia,V,av,U,U,λo' vs'=>?_)
   exact(_,U,U,hq _ (o',vs',U))
  |@great y mk ys us b _ _ h1 h2 h3 h4 h5 =>
   refine(_,U,U,?_);refine(_,U,(by show 4<mV;decide),U,U,?_)
   refine(U,_,U,U,_,U,?_);refine(bx (by rw[dz];lia),λi zs=>zs=(us.map Vl.t).take i,U,λi z zs hz e=>?_,λzs e=>?_)
   ·subst e;rw[j5]at hz;let(y',aD,U):=j7.mp hz;let(v,g1,g2,g3):=h3.2 i y' aD;refine(_,U,v,g2,g3,?_);rw[u3,g1];rfl
   ·subst e;rw[dz,<- h3.1,uj];refine(Vl.ims us,?_);let et:(L2.T.t [.s mk,.t (us.map Vl.t)])=(Vl.mk mk us).t:=by rw[Vl.Aa];rfl
    refine(Vl.mk mk us,by rw[<- et],h4.2,h4.1,U,_,U,?_)
    refine bE (λ_=>?_) λz1=>bE (λ_=>?_) λz2=>?_
    ·refine(U,_,U,U,U,pp,_,c,m+1,.n,_,U,U,U,?_);exact(_,U,U,hq _ U)
    ·refine(U,_,U,U,U,pp,_,c,m+1,.n,_,U,U,U,?_);exact(_,U,U,hq _ U)
    ·exfalso
     let z1:¬((200:Int)<((Vl.mk mk us).sz:Nat)):=λz=>z1 (decide_eq_true z)
     let z2:¬((60:Int)<((Vl.mk mk us).dp:Nat)):=λz=>z2 (decide_eq_true z)
     lia
  |@make y mk ys us b _ _ h1 h2 h3 h4 h5 =>
   refine(_,U,U,?_);refine(_,U,(by show 4<mV;decide),U,U,?_)
   refine(U,_,U,U,_,U,?_);refine(bx (by rw[dz];lia),λi zs=>zs=(us.map Vl.t).take i,U,λi z zs hz e=>?_,λzs e=>?_)
   ·subst e;rw[j5]at hz;let(y',aD,U):=j7.mp hz;let(v,g1,g2,g3):=h3.2 i y' aD;refine(_,U,v,g2,g3,?_);rw[u3,g1];rfl
   ·subst e;rw[dz,<- h3.1,uj];refine(Vl.ims us,?_);let et:(L2.T.t [.s mk,.t (us.map Vl.t)])=(Vl.mk mk us).t:=by rw[Vl.Aa];rfl
    refine(Vl.mk mk us,by rw[<- et],h4.2,h4.1,U,_,U,?_)
    let aI:(L2.T.t [.s mk,.t (us.map Vl.t)]).im=true:=by rw[et];exact Vl.im _
    let a4:(L2.T.t [.s mk,.t (us.map Vl.t)]).pln=true:=by rw[et];exact Vl.pln _
    let i1:((L2.T.t [.s mk,.t (us.map Vl.t)]).im&&O)=true:=by rw[aI];rfl
    let p1:((L2.T.t [.s mk,.t (us.map Vl.t)]).pln&&O)=true:=by rw[a4];rfl
    rw[<- et]at hq;refine bE (λz1=>?_) λz1=>bE (λz2=>?_) λz2=>?_
    ·exact absurd (.inl (by have:=of_decide_eq_true z1;lia)) h5
    ·exact absurd (.inr (by have:=of_decide_eq_true z2;lia)) h5
    ·refine(U,_,U,U,U,aI,p1,U,pp,stk,f,n,(n:Int)+1,o,vs,ns,c,m+1,[y],[.t [.s mk,.t (us.map Vl.t)]],.zl [.s y],.zl [.t [.s mk,.t (us.map Vl.t)]],U,q.1,q.2.1,(by have:=q.2.2;show ns.length+1<1000;lia),U,i1,p1,by lia,V,av,U,U,λo' vs'=>?_)
     exact(_,U,U,hq _ (o',vs',U))
  |@call y nm ys us b _ _ h g' h1 h2 h3 h4 h5 h6 h7 =>
   refine(_,U,U,?_);refine(_,U,(by show 4<mV;decide),U,U,?_)
   refine(U,U,_,U,bx (by rw[dz];lia),λi zs=>zs=(gs.take i).map (·.nm),U,λi z zs hz e=>?_,λzs e=>?_)
   ·subst e;rw[j5]at hz;let(k,hk,U):=j7.mp hz;let(s',e1):=aE k (pA hk);refine(_,U,k.nm,U,(by rw[e1];rfl),?_)
    rw[u3,hk];simp
   ·subst e;rw[dz,uj];refine(_,U,Qi aE,U,h,P4 aE h4 h5 h6,?_);refine(_,U,bx (by rw[dz];lia),λi zs=>zs=us.take i,U,λi z zs hz e=>?_,λzs e=>?_)
    ·subst e;rw[j5]at hz;let(y',aD,U):=j7.mp hz;let(v,g1,g2,g3):=h3.2 i y' aD;refine(_,U,v,g2,g3,?_);rw[u3,g1];rfl
    ·subst e;rw[dz,<- h3.1,uj];let aM:=q.dv h3;refine(_,U,ks,gs,h,g',us,.l us,0,U,aS,h4,h7,h3.ims,aM,.inr (U,.inr U),λo' ws=>(_,U,?_))
     let US:L2.T.ims (stk ++ [frL f n o vs ns])=true:=cw λt ht=>by
      obtain z|z:=p7.mp ht
      ·exact cv av z
      ·rw[ej.mp z];rfl
     let UQ:L2.T.dv (stk ++ [frL f n o vs ns] ++ [frL h 0 o' ws (g'.names us)])=true:=gb λt ht=>by
      obtain z|z:=p7.mp ht
      ·obtain z|z:=p7.mp z
       ·exact f9 V z
       ·rw[ej.mp z];show(O&&(O&&(L2.T.gc ns&&O)))=O;rw[q.2.1];rfl
      ·rw[ej.mp z];show(O&&(O&&(L2.T.gc (g'.names us)&&O)))=O;rw[WF.nL aM];rfl
     refine(_,_,U,U,P1 (bx (by rw[px];show stk.length+1+1<=_;lia)),US,U,UQ,(by show 4<mV;decide),U,U,?_)
     exact(_,U,U,hq _ (o',ws,g',h4,U))
  |@give _ z v _ h1 h2 =>
   refine(_,U,U,?_);refine(_,U,(by show 4<mV;decide),U,U,?_)
   let vp:=q.pln h1;let bt:(L2.T.t [ks,.t (gs.map WF.t)]).im=true:=by show(ks.im&&(L2.T.ims (gs.map WF.t)&&O))=O;rw[a5,show L2.T.ims (gs.map WF.t)=O from aS];rfl
   refine(U,U,U,U,U,?_);refine(U,bt,.s z,U,v,h1,(by show(v.im&&O)=O;rw[h2];rfl),pp,ks,gs,stk,_,c,m+1,v,U,h2,vp,U,aQ,V,av,?_)
   obtain rfl |⟨lL,f',n',o',vs',ns',y,hb⟩:=a6
   ·exact .inl (U,_,U,(by show(O&&(O&&(O&&((O&&(v.im&&O))&&O))))=O;rw[h2];rfl),hq _ (.inl (U,U)))
   ·exact .inr (lL,f',n',o',vs',ns',y,hb,λo2 vs2=>(_,U,U,hq _ (.inr (lL,f',n',o',vs',ns',y,o2,vs2,hb,U))))
  |@case _ z mk us _ arms Ls j ys b h1 h2 h3 h4 h5 h6 h7 =>
   refine(_,U,U,?_);refine(_,U,(by show 4<mV;decide),U,U,?_)
   let vp:=q.pln h1;let up:L2.T.dv us=true:=by
    let h:(O&&(L2.T.dv us&&O))=true:=vp;rw[Bool.true_and,Xx]at h;exact h
   let a3:(L2.T.t [.s mk,.t us]).im=true:=by show(O&&(L2.T.ims us&&O))=O;rw[h2];rfl
   refine(U,U,U,U,?_);refine(U,.s z,U,_,h1,(by show(O&&((L2.T.t [.s "case",.s z,.t (arms.map fD)]).im&&((L2.T.t [.s mk,.t us]).im&&O)))=O;rw[aH,a3];rfl),pp,stk,f,n,n,o,vs,ns,c,m+1,z,mk,us,arms,Ls,j,ys,b,U,q,h2,up,aQ,V,av,h3,h4,h5,h6,h7,λo' vs'=>?_)
   exact(_,U,U,hq _ (o',vs',U))
inductive O3(CW:J)(ts:List L2.T)(Q:L2.T->Prop):Prop
 |mk(a fns frs c m e)(h1:ts=[wT CW a fns frs c m e])(h2:(e=.n/\Q (.t [.s "late"])\/∃ps,e=.t ps/\T.ims ps=O/\Q (.t ps)))
theorem yK(T:Txt K mg a):a8 P w K mg base CX0 2 a.iV a.sk ["walk"] (spQ K (O3 a.aE)):=by
 refine T.sV.F.okQ x8 (λts Q h=>?_) (λ_ _ _ _ _ _ hr=>?_)
 ·let(_,_,_,_,_,_,U,_):=h;rfl
 ·refine(_,_,((ai (aV (Nz (bW nH j9 (bH _) (QPF.w (ic T.aQ T.ot (yM T) hr.bz T.sF (qv 0))) (QPF.w cS)) (ar (gE (by rfl))) (ic T.aQ T.ot (yM T) hr.bz T.sF (qv 0)))))),λts Q h=>?_)
  obtain⟨x,fns,frs,c,m,e,rfl,⟨rfl,hq⟩|⟨ps,rfl,hi,hq⟩⟩:=h
  ·exact(U,U,x,fns,frs,c,m,_,U,U,hq)
  ·exact(U,U,x,fns,frs,c,m,_,U,hi,(U,U,x,fns,frs,c,m,_,U,hi,hq))
def EY(W:Wd)(a:Cf)(M:Nat)(c:Int)(Q:L2.T->Prop):Prop :=
 (∀k q,k<M->W.Al a c k->W.sh (W.st a k) (c+W.sm a k)=Z q->Q (.t [.t [.s "short",.i q],.i (c+W.sm a k),.i ((k+1:Nat):Int)])) /\
 (∀D e,W.End a M D e->W.Al a c D->Q (.t [e,.i (c+W.sm a D),.i ((D+1:Nat):Int)])) /\
 (W.T2 a M->W.Al a c M->Q (.t [.t [.s "late"],.i (c+W.sm a M),.i (M:Nat)]))
inductive Sn(t2:Bool)(ts:List L2.T)(Q:L2.T->Prop):Prop
 |mk(W:Wd)(f:Nat)(fn:Fn)(vs:List L2.T)(u:L2.T)(c:Int)(M:Nat)(h1:ts=[W.t,.i (f:Nat),u,.i c,.i (M:Nat)])(h2:Prog W.ks W.fs)(h3:W.Args f fn vs)(h4:Arg t2 vs u)(h5:M<=5000)(h6:EY W (W.a0 f fn vs) M c Q)
theorem Hv(T:Txt K mg a)(t2:Bool):a8 P w K mg base CX0 10 a.CM a.NV ["program","f","args","coins","most"] (spQ K (Sn t2)):=by
 refine T.Dt.F.okQ FZ (λts Q h=>?_) (λ_ _ _ _ _ _ hr=>?_)
 ·let(_,_,_,_,_,_,_,U,_):=h;rfl
 ·refine(_,_,((ag (aB 5 FZ.nd (qV T.Me (wI T t2) hr.bz U T.Mb T.zy (ae (qv 0) (ae (qv 1) (ae (qv 2) (ae (qv 3) aw))))))
 (ag (DV PassesOwn.never (EZ.pt (Kt (OE (uH (QPF.w (ic T.aQ T.kK (tV T) hr.bz T.mO (bF (aR (j:=5))))) (qv 4))) (Gr (DU T.aQ T.wN (wH T) hr.bz T.zx (aR (j:=5))))))
 (ai Kz))
 (ai (aV (ar (af (aX (yK T) hr T.sV (ae (qv 5) aw)) (af (ic T.aQ T.t6 (tX T) hr.bz T.xr (bF (aR (j:=5)))) (af (ic T.aQ T.kK (tV T) hr.bz T.mO (bF (aR (j:=5)))) aj))))))))),λts Q h=>?_)
  let(W,f,fn,vs,u,z,M,U,pg,av,ha,hM,aM,aI,aH):=h;let gd:=av.ok pg;refine λx0=>((x0,tKs W.ks,ez W.fs,f,toW fn,vs,u,z,U,pg.fns,mz av.g,av.pl pg,av.all.1,rV _,ha,λx=>(U,U,?_)))
  refine(λm q=>∃(k:Nat)(t:L2.T),q=[.r W.t,.r (.i f),.r u,.r (.i z),.r (.i M),.o t]/\WkS W (W.a0 f fn vs) z a.aE a.aD x0 k t/\W.Al (W.a0 f fn vs) z k/\k+m=M,(M,0,_,U,Wd.wk0,.zero,by lia),?_)
  rintro m q ⟨k,t,rfl,hs,al,hm⟩
  let⟨(frs,x,hl,U)⟩:=id hs;refine(U,U,x0,_,_,_,k,.n,U,U,(bE (λg=>?_) (λg=>?_)))
  ·refine(U,U,U,?_);refine Wd.Ri pg gd al (by lia) hs (λq e=>?_) (λe1 e _=>?_) (λaS t' V=>?_)
   ·have:=aM k q (by lia) al e
    exact(U,U,_,U,x0,_,[],_,_,_,U,.inr (_,U,U,U,U,x0,_,[],_,_,_,U,U,U,U,x0,_,[],_,_,_,U,U,this))
   ·let he:W.End (W.a0 f fn vs) M k e1:=(by lia,al.g,e)
    have:=aI k e1 he al
    let(ps,U,hi,_):=he.t pg gd;exact(U,U,_,U,x0,_,[],_,_,_,U,.inr (ps,U,hi,U,U,x0,_,[],_,_,_,U,hi,U,U,x0,_,[],_,_,_,U,hi,this))
   ·let⟨(dg,x',a3,U)⟩:=id V;refine(U,U,_,U,λq'=>∃t,q'=[.r W.t,.r (.i f),.r u,.r (.i z),.r (.i M),.o t]/\WkS W (W.a0 f fn vs) z a.aE a.aD x0 (k+1) t,?_,?_)
    ·rintro q' ⟨t,rfl,h1⟩
     exact(m - 1,by lia,k+1,t,U,h1,aS,by lia)
    ·exact(_,U,V)
  ·have:k=M:=by lia
   subst this
   have:=aH al.g al
   exact(x0,_,_,_,_,_,U,.inl (U,U,U,x0,_,_,_,_,_,U,U,U,U,x0,_,_,_,_,_,U,U,this))
inductive O9(ts:List L2.T)(Q:L2.T->Prop):Prop
 |mk(W:Wd)(f:Nat)(fn:Fn)(h1:ts=[.cY,W.t,.i (f:Nat),.i 10])(h2:Prog W.ks W.fs)(h3:iA W.ks)(h4:W.fs[f]?=Z fn)(h5:Q .n)(h6:∀vs,W.Args f fn vs->Q (.l vs))
theorem L8(T:Txt K mg a):a8 P w K mg base CX0 25 a.xk a.IL ["_law_deal_here","_law_program_here","_law_f","_law_room"] (spQ K O9):=by
 refine T.Jt.F.okQ lR (λts Q h=>?_) (λ_ _ _ _ _ _ hr=>?_)
 ·let(_,_,_,U,_):=h;rfl
 ·let hu:=cD hr;refine(_,_,((ag (aB 4 lR.nd (aX (Eg T) hr T.zT (ae (au (qv 1) ah) aw)))
 (ag (aB 5 lR.nd (aG aj))
 (ag (cg (g:=(Tg.tp [6,7])) PassesOwn.never U (gU (QPE.f (au (au (au (qv 1) ah) (qv 2)) ah))) (ig (bo 6 lR.nd) (bo 7 lR.nd))
 (ag (bc (bW (Ee hu) FR U (qv 7) (qv 4))
 (ai (aV cS))
 aW)
 (ai (cj (i:=5) (pv 5) (aX (Ht T 21) hr T.xJ (ae (qv 0) (ae (au (qv 1) ah) (ae (qv 4) (ae (qv 7) (ae (QPF.w (cn (fX U) nc (by rfl) T.sD (by kernel_rfl) (ae (bb (qv 4) (qv 7)) (ae (QPF.w (aO ah (QPF.w (aX (gY (fi T)) hr T.aY (ae (qv 0) (ae (qv 3) aw)))))) aw)))) aw))))))))))
 (ai (ka (i:=5) (pv 5))))))),λts Q h=>?_)
  let(W,f,fn,U,pg,gk,hf,aD,aE):=h;let eg:atI ((ez W.fs).map WF.t) (f:Int)=Z (toW fn).t:=cH (by rw[j5,mz hf];rfl)
  let(p1,p2,p3,p4):=pg.pk fn (pA hf);refine(_,U,W.ks,U,gk,λds hI hZ=>?_)
  let prim:(L2.T.t ((toW fn).prs.map λp=>.t [.s p.1,p.2])).im=true:=cw λt ht=>by
   let(p,hp,U):=ui.mp ht;unfold toW at hp;let(q,_,U):=ui.mp hp;rfl
  refine(_,U,(toW fn).t,eg,_,U,prim,?_);refine(λi q=>∃(L:List L2.T)(o6 o7:Sl),q=[.r .cY,.r W.t,.r (.i f),.r (.i 10),.o (dT ds),.o (.l L),o6,o7]/\L.length=i/\∀(j:Nat)(u:L2.T)(k:Str),L[j]?=Z u->(fn.1.2.1.map (·.2))[j]?=Z k->GdV W.ks k u,([],_,_,U,U,λj u k h=>by simp at h),?_,?_)
  ·rintro i y q hy ⟨L,o6,o7,rfl,hL,hs⟩
   rw[j5]at hy;let(p,hp,U):=j7.mp hy;unfold toW at hp;rw[j5]at hp;let(pr,av,U):=j7.mp hp;let hi:=(j3.mp av).1;let ha:=gF ds pr.2;refine(_,U,?_);cases e:lk ds pr.2 with
   |none =>
    rw[e]at ha;let h1:(!(bI (ds.map dEn) (.inr pr.2)).isSome)=true:=by rw[ha];rfl
    exact bE (λ_=>aD) λg=>absurd h1 g
   |some v =>
    rw[e]at ha;let h1:¬(!(bI (ds.map dEn) (.inr pr.2)).isSome)=true:=by rw[ha];exact λz=>nomatch z
    refine bE (λg=>absurd g h1) λ_=>?_
    let(b1,b2):=hI.bd _ (jG e);let b3:=Bq (hI.len gk);let b4:bnd 3=21:=rfl;dsimp only at b1 b2;refine(bx (by lia),_,U,_,ha,by decide,by decide,λr r0 r1=>?_)
    obtain⟨room,NQ⟩:∃room:Int,room=if 1+r > v then 1+r else v:=(_,U)
    let r2:v<=room/\room<=21:=by rw[NQ];split <;> lia
    refine(W.ks,ds,pr.2,room,v,by rw[NQ],gk,hI,e,r2.1,by lia,by lia,λt h1 h2 h3=>?_)
    refine(L ++ [t],_,_,U,by rw[px,hL];rfl,λj u k V e2=>?_)
    by_cases hj:j<L.length
    ·rw[wh hj]at V;exact hs j u k V e2
    ·rw[xD (by lia)]at V
     let aH:j=L.length:=by
      have:=(j3.mp V).1
      simp at this
      lia
     subst aH;rw[Wg]at V;cases V;rw[hL,j5,av]at e2;cases e2;let(v',q1,q2,q3):=PY 21 _ _ h1;let q4:=v'.Ts;exact(v',q1,q2,by lia,by lia)
  ·rintro q ⟨L,o6,o7,rfl,hL,hs⟩
   exact aE L (hf,by rw[hL,dz];unfold toW;rw[dz],hs)
inductive O6(t2:Bool)(ts:List L2.T)(Q:L2.T->Prop):Prop
 |mk(W:Wd)(f:Nat)(fn:Fn)(vs:List L2.T)(u:L2.T)(c:Int)(M:Nat)(h1:ts=[W.t,.i (f:Nat),u,.i c,.i (M:Nat)])(h2:Prog W.ks W.fs)(h3:W.Args f fn vs)(h4:Arg t2 vs u)(h5:M<=5000)(h6:EY W (W.a0 f fn vs) M c Q)
theorem L4(T:Txt K mg a)(t2:Bool):a8 P w K mg base CX0 99 a.xf a.IG ["_law_program_here","_law_f","_law_args_here","_law_coins","_law_most"] (spQ K (O6 t2)):=by
 refine T.BF.F.okQ B2 (λts Q h=>?_) (λ_ _ _ _ _ _ hr=>?_)
 ·let(_,_,_,_,_,_,_,U,_):=h;rfl
 ·refine(_,_,((ag (aB 5 B2.nd (aX (yL T t2) hr T.xP (ae (qv 0) (ae (qv 1) (ae (qv 2) (ae (qv 3) aw))))))
 (ag (lY PassesOwn.never (QPW.pt (kU (bW nH j9 (bH _) (bb (qv 5) (QPF.w az)) (QPF.w cS)) (iH (uH (bb (qv 5) (QPF.w az)) (qv 4)))))
 (ai (d5 (i:=5) (j:=1) (L0 T) hr.bz U T.xK.m T.xK.F.kp T.xK.b (B9 (qv 0) (d6 (i:=5) (pv 5) aw)))))
 (ag (bc (bW nH j9 (bH _) (bb (qv 5) (QPF.w az)) (QPF.w cS))
 (ai (aV (ar (af (ar (gE (by rfl))) (af (QPE.f (bb (qv 5) (QPF.w az))) (af (QPE.f (bb (qv 5) (QPF.w az))) aj))))))
 aW)
 (ai (aV (ar (af (QPE.f (bb (qv 5) (QPF.w az))) (af (QPE.f (bb (qv 5) (QPF.w az))) (af (QPE.f (bb (qv 5) (QPF.w az))) aj)))))))))),λts Q h=>?_)
  let(W,f,fn,vs,u,c0,M,U,pg,V,ha,hM,aI,aH,aE):=h;let gd:=V.ok pg;refine(tKs W.ks,ez W.fs,f,toW fn,vs,_,_,U,pg.fns,mz V.g,V.pl pg,V.all.1,V.all.2,ha,λo ws=>?_)
  obtain⟨X8,z⟩:∃X8:Nat->Sq->Prop,X8=λn q=>(∃(k:Nat)(ds:List (Key×L2.T)),q=[.r W.t,.r (.i f),.r u,.r (.i c0),.r (.i M),.o (.d ds)]/\LwS W (W.a0 f fn vs) c0 k ds/\W.Al (W.a0 f fn vs) c0 k/\k+n=M) \/
   (∃(c:Int)(D:Nat)(ps:List L2.T),q=[.r W.t,.r (.i f),.r u,.r (.i c0),.r (.i M),.o (.d (stT [] c ((D+1:Nat):Int) (.t ps)))]/\L2.T.ims ps=O/\Q (.t [.t ps,.i c,.i ((D+1:Nat):Int)])/\n=0):=(_,U)
  refine(X8,(M,?_),?_)
  ·rw[z];exact .inl (0,_,U,Wd.lw0,.zero,by lia)
  intro n q hw;rw[z]at hw;obtain⟨k,ds,rfl,hs,al,hm⟩|⟨c,D,ps,rfl,hi,hq,rfl⟩:=hw
  ·let⟨(ts,o,vs',hl,U)⟩:=id hs;refine(_,U,?_);refine(_,U,bE (λg=>?_) (λg=>?_))
   ·refine(λq'=>∃n',n'<n/\X8 n' q',λq' h=>h,?_)
    refine(U,λp=>(Wd.im pg,U,?_))
    refine Wd.stepK pg gd al (by lia) (rV _) hs (λq e=>?_) (λe1 e _=>?_) (λaM aQ aD=>?_)
    ·have:=aI k q (by lia) al e
     refine(0,by lia,?_)
     rw[z];exact .inr (_,k,_,U,U,this,U)
    ·let he:W.End (W.a0 f fn vs) M k e1:=(by lia,al.g,e)
     have:=aH k e1 he al
     let(ps,U,hi,_):=he.t pg gd;refine(0,by lia,?_)
     rw[z];exact .inr (_,k,ps,U,hi,this,U)
    ·refine(n - 1,by lia,?_)
     rw[z];exact .inl (k+1,_,U,aD,aM,by lia)
   ·have:k=M:=by lia
    subst this;let hq:=aE al.g al;exact(_,U,_,U,U,_,U,U,hq)
  ·refine(_,U,?_);exact(_,U,_,U,hi,_,U,U,_,U,U,hq)
theorem B7(pg:Prog W.ks W.fs){a:Cf}(ha:lF W 0 a):∃(ps:List L2.T)(x:Int)(s:Nat),T.ims ps=O/\(∀z∈ps,Dep 120 z)/\s<=M/\∀Q:L2.T->Prop,Q (.t [.t ps,.i x,.i (s:Nat)])->EY W a M c Q:=by
 let go:∀n k,k+n=M->W.Al a c k->∃(ps:List L2.T)(x:Int)(s:Nat),T.ims ps=O/\(∀z∈ps,Dep 120 z)/\s<=M/\∀Q,Q (.t [.t ps,.i x,.i (s)])->EY W a M c Q:=by
  intro n
  induction n with
  |zero =>
   intro k V al;let V:k=M:=by lia
   subst V;refine([.s "late"],c+W.sm a k,k,U,bf Dep.s bM,mW _,λQ P=>(λj q hj _ e=>?_,λD e he _=>?_,λ_ _=>P))
   ·have:=al.s j hj
    rw[e]at this;cases this
   ·exact(he.Bb al.g).elim
  |succ n ih =>
   intro k V al;cases es:W.sh (W.st a k) (c+W.sm a k)with
   |some q =>
    let aD:W.ed (W.st a k)=none:=by
     unfold Wd.sh at es;unfold Wd.ed;cases e:W.act (W.st a k).top with
     |pay _ _=>rfl
     |get _ _=>rfl
     |on _=>rfl
     |push _ _=>rfl
     |give _=>rw[e]at es;cases es
     |great _=>rw[e]at es;cases es
    let stop:∀{j:Nat},W.Al a c j->j<=k:=λ{j} h=>WH λz=>by
     have:=h.s k z;rw[es]at this;cases this
    refine([.s "short",.i q],c+W.sm a k,k+1,U,bf Dep.s (bf Dep.i bM),by lia,λQ P=>(λj q' hj K e=>?_,λD e he K=>?_,λhl K=>?_))
    ·obtain z|z:=W0 (stop K)
     ·have:=al.s j z;rw[e]at this;cases this
     ·subst z;rw[es]at e;cases e;exact P
    ·obtain z|z:=W0 (stop K)
     ·have:=al.g D z;rw[he.ed]at this;cases this
     ·subst z;have:=he.ed;rw[aD]at this;cases this
    ·have:=stop K
     lia
   |none =>
    cases ee:W.ed (W.st a k)with
    |none=>exact ih (k+1) (by lia) (al.next ee es)
    |some e =>
     let he:W.End a M k e:=(by lia,al.g,ee)
     let(ps,U,hi,hd):=he.t pg ha;refine(ps,c+W.sm a k,k+1,hi,hd,by lia,λQ P=>(λj q' hj K e=>?_,λD e' av K=>?_,λhl _=>(he.Bb hl).elim))
     ·obtain z|z|z:=W6 j k
      ·have:=al.s j z;rw[e]at this;cases this
      ·subst z;rw[es]at e;cases e
      ·have:=K.g k z;rw[ee]at this;cases this
     ·let(U,U):=he.eq av;exact P
 exact go M 0 (by lia) .zero
def tg:L2.T->Option Str
 |.t (.s w::_)=>Z w
 |_=>Y
theorem g8.cl{n c:Int}{ns:List (Key×L2.T)}{r:uo}(h:g8 gs n p ns c r):tg p=Z ("call":Str)->∃f vs,r=.push f vs:=by
 cases h <;> intro z <;> first|exact(_,_,U)|exact absurd (Option.some.inj (z)) (by decide)
theorem g8.py{n c:Int}{ns:List (Key×L2.T)}{r:uo}(h:g8 gs n p ns c r):tg p=Z ("pay":Str)->∃k b,p=.t [.s "pay",.i k,b]/\(k > c\/r=.on (n+1) b ns (c - k)):=by
 cases h <;> intro z <;> first|exact(_,_,U,.inr U)|exact absurd (Option.some.inj (z)) (by decide)|skip
 rename_i h1 h2;exact(_,_,U,.inl h2)
theorem Wd.Qt{W:Wd}(pg:Prog W.ks W.fs)(h:lD W.ks W.fs fr)(hp:tg fr.p=Z ("call":Str)):∃fr' vs,W.act fr=.push fr' vs/\∃g,W.fs[fr'.f]?=Z g/\fr'.p=g.2.1:=by
 let(st,q):=W.n6 pg h;let(f,vs,hr):=(st 0).cl hp;cases e:W.act fr with
 |push fr' us =>
  rw[e]at q;let(_,(g,g1,g2),_):=q;exact(fr',us,U,g,g1,by rw[g2])
 |pay k fr' =>
  rw[e]at hr;dsimp only[vR]at hr
  split at hr <;> cases hr
 |get k fr'=>rw[e]at hr;cases hr
 |on fr'=>rw[e]at hr;cases hr
 |give v=>rw[e]at hr;cases hr
 |great m=>rw[e]at hr;cases hr
theorem Wd.Qs{W:Wd}(pg:Prog W.ks W.fs)(h:lD W.ks W.fs fr)(hp:fr.p=.t [.s "pay",.i 1,b]):∃fr',W.act fr=.pay 1 fr'/\fr'.p=b:=by
 let(st,g):=W.n6 pg h;let(k,z,q,hr):=(st 1).py (by rw[hp];rfl)
 rw[hp]at q;cases q;obtain hr|hr:=hr
 ·exact absurd hr (by decide)
 cases e:W.act fr with
 |push fr' us=>rw[e]at hr;cases hr
 |pay k fr' =>
  rw[e]at hr g;dsimp only[vR]at hr
  split at hr
  ·cases hr
  ·injection hr with h1 h2 h3 h4
   have:k=1:=by lia
   subst this;exact(fr',U,h2)
 |get k fr' =>
  rw[e]at hr g
  have:=g.1
  injection hr with h1 h2 h3 h4
  lia
 |on fr' =>
  rw[e]at hr;injection hr with h1 h2 h3 h4
  exact absurd h4 (by decide)
 |give v=>rw[e]at hr;cases hr
 |great m=>rw[e]at hr;cases hr
structure og(W:Wd)(cb:L2.T)(q:Nat):Prop where
 one:∀(f:Nat) fn,W.fs[f]?=Z fn->fn.2.1=if q=0 then cb else .t [.s "pay",.i 1,cb]
 tg:tg cb=Z ("call":Str)
 q1:q<=1
theorem og.go(pg:Prog W.ks W.fs)(R:og W cb q){a:Cf}(ha:lF W 0 a)(h0:a.top.p=if q=0 then cb else .t [.s "pay",.i 1,cb]):
  ∀k:Nat,(∀j<k,W.ed (W.st a j)=Y)/\(W.st a k).top.p=(if q=0\/k % 2=1 then cb else .t [.s "pay",.i 1,cb])/\W.sm a k = -(((k+1) / 2*q:Nat):Int)
 | 0=>(λ_ h=>absurd h (WQ _),by
   show a.top.p=_;rw[h0];by_cases z:q=0
   ·rw[if_pos z,if_pos (.inl z)]
   ·rw[if_neg z,if_neg (by rintro(y|y);exact z y;exact absurd y (by decide))],by rw[Nat.zero_mul];rfl)
 |k+1=>by
  let(h1,h2,h3):=og.go pg R ha h0 k;let ok:=(Wd.gd pg ha h1).t;let q1:=R.q1;by_cases g:q=0\/k % 2=1
  ·rw[if_pos g]at h2;let(fr',vs,e,P,g1,g2):=W.Qt pg ok (by rw[h2];exact R.tg)
   refine(λj K=>?_,?_,?_)
   ·obtain z|rfl:=V4.mp K
    ·exact h1 j z
    ·unfold Wd.ed;rw[e]
   ·show(W.nx (W.st a k)).top.p=_;unfold Wd.nx;rw[e];rw[g2,R.one _ _ g1];by_cases z:q=0
    ·rw[if_pos z,if_pos (.inl z)]
    ·rw[if_neg z,if_neg (by rintro(y|y);exact z y;obtain x|x:=g;exact z x;lia)]
   ·show W.sm a k+W.dl (W.st a k)=_;unfold Wd.dl;rw[e,h3];obtain z|z:=g
    ·subst z;rfl
    ·have:(k+1+1) / 2=(k+1) / 2:=by lia
     rw[this,VT]
  ·rw[if_neg g]at h2;let(fr',e,g2):=W.Qs pg ok h2;let hq:q=1:=by lia
   refine(λj K=>?_,?_,?_)
   ·obtain z|rfl:=V4.mp K
    ·exact h1 j z
    ·unfold Wd.ed;rw[e]
   ·show(W.nx (W.st a k)).top.p=_;unfold Wd.nx;rw[e];rw[g2,if_pos (.inr (by lia))]
   ·show W.sm a k+W.dl (W.st a k)=_;unfold Wd.dl;rw[h3,hq]
    lia
theorem og.Bb(pg:Prog W.ks W.fs){cb:L2.T}(R:og W cb q){a:Cf}(ha:lF W 0 a)(h0:a.top.p=if q=0 then cb else .t [.s "pay",.i 1,cb])(K:M<=5000){Q:L2.T->Prop}
  (g:Q (.t [.t [.s "late"],.i (5000 - (((M+1) / 2*q:Nat):Int)),.i (M:Nat)])):EY W a M 5000 Q:=by
 let q1:=R.q1;refine(λk q' z al e=>?_,λD e he al=>?_,λhl al=>?_)
 ·let(_,_,h4):=R.go pg ha h0 (k+1)
  have:=Wd.Ei (c:=5000) (by
   rw[h4]
   have:(k+1+1) / 2*q <=(k+1+1) / 2*1:=Xt _ q1
   lia)
  rw[this]at e;cases e
 ·have:=(R.go pg ha h0 (D+1)).1 D (VA D)
  rw[he.ed]at this;cases this
 ·let(_,_,h3):=R.go pg ha h0 M;rw[h3];exact g
inductive O4(ts:List L2.T)(Q:L2.T->Prop):Prop
 |mk(h1:ts=[.cY])(h2:Q (.b O))
theorem Tq(h:(ws.length:Int)=8):∃w0 w1 w2 w3 w4 z q g,ws=[w0,w1,w2,w3,w4,z,q,g]:=by
 match ws,h with
 |[w0,w1,w2,w3,w4,z,q,g],_=>exact(_,_,_,_,_,_,_,_,U)
 |[],h=>exact absurd h (by decide)
 |[_],h=>simp at h
 |[_,_],h=>simp at h
 |[_,_,_],h=>simp at h
 |[_,_,_,_],h=>simp at h
 |[_,_,_,_,_],h=>simp at h
 |[_,_,_,_,_,_],h=>simp at h
 |[_,_,_,_,_,_,_],h=>simp at h
 |_::_::_::_::_::_::_::_::_::r,h=>simp at h;lia
def onP(w0 w1 w2 w3 w4:Str)(q:Nat):Wd:=([(w0,[(w1,[])])],[((w2,[(w4,w0)],w0),(if q=0 then .t [.s "call",.s w3,.s w2,.t [.s w4],.t [.s "give",.s w3]]else .t [.s "pay",.i 1,.t [.s "call",.s w3,.s w2,.t [.s w4],.t [.s "give",.s w3]]]),2+q)])
theorem onP.ok(K:w3≠w4)(hq:q<=1):Prog (onP w0 w1 w2 w3 w4 q).ks (onP w0 w1 w2 w3 w4 q).fs where
 gk:=(by show 1<=1;decide,by show 1<=6;decide,sP.mpr (xH,mu),sP.mpr (xH,mu),λk g=>by rw[ej.mp g];exact((λz=>nomatch z),by show 1<=6;decide),λk g m hm=>by rw[ej.mp g]at hm;rw[ej.mp hm];exact(by show 0<=4;decide,bY))
 l8:=by show 1<=8;decide
 hn:=sP.mpr (xH,mu)
 pk:=λf hf=>by
  rw[ej.mp hf];exact(by show 1<=4;decide,λp hp=>by rw[ej.mp hp];exact g5,sP.mpr (xH,mu),g5)
 sn:=λf hf=>by
  rw[ej.mp hf];let cl:Snd [(w0,[(w1,[])])] [(w2,[(w4,w0)],w0)] w0 2 [(w4,w0)] (.t [.s "call",.s w3,.s w2,.t ([w4].map .s),.t [.s "give",.s w3]]) :=
   .call g5 (U,λp hp=>hp) (λz=>K (ej.mp z)) (.give (p6 _ g5))
  refine(?_,by show 2+q<=50000;lia)
  by_cases z:q=0
  ·subst z;exact cl
  ·have:q=1:=by lia
   subst this;exact .su (.inl U,by decide,by decide) cl
 dp:=λf hf=>by
  rw[ej.mp hf];let cl:Dep 10 (.t [.s "call",.s w3,.s w2,.t [.s w4],.t [.s "give",.s w3]]):=Dep.t (bf Dep.s (bf Dep.s (bf Dep.s (bf (Dep.t (bf Dep.s bM)) (bf (Dep.t (bf Dep.s (bf Dep.s bM))) bM)))));show Dep 92 (if q=0 then _ else _)
  split
  ·exact cl.mono (by decide)
  ·exact(Dep.t (bf Dep.s (bf Dep.i (bf cl bM)))).mono (by decide)
theorem onP.args:(onP w0 w1 w2 w3 w4 q).Args 0 ((w2,[(w4,w0)],w0),(if q=0 then .t [.s "call",.s w3,.s w2,.t [.s w4],.t [.s "give",.s w3]]else .t [.s "pay",.i 1,.t [.s "call",.s w3,.s w2,.t [.s w4],.t [.s "give",.s w3]]]),2+q) [.t [.s w1,.t []]] where
 g:=rfl
 l:=rfl
 s:=λi u k h1 h2=>by
  match i,h1,h2 with
  | 0,h1,h2 =>
   cases h1;cases h2;refine(.mk w1 [],U,?_,by simp[Vl.sz,Vl.szs],by simp[Vl.dp,Vl.dps])
   exact .mk (m:=(w1,[])) g5 g5 U λi v f h=>by simp at h
  |i+1,h1,_=>simp at h1
theorem onP.Bb{q:Nat}(z:w3≠w4)(hq:q<=1){fn:Fn}{vs:List L2.T}(K:(onP w0 w1 w2 w3 w4 q).Args 0 fn vs){M:Nat}(V:M<=5000){Q:L2.T->Prop}(P:Q (.t [.t [.s "late"],.i (5000 - (((M+1) / 2*q:Nat):Int)),.i (M:Nat)])):EY (onP w0 w1 w2 w3 w4 q) ((onP w0 w1 w2 w3 w4 q).a0 0 fn vs) M 5000 Q:=by
 let pg:=onP.ok (w0:=w0) (w1:=w1) (w2:=w2) z hq;let ef:=K.g;cases ef;refine og.Bb pg (λf fn h=>?_,U,hq) (K.ok pg) U V P
 match f,h with
 | 0,h=>cases h;rfl
 |f+1,h=>cases h
theorem wC(T:Txt K mg a):a8 P w K mg base CX0 12 a.gG a.oy ["_law_deal_here"] (spQ K O4):=by
 refine T.oK.F.okQ cm (λts Q h=>?_) (λ_ _ _ _ _ _ hr=>?_)
 ·let(U,_):=h;rfl
 ·let hu:=cD hr;refine(_,_,((ag (aB 1 cm.nd (aX (yI T) hr T.xI (ae (qv 0) (ae ah aw))))
 (ag (aB 2 cm.nd (ar (af az (af (QPE.f (au (qv 1) ah)) (af (QPE.f (au (qv 1) ah)) (af (ar (af (QPE.f (au (qv 1) ah)) aj)) (af (ar (af az (af (QPE.f (au (qv 1) ah)) aj))) aj)))))))
 (ag (aB 3 cm.nd (aX (gY (fi T)) hr T.aY (ae (qv 0) (ae ah aw))))
 (ag (bc (qT (qv 3) ah)
 (ai (aB 2 cm.nd (ar (af az (af (QPE.f (qv 3)) (af (QPE.f (qv 2)) aj))))))
 aW)
 (ag (aB 4 cm.nd (ar (af (ar (af (ar (af (QPE.f (au (qv 1) ah)) (af (ar (af (ar (af (QPE.f (au (qv 1) ah)) (af (ar aj) aj))) aj)) aj))) aj)) (af (ar (af (ar (af (QPE.f (au (qv 1) ah)) (af (ar (af (ar (af (QPE.f (au (qv 1) ah)) (af (QPE.f (au (qv 1) ah)) aj))) aj)) (af (QPE.f (au (qv 1) ah)) (af (QPE.f (qv 2)) aj))))) aj)) aj))))
 (ag (aB 5 cm.nd (jC (aG (af bO (af (aO ah (QPF.w (aX (gY (fi T)) hr T.aY (ae (qv 0) (ae ah aw))))) aj))) (QPF.w (aX (gY (fi T)) hr T.aY (ae (qv 0) (ae ah aw))))))
 (ag (aB 6 cm.nd (nB (QPF.w (Cb (QPF.w (aO (qv 5) ah)) ah)) (qv 3)))
 (ai (aV (kW (Pl (CH hr) U) J8 (bH _) (QPF.w (aX (Hv T ϊ) hr T.Dt (ae (qv 4) (ae ah (ae (QPF.w (aG (af (ar (af (QPE.f (au (qv 1) ah)) (af (ar aj) aj))) aj))) (ae ah (ae (qv 5) aw))))))) (QPF.w (ar (af (ar (gE (by rfl))) (af (nt ah (qv 6)) (af (QPE.f (qv 5)) aj)))))))))))))))),λts Q h=>?_)
  let(U,hq):=h;refine(8,U,by decide,by decide,λws hl hn _=>?_)
  let(w0,w1,w2,w3,w4,w5,w6,w7,U):=Tq hl;let q:w3≠w4:=λz=>by subst z;simp at hn
  refine(_,U,U,_,U,U,_,U,U,_,U,U,?_);refine(by decide,by decide,λr r0 r1=>?_)
  refine bE (λg=>(U,U,?_)) (λg=>?_)
  ·refine(_,U,U,_,U,U,_,U,U,_,U,U,_,U,U,_,U,U,U,?_);refine(by decide,by decide,λm m0 m1=>?_)
   refine(by decide,by decide,λd d0 d1=>?_)
   let(x,ex,hx):=xt (xs:=[2000,1000+m]) d0 d1;let hx:x=2000\/x=1000+m:=by simpa using hx
   obtain⟨M,rfl⟩:∃M:Nat,x=M:=(x.toNat,by lia)
   obtain rfl:r=1:=by lia
   refine(_,ex,?_);refine((by decide,by decide),.inr (by decide,by decide),?_)
   refine(_,U,U,?_);refine(onP w0 w1 w2 w3 w4 1,0,_,_,_,5000,M,U,onP.ok q (by decide),onP.args,.inr (U,.inr U),by lia,?_)
   refine onP.Bb q (by decide) onP.args (by lia) ?_
   rw[show(5000:Int) - (((M+1) / 2*1:Nat):Int)=5000 - ((M:Int)+1) / 2*1 by lia]
   refine(U,100,by decide,km (bf (Dep.t (n:=99) (bf Dep.s bM)) (bf Dep.i (bf Dep.i bM))),λca V=>?_)
   obtain rfl:=V.mpr U;exact hq
  ·dsimp only[uK];refine(_,U,U,_,U,U,_,U,U,_,U,U,_,U,U,_,U,U,U,?_);refine(by decide,by decide,λm m0 m1=>?_)
   refine(by decide,by decide,λd d0 d1=>?_)
   let(x,ex,hx):=xt (xs:=[2000,1000+m]) d0 d1;let hx:x=2000\/x=1000+m:=by simpa using hx
   obtain⟨M,rfl⟩:∃M:Nat,x=M:=(x.toNat,by lia)
   obtain rfl:r=0:=by lia
   refine(_,ex,?_);refine((by decide,by decide),.inr (by decide,by decide),?_)
   refine(_,U,U,?_);refine(onP w0 w1 w2 w3 w4 0,0,_,_,_,5000,M,U,onP.ok q (by decide),onP.args,.inr (U,.inr U),by lia,?_)
   refine onP.Bb q (by decide) onP.args (by lia) ?_
   rw[show(5000:Int) - (((M+1) / 2*0:Nat):Int)=5000 - ((M:Int)+1) / 2*0 by lia]
   refine(U,100,by decide,km (bf (Dep.t (n:=99) (bf Dep.s bM)) (bf Dep.i (bf Dep.i bM))),λca V=>?_)
   obtain rfl:=V.mpr U;exact hq
theorem Vm{p:Bool->PSp}(F:∀b,a8 P w K mg base CX k f fd prs (spQ K (p b))):a8 P w K mg base CX k f fd prs (spQ K λts Q=>∃b,p b ts Q) where
 len:=λvs H Q E h=>by
  let(dl,ts,G,Qp,h1,h2,(b,h3),h4):=h;exact(F b).len vs H Q E (dl,ts,G,Qp,h1,h2,h3,h4)
 run:=λA outer s H args us vs Q E hr he g hv h=>by
  let(dl,ts,G,Qp,h1,h2,(b,h3),h4):=h;exact(F b).run A outer s H args us vs Q E hr he g hv (dl,ts,G,Qp,h1,h2,h3,h4)
theorem Pn(T:Txt K mg a):a8 P w K mg base CX0 130 a.uX a.NW ["_law_script"] (qD K):=by
 let aI:=gY (@fi P w K mg base a T);refine T.T5.F.UH (n:=11) (s1:=(cf oq).headD (.Pass (0,0,0,0))) (rest:=(cf oq).tail) e9 U U (λ_ _ _ _ _ _ hr=>?_)
 let hu:=cD hr;refine(_,_,_,(iM (i:=1) e9.nd U (Or.inl U) (wx (L5 T) hr.bz U T.xO.m T.xO.F.kp T.xO.b .nil kH (bL (pv 0) (bL bG eu)))),((ag (bc (QPW.pt (kU (bV hu (QPF.w (aX aI hr T.aY (ae (qv 1) (ae ah aw)))) ah) (iH (Gs (fu (QPF.w (aX (wC T) hr T.oK (ae (qv 1) aw))))))))
 (ai (aV GB))
 aW)
 (ag (aB 2 e9.nd (aX (AZ T) hr T.vh (ae (qv 1) (ae ah (ae (QPF.w (aO ah (QPF.w (aX aI hr T.aY (ae (qv 1) (ae ah aw)))))) aw)))))
 (ag (cg (g:=(Tg.nm 3)) PassesOwn.never U (fW U T.fQ (ae (QPF.w (bN T.cE (ae (au (qv 2) ah) aw))) aw)) (bo 3 e9.nd)
 (ag (aB 4 e9.nd (aX (L8 T) hr T.Jt (ae (qv 1) (ae (qv 2) (ae (qv 3) (ae ah aw))))))
 (ai (bc (bW pO lN (bH _) (qv 4) (QPF.w cS))
 (ag (aB 5 e9.nd (jC (aG (af (aX aI hr T.aY (ae (qv 1) (ae ah aw))) (af (OL ah ah) aj))) (QPF.w (aX aI hr T.aY (ae (qv 1) (ae ah aw))))))
 (ag (aB 6 e9.nd (aX aI hr T.aY (ae (qv 1) (ae ah aw))))
 (ag (gT (g:=(Tg.tp [7,8,9])) (QPF.w (aX (L4 T ϊ) hr T.BF (ae (qv 2) (ae (qv 3) (ae (qv 4) (ae (qv 5) (ae ah aw))))))) (d9 (K:=K) (n:=3) U U (aL (bo 7 e9.nd) (aL (bo 8 e9.nd) (aL (bo 9 e9.nd) d8)))))
 (ai (cg (g:=(Tg.nm 10)) PassesOwn.never U (KL (aG (af (QPE.f (qv 6)) (af bO (af (QPE.f (qv 9)) (af (cn (fX U) nc (by rfl) T.sD (by kernel_rfl) (ae (QPF.w (nt (qv 9) ah)) (ae ah aw))) (af (aO (qv 9) ah) (af (QPE.f (qv 6)) aj)))))))) (bo 10 e9.nd)
 (ag (aB 11 e9.nd (aX (L4 T ϊ) hr T.BF (ae (qv 2) (ae (qv 3) (ae (qv 4) (ae (qv 5) (ae (qv 10) aw)))))))
 (ag (aB 12 e9.nd (aX (Vm (Hv T)) hr T.Dt (ae (qv 2) (ae (qv 3) (ae (QPF.w (bh (bT U) bS (by rfl) T.cU (by kernel_rfl) (ae (qv 4) aw))) (ae (qv 5) (ae (qv 10) aw)))))))
 (ai (bc (QPW.pt (uG (bW (Hq (CH hr) U) BZ (bH _) (qv 12) (qv 11)) (uG (Gs (fu (QPF.w (cn (ET U) J6 (by rfl) T.xq (by kernel_rfl) (ae (qv 12) (ae (QPF.w (RR (n:="tuple") U T.cU (by kernel_rfl))) aw)))))) (vT (bW (Hq (CH hr) U) BZ (bH _) (QPF.w (aX (Vm (Hv T)) hr T.Dt (ae (qv 2) (ae (qv 3) (ae (qv 4) (ae (qv 5) (ae (qv 10) aw))))))) (qv 11))))))
 (ai (aV GB))
 aW)))))))))
 aW))))
 (ai (aV GB)))))),λp0 ns D hS hlen k=>?_,λns hlen=>?_)
 ·refine(_,U,p0,ns,_,U,hS,hlen,by decide,by decide,λd l H1 fd fl D1 s1=>?_)
  exact k d l H1 fd fl D1 s1
 ·refine(by decide,by decide,λr r0 r1=>?_)
  refine(U,?_);refine(λrest=>bE (λg=>?x) (λ_=>rest)) ?rest
  case x =>
   exact(U,rest)
  case rest =>
  refine(by decide,by decide,λr r0 r1=>?_)
  refine(4,4+r,U,by decide,by decide,by lia,by lia,λks fs pg gk a3=>?_)
  obtain⟨W,hW⟩:∃W:Wd,W=⟨ks,fs⟩:=(_,U)
  let eW:L2.T.t [tKs ks,.t (fs.map tF)]=W.t:=by rw[hW];unfold Wd.t gsT;rw[Tf]
  let pg:Prog W.ks W.fs:=by rw[hW];exact pg
  let gk:iA W.ks:=by rw[hW];exact gk
  rw[eW];clear eW hW a3;let l8:=pg.l8;let gl:((ez W.fs).map WF.t).length=W.fs.length:=by unfold ez;rw[dz,dz]
  refine(_,U,by rw[gl];lia,by rw[gl];lia,?_)
  refine(λi q=>E10 λo3 o4 o5 o6 o7 o8 o9 aD V Q=>q=[.r (.z ns),.r .cY,.o W.t,o3,o4,o5,o6,o7,o8,o9,aD,V,Q],(_,_,_,_,_,_,_,_,_,_,U),?_,?_)
  ·rintro i y q hy ⟨o3,o4,o5,o6,o7,o8,o9,aD,V,Q,rfl⟩
   let(U,hi):=jB hy;rw[Wh];let hi:i<W.fs.length:=by rw[gl]at hi;lia
   refine(_,U,?_);refine(W,i,W.fs[i],U,pg,gk,eO hi,(_,_,_,_,_,_,_,_,_,_,U),λvs av=>?_)
   generalize W.fs[i]=fn at av
   let gd:=av.ok pg;let hA:Arg ϊ vs (.l vs):=.inr (U,.inr U);refine(by decide,by decide,λc1 bw bt=>?_)
   refine((by decide,by decide,by decide),?_)
   refine(by decide,by decide,λd d0 d1=>?_)
   let(x,ex,_):=xt (xs:=[c1,10 ^ 9]) d0 d1;refine(_,ex,?_);refine(by decide,by decide,λm0 aM a7=>?_)
   let(ps,x1,st,a5,hd,hs,aQ):=B7 pg gd (c:=x) (M:=40);refine(W,i,fn,vs,_,x,40,U,pg,av,hA,by decide,aQ _ ?_)
   clear aQ;refine((by show((L2.T.t ps).im&&(O&&(O&&O)))=O;rw[show(L2.T.t ps).im=O from a5];rfl),_,U,?_)
   refine(U,U,U,?_);refine(λn q=>P3 λaD V Q=>q=[.r (.z ns),.r .cY,.o W.t,.r (.i (i:Nat)),.o (.l vs),.o (.i x),.o (.i m0),.r (.t ps),.r (.i x1),.r (.i (st:Nat)),aD,V,Q],(_,_,_,U),?_,?_)
   ·rintro n y q hy ⟨aD,V,Q,rfl⟩
    obtain⟨M,rfl,hM⟩:∃M:Nat,y=.i (M:Int)/\M<=5000:=by
     let hm:=pA hy;simp only[kf,xH,or_false]at hm;obtain rfl|rfl|rfl|rfl|rfl|rfl:=hm
     ·exact(m0.toNat,by rw[QU aM],by lia)
     ·exact(0,U,by decide)
     ·exact(st,U,by lia)
     ·refine(st - 1,?_,by lia)
      congr 1
      split <;> lia
     ·exact(st+1,U,by lia)
     ·exact(m0.toNat,by rw[QU aM],by lia)
    let(ps,x2,s2,a4,hd2,_,aE):=B7 pg gd (c:=x) (M:=M);let a6:(L2.T.t ps).im=true:=a4;refine(_,U,?_);refine(W,i,fn,vs,_,x,M,U,pg,av,hA,hM,aE _ ?_);refine(av.all.1,O,W,i,fn,vs,_,x,M,U,pg,av,.inl (U,U),hM,aE _ ?_);let aS:=bf (Dep.t hd2) (bf (Dep.i (x:=x2)) (bf (Dep.i (x:=(s2:Int))) bM));refine(121,by decide,km aS,λca aH=>?_)
    obtain rfl:=aH.mpr U;refine bE (λz=>absurd z (by decide)) λ_=>?_
    refine(U,ϊ,W,i,fn,vs,_,x,M,U,pg,av,hA,hM,aE _ ?_);refine(121,by decide,km aS,λca aH=>?_)
    obtain rfl:=aH.mpr U;refine bE (λz=>absurd z (by decide)) λ_=>?_
    exact(_,_,_,U)
   ·rintro q ⟨aD,V,Q,rfl⟩
    exact(_,_,_,_,_,_,_,_,_,_,U)
  ·rintro q ⟨o3,o4,o5,o6,o7,o8,o9,aD,V,Q,rfl⟩
   rfl
end
theorem all_mk{l:W.OpenLaw}{w:Cl}{h:Do}{fa:J}(X:K.In h)(G:h.Ns mainGlobals mg)(hfa:mg "law"=Z (.ref fa))
  {bw:J} (LC:W.nsIn K mainGlobals "Spot"=Z (Z (.ref bw))) (LR:W.plainGet K bw Str.empty=O) (LP:W.hasDictIn K bw=O) (LN:W.plainOver K bw=O)
  (LJ:W.findIn K (.ref bw) "__setattr__"=Z (Z (.builtin "object.__setattr__"))) (LH:W.makesIn K bw=O) (LF:W.keepIn K (.ref bw)=O)
  (tT:bg K bw "piece")
  (tU:bg K bw "above")
  (yA:bg K bw "arm")
  (wj:DM K bw "__init__" "Spot.__init__" iE dS)
  {aD:J} (Hh:W.nsIn K mainGlobals "Frame"=Z (Z (.ref aD))) (Hn:W.plainGet K aD Str.empty=O) (Hm:W.hasDictIn K aD=O) (Hl:W.plainOver K aD=O)
  (Hk:W.findIn K (.ref aD) "__setattr__"=Z (Z (.builtin "object.__setattr__"))) (Hj:W.makesIn K aD=O) (Hi:W.keepIn K (.ref aD)=O)
  (AQ:bg K aD "f")
  (oR:bg K aD "number")
  (rn:bg K aD "piece")
  (rA:bg K aD "names")
  (tR:DM K aD "__init__" "Frame.__init__" gR dh)
  (kY:DM K aD "values_at" "Frame.values_at" dH cx)
  (q9:DM K aD "go_on" "Frame.go_on" fZ dy)
  (kq:DM K aD "go_on_with" "Frame.go_on_with" dn b6)
  (jl:DM K aD "go_on_in_arm" "Frame.go_on_in_arm" cQ bJ)
  {aE:J} (LB:W.nsIn K mainGlobals "Walk"=Z (Z (.ref aE))) (LQ:W.plainGet K aE Str.empty=O) (LO:W.hasDictIn K aE=O) (LM:W.plainOver K aE=O)
  (LI:W.findIn K (.ref aE) "__setattr__"=Z (Z (.builtin "object.__setattr__"))) (LG:W.makesIn K aE=O) (LD:W.keepIn K (.ref aE)=O)
  (mh:bg K aE "functions")
  (oQ:bg K aE "running")
  (tS:bg K aE "coins")
  (wo:bg K aE "done")
  (rj:bg K aE "ending")
  (wg:DM K aE "__init__" "Walk.__init__" iD dR)
  (we:DM K aE "turn" "Walk.turn" iC fC)
  (q5:DM K aE "frames" "Walk.frames" ju fk)
  (tQ:DM K aE "purse" "Walk.purse" gQ eD)
  (tO:DM K aE "steps" "Walk.steps" gP eC)
  (yz:DM K aE "end" "Walk.end" jv gy)
  (AO:DM K aE "do" "Walk.do" kO ix)
  (oP:DM K aE "do_give" "Walk.do_give" fI c7)
  (oO:DM K aE "do_make" "Walk.do_make" fH c6)
  (nF:DM K aE "do_coins" "Walk.do_coins" eZ cN)
  (nE:DM K aE "end_with" "Walk.end_with" eY cM)
  (y4:DY K "number_of" jy gH)
  (Mr:DY K "spots" vG pU)
  (oX:DY K "spots_beneath" fJ dD)
  (HN:DY K "pieces" qN mD)
  (y7:DY K "makers_in" jz gI)
  (Px:DY K "size" Aj xb)
  (Mw:DY K "depth" vL pZ)
  (SS:DY K "ran" F4 CM)
  (Bc:DY K "end_told" kS iV)
  (PC:DY K "_law_deal" Ao xi)
  (PB:DY K "_law_draw" An xh)
  (Mp:DY K "_law_words" vE pS)
  (Mt:DY K "_law_kinds" vI pW)
  (Pz:DY K "_law_fill" Am xg)
  (Mv:DY K "_law_ended" vK pY)
  (PD:DY K "_law_case" Ap xj)
  (PF:DY K "_law_body" Aq sg)
  (Eu:DY K "_law_program" nj kj)
  (HR:DY K "_law_leasts" qP mF)
  (Mq:DY K "_law_value" vF pT)
  (HQ:DY K "_law_listed" qO mE)
  (Ms:DY K "_law_sizes" vH pV)
  (Mx:DY K "_law_begun" vM p8)
  (UI:DY K "_law_on" Ov MQ)
  (HS:DY K "_law_halted" qQ mG)
  (Mu:DY K "_law_given" vJ pX)
  (y8:DY K "_law_case_step" jA gJ)
  (Pw:DY K "_law_step" Ai xa)
  (PH:DY K "_law_args" Ar xk)
  (Py:DY K "_law_ran" Ak xf)
  (y3:DY K "_law_on_and_on" jx gG)
  (N2:NI K "law" uX) (SU:LK K uX "law" "law" oq Uv Uu PR Qj Pa Qr IS Ql T9) (TB:CI K IS "law") (SW:KI K uX)
  (Rb:NB K "len")
  (Rf:NB K "all")
  (N9:NB K "list")
  (JF:NB K "tuple")
  (Rc:NB K "int")
  (Oa:NB K "dict")
  (zV:NB K "reversed")
  (Ra:NB K "max")
  (Q9:NB K "min")
  (Q8:NB K "sum")
  (JG:NB K "range")
  (vk:NB K "isinstance")
  (Q7:NB K "zip")
  (xU:NB K "enumerate")
  {tm:Tok} (sY:W.nsIn K mainGlobals "MOST_MAKERS"=Z (Z (.int 200 tm)))
  {tj:Tok} (sX:W.nsIn K mainGlobals "MOST_WITHIN"=Z (Z (.int 60 tj)))
  : ∃fd:Ch,(∀(s:ϋ)(v:B),BindsTo s fd ([v],[]) [("_law_script",v)])/\∀base:Do,K.In base->base.Ns mainGlobals mg->a8 l.prog w K mg base CX0 130 fa fd ["_law_script"] (qD K):=by
 let e:=hfa.symm.trans (W.mg_of X G N2);cases e;let(zD,_,oH):=y4;let(M4,_,Dg):=Mr;let(pj,_,jh):=oX;let(I0,_,zO):=HN;let(zE,_,oI):=y7;let(Qv,_,Jj):=Px;let(M9,_,Dm):=Mw;let(TQ,_,N5):=SS;let(Bw,_,sT):=Bc;let(Qz,_,Jn):=PC;let(Qy,_,Jm):=PB;let(M1,_,De):=Mp;let(M6,_,Di):=Mt;let(Qx,_,Jl):=Pz;let(M8,_,Dk):=Mv;let(QD,_,Jo):=PD;let(QF,_,Jp):=PF;let(EW,_,vg):=Eu;let(Jb,_,zQ):=HR;let(M3,_,Df):=Mq;let(Ja,_,zP):=HQ;let(M5,_,Dh):=Ms;let(Na,_,Dp):=Mx;let(Vp,_,T4):=UI;let(Jc,_,zR):=HS;let(M7,_,Dj):=Mu;let(zF,_,oJ):=y8;let(Qu,_,Ji):=Pw;let(QG,_,Jq):=PH;let(Qw,_,Jk):=Py;let(zC,_,oG):=y3;let N6:=Bj SU TB SW;let(j4,_,gN):=wj;let(i8,_,fV):=tR;let(mU,_,cV):=kY;let(ur,_,fq):=q9;let(lB,_,cI):=kq;let(j6,_,cz):=jl;let(jZ,_,gM):=wg;let(zH,_,gL):=we;let(uq,_,g9):=q5;let(xC,_,fU):=tQ;let(xB,_,fS):=tO;let(By,_,jb):=yz;let(E4,_,kn):=AO;let(sN,_,eR):=oP;let(sM,_,eQ):=oO;let(pz,_,dF):=nF;let(pq,_,dE):=nE;let T:Txt K mg (bw,dS,_,aD,dh,_,cx,_,dy,_,b6,_,bJ,_,aE,dR,_,fC,_,fk,_,eD,_,eC,_,gy,_,ix,_,c7,_,c6,_,cN,_,cM,_,gH,_,pU,_,dD,_,mD,_,gI,_,xb,_,pZ,_,CM,_,iV,_,xi,_,xh,_,pS,_,pW,_,xg,_,pY,_,xj,_,sg,_,kj,_,mF,_,pT,_,mE,_,pV,_,p8,_,MQ,_,mG,_,pX,_,gJ,_,xa,_,xk,_,xf,_,gG,_,uX,_):=((LR,LP,LN,LJ),W.mg_of X G LC,(LH,j4.1,j4.2,LF),tT,tU,yA,gN,j4,gN.b4,(Hn,Hm,Hl,Hk),W.mg_of X G Hh,(Hj,i8.1,i8.2,Hi),AQ,oR,rn,rA,fV,i8,fV.b4,cV,mU,cV.b2,fq,ur,fq.b3,cI,lB,cI.b2,cz,j6,cz.b1,(LQ,LO,LM,LI),W.mg_of X G LB,(LG,jZ.1,jZ.2,LD),mh,oQ,tS,wo,rj,gM,jZ,gM.b5,gL,zH,gL.b1,g9,uq,g9.b1,fU,xC,fU.b1,fS,xB,fS.b1,jb,By,jb.b1,kn,E4,kn.b2,eR,sN,eR.b2,eQ,sM,eQ.b2,dF,pz,dF.b3,dE,pq,dE.b2,(oH,W.mg_of X G zD,oH.b2),(Dg,W.mg_of X G M4,Dg.b1),(jh,W.mg_of X G pj,jh.b2),(zO,W.mg_of X G I0,zO.b1),(oI,W.mg_of X G zE,oI.b1),(Jj,W.mg_of X G Qv,Jj.b1),(Dm,W.mg_of X G M9,Dm.b1),(N5,W.mg_of X G TQ,N5.b5),(sT,W.mg_of X G Bw,sT.b1),(Jn,W.mg_of X G Qz,Jn.b2),(Jm,W.mg_of X G Qy,Jm.b2),(De,W.mg_of X G M1,De.b2),(Di,W.mg_of X G M6,Di.b2),(Jl,W.mg_of X G Qx,Jl.b3),(Dk,W.mg_of X G M8,Dk.b5),(Jo,W.mg_of X G QD,Jo.b5),(Jp,W.mg_of X G QF,Jp.b5),(vg,W.mg_of X G EW,vg.b3),(zQ,W.mg_of X G Jb,zQ.b1),(Df,W.mg_of X G M3,Df.b5),(zP,W.mg_of X G Ja,zP.b1),(Dh,W.mg_of X G M5,Dh.b1),(Dp,W.mg_of X G Na,Dp.b4),(T4,W.mg_of X G Vp,T4.b4),(zR,W.mg_of X G Jc,zR.b2),(Dj,W.mg_of X G M7,Dj.b3),(oJ,W.mg_of X G zF,oJ.b4),(Ji,W.mg_of X G Qu,Ji.b2),(Jq,W.mg_of X G QG,Jq.b4),(Jk,W.mg_of X G Qw,Jk.b5),(oG,W.mg_of X G zC,oG.b1),(N6,W.mg_of X G N2,N6.b1),W.mg_none_of X G Rb,W.mg_none_of X G Rf,W.mg_none_of X G N9,W.mg_none_of X G JF,W.mg_none_of X G Rc,W.mg_none_of X G Oa,W.mg_none_of X G zV,W.mg_none_of X G Ra,W.mg_none_of X G Q9,W.mg_none_of X G Q8,W.mg_none_of X G JG,W.mg_none_of X G vk,W.mg_none_of X G Q7,W.mg_none_of X G xU,(_,W.mg_of X G sY),(_,W.mg_of X G sX));exact(W.fnOf "law" "law" (eI oq) (cf oq) (ao oq) .none PR Qj Pa Qr IS Ql,λs v=>.of_eq U,λbase _ _=>Pn T)
theorem walk{l:W.OpenLaw}{q:Da}{loose:List Str}{XP:(Str->Option B)->Do->Prop}{Q:Cl->Do->Prop}{d:DefRec}{K:Params->BT}(hn:l.most=Z 63)(g:d.params.defaults=[])
  (V:∀(w:Cl)(h:Do),Q w h->(K w.params).In h)
  (F:∀(w:Cl)(mg:Str->Option B)(P:J)(h:Do),(K w.params).In h->h.Ns mainGlobals mg->mg d.name=Z (.ref P) ->
   ∃fd:Ch,(∀(s:ϋ)(u:B),BindsTo s fd ([u],[]) [("_law_script",u)])/\∀base:Do,(K w.params).In base->base.Ns mainGlobals mg->a8 l.prog w (K w.params) mg base CX0 130 P fd ["_law_script"] (qD (K w.params))):
  W.WalkO q loose XP Q l.row.toRowW d [] (λf vs=>PySem.call f vs) :=
 L2.JH (n:=63) (k:=130) (x:="_law_script") (CX:=λ_=>CX0) (sp:=λw=>qD (K w.params)) hn (by decide) g (U,by decide,by decide) V F (λ_ _ a ns hl hO hS=>(a,ns,U,Tn hO hS,hl,λ_=>rfl)) λ_ _ _ _ _ z=>z
end K23
namespace PySem.W.Fast
def tw10047831635709526794:=()
def tw10180368240921464946:=()
def tw10207182317574016587:=()
def tw10278670513921700402:=()
def tw10367822259310948689:=()
def tw10407452339052883282:=()
def tw10553878767121691958:=()
def tw10571951154699543455:=()
def tw10623258000989004795:=()
def tw1063142059758851346:=()
def tw10696093274449183591:=()
def tw10805679429513984441:=()
def tw10867555337464237342:=()
def tw1100759793981130454:=()
def tw11059358741705755097:=()
def tw11510229186466532298:=()
def tw11568011295510785033:=()
def tw11639144325684339177:=()
def tw11673418606175828502:=()
def tw11701086957224525976:=()
def tw11706278560582621940:=()
def tw11806247704440496251:=()
def tw11986097462332294723:=()
def tw1200799513241681284:=()
def tw12061325140048172145:=()
def tw12226534180673558721:=()
def tw12227131047137778665:=()
def tw1223884340613917962:=()
def tw12330137439458448585:=()
def tw12524331655474312909:=()
def tw12547504304317778040:=()
def tw12718633971518626613:=()
def tw12779228990758416459:=()
def tw12898253389201022602:=()
def tw13046117009076871162:=()
def tw13065589583579385085:=()
def tw13067370535675373590:=()
def tw13076785913552631631:=()
def tw13126911717586301961:=()
def tw13152559989302679141:=()
def tw13380709126464174154:=()
def tw13415011867402242606:=()
def tw13446100662900325989:=()
def tw13540864987427430206:=()
def tw13649594406309228696:=()
def tw13740068101162024593:=()
def tw13817035341698136984:=()
def tw13891929696602886770:=()
def tw14087555039646813602:=()
def tw14091665692251143720:=()
def tw14092034006020037150:=()
def tw14159711412388092396:=()
def tw14434537877357459383:=()
def tw14485419004830202839:=()
def tw14515075449676072023:=()
def tw14600749254720674040:=()
def tw14690842985338712362:=()
def tw14698838660982045252:=()
def tw1471838985484540331:=()
def tw14840137414102551135:=()
def tw14845658884129468917:=()
def tw14855009089313302718:=()
def tw14902607138323543994:=()
def tw1517007062312190506:=()
def tw15238888397837556815:=()
def tw15402852935761527466:=()
def tw15425443702034118560:=()
def tw15533529084469293140:=()
def tw15562541647864300048:=()
def tw15619071198985999535:=()
def tw15624086024131710173:=()
def tw15626263488354285868:=()
def tw15629980445991739801:=()
def tw15749327768855101250:=()
def tw15778873423698703870:=()
def tw15918291453839584516:=()
def tw15972826276331949214:=()
def tw15989009406260085363:=()
def tw16176315460053772711:=()
def tw16205188102213124012:=()
def tw16211614407001800386:=()
def tw16234654366268457029:=()
def tw16243215538910862538:=()
def tw1633491867159901416:=()
def tw16434402447799655765:=()
def tw16558922351975947740:=()
def tw16587546772755101296:=()
def tw16601412581946211304:=()
def tw16667938258847783721:=()
def tw16747001182062441012:=()
def tw16852710885965457002:=()
def tw16923860654058409335:=()
def tw16949359256836120583:=()
def tw16979278029842025098:=()
def tw17023012156601047487:=()
def tw17103127901746607240:=()
def tw17174349119725616419:=()
def tw17304717550837023329:=()
def tw17482166564268344269:=()
def tw1753403653437524100:=()
def tw17565902357544953236:=()
def tw17716935066710040723:=()
def tw17757677870440748144:=()
def tw17758007845915989407:=()
def tw1777207307499425195:=()
def tw17774747820084213441:=()
def tw17869504921585504003:=()
def tw17919425516342270196:=()
def tw17958258471418350575:=()
def tw17973096956596596932:=()
def tw18140837065768173918:=()
def tw18214196949293931259:=()
def tw18372008490693757278:=()
def tw18404239916481343947:=()
def tw1998267900711770542:=()
def tw2027109128628585163:=()
def tw2069778242914437327:=()
def tw2095641478534585435:=()
def tw2124883332046378995:=()
def tw2139855196627786192:=()
def tw2180644751514702875:=()
def tw2350015038085686814:=()
def tw235332983778072443:=()
def tw2478825823883601250:=()
def tw2614187258972744617:=()
def tw2622086981250242228:=()
def tw268644709736844678:=()
def tw2843838597893488664:=()
def tw3015489507053479748:=()
def tw3055602861029332522:=()
def tw3103653829910494427:=()
def tw3224289707306425502:=()
def tw3265205577483283064:=()
def tw3314589602368198299:=()
def tw3387225100197239480:=()
def tw3493375906134930362:=()
def tw3503694105929743158:=()
def tw3556115565730336926:=()
def tw3676620804035734868:=()
def tw3678982387537917093:=()
def tw3687631959185277091:=()
def tw3723136452121640001:=()
def tw3778401656226384155:=()
def tw3790776036084165011:=()
def tw3820453406187666353:=()
def tw3883511496907796115:=()
def tw3923320536642497159:=()
def tw4043147059566929064:=()
def tw4139717291262610088:=()
def tw4145433031196437963:=()
def tw4159240692385540239:=()
def tw4273818213681953855:=()
def tw4531050112357988906:=()
def tw4639858454294353918:=()
def tw4686343165262186096:=()
def tw4715226099399503925:=()
def tw4825872148548861991:=()
def tw4836112649607550648:=()
def tw4965055964558865875:=()
def tw4979713020142983341:=()
def tw5138595021624955398:=()
def tw5166505848921136418:=()
def tw5278713834248741046:=()
def tw5331310289813571333:=()
def tw5353011472513546019:=()
def tw5555673495160537905:=()
def tw557449004784134922:=()
def tw5634696397013908749:=()
def tw5724741640538919041:=()
def tw5758116682521379435:=()
def tw5760010856654021098:=()
def tw5798685322387057425:=()
def tw5807152931663536909:=()
def tw605518498402963442:=()
def tw6137857490604659369:=()
def tw6166565601029038599:=()
def tw6199345189979224799:=()
def tw6286782781713934888:=()
def tw6450049613126190404:=()
def tw6597054170786061234:=()
def tw6605817237305521092:=()
def tw6634528812736578466:=()
def tw6653410951924252460:=()
def tw668731963370455689:=()
def tw6756843481331926170:=()
def tw7116165740734786693:=()
def tw7267696935189436258:=()
def tw7323775503328082189:=()
def tw7474357776262798342:=()
def tw7505842307776177683:=()
def tw7524238494726776191:=()
def tw7619408324036751219:=()
def tw7691632660523046793:=()
def tw7780659149625499608:=()
def tw781963122336316394:=()
def tw8074608232512612652:=()
def tw8265812275877691169:=()
def tw8285924915617711294:=()
def tw8308979266863972100:=()
def tw855717016610786251:=()
def tw8566363673378577616:=()
def tw8574165121948849155:=()
def tw8654661733306290893:=()
def tw8710508232328935239:=()
def tw8798566281818553961:=()
def tw8828762581264945580:=()
def tw8892185972127643255:=()
def tw8896792941298558956:=()
def tw8900974910543624043:=()
def tw8946959121429112515:=()
def tw9011802513741003342:=()
def tw9013024527833060441:=()
def tw9020715604635510989:=()
def tw9082764426818359237:=()
def tw9225211949148135102:=()
def tw9281019596290997422:=()
def tw9500943202080218463:=()
def tw9808201961448520413:=()
def tw9901034234650587829:=()
def tw9964825789254245532:=()
end PySem.W.Fast
open PySem PySem.W PyProof.Rows
set_option maxRecDepth 100000 in
set_option maxHeartbeats 0 in
theorem PySem.Challenge.cw_pursewright_k23_how_runs_end_holds : PySem.Challenge.rw_pursewright_k23_how_runs_end.Holds := by
 w_on;o_law;k_head;(case hw=>w_witness2)
 k_fill
 refine K23.walk (l:=PySem.Challenge.rw_pursewright_k23_how_runs_end) rfl rfl (fun w h Y=>PySem.W.kIn_of Y) ?F
 case F =>
  intro w mg fa h KX G hmg;refine' K23.all_mk KX G hmg ..
  all_goals try first|refine' L2.DY.of ?_ ?_ ?_ ?_|refine' L2.DM.of ?_ ?_ ?_ ?_ ?_
  all_goals try delta L2.NI L2.LK L2.CI L2.KI L2.NB L2.bg
  all_goals try first|k_is|kernel_rfl